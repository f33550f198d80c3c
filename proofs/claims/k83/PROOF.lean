import PyProof.Rows.All
import Wide.All
import OpenK.AllK
import Wide.FinOn
import Lean
import PyProof.EqAt
import PyProof.EqKinds
import PyProof.TupleCall
import PySem.Challenge.RW_sharewheel_k83_the_report
set_option Elab.async false
set_option linter.all false
set_option maxRecDepth 100000
namespace L2
open PySem PySem.Spec PyProof.Rows
abbrev Key:=Sum Int Str
def keyIs:Key->Value->Bool
 | .inl k,v=>Value.isInt k v
 | .inr x,v=>Value.isStrOf x v
def keyH (w:World):Key->Int
 | .inl k=>hashInt k
 | .inr x=>hashStr w x
theorem zbx:∀ {k:Key} {v:Value},keyIs k v=true->(∃ i t,k=Sum.inl i/\v=Value.int i t)\/(∃ x t,k=Sum.inr x/\v=Value.str x t)
 | .inl i,v,h=>by
  obtain ⟨t,e⟩:=Value.isInt_shape (k:=i) (v:=v) h
  exact .inl ⟨i,t,rfl,e⟩
 | .inr x,v,h=>by
  obtain ⟨t,e⟩:=Value.isStrOf_shape (x:=x) (v:=v) h
  exact .inr ⟨x,t,rfl,e⟩
theorem zoq (i:Int) (t:Tok):keyIs (.inl i) (.int i t)=true:=by simp [keyIs,Value.isInt]
theorem zor (x:Str) (t:Tok):keyIs (.inr x) (.str x t)=true:=by simp [keyIs,Value.isStrOf]
theorem zvw (a b:Int):decide ((Sum.inl a:Key)=Sum.inl b)=(a == b):=by
 by_cases e:a=b
 ·subst e; simp
 ·have h:¬ (Sum.inl a:Key)=Sum.inl b:=fun q=>e (Sum.inl.inj q)
  rw [decide_eq_false h]
  exact (beq_eq_false_iff_ne.mpr e).symm
theorem zvx (a b:Str):decide ((Sum.inr a:Key)=Sum.inr b)=decide (a=b):=by
 by_cases e:a=b
 ·subst e; simp
 ·have h:¬ (Sum.inr a:Key)=Sum.inr b:=fun q=>e (Sum.inr.inj q)
  rw [decide_eq_false h,decide_eq_false e]
theorem zvy (a:Int) (b:Str):decide ((Sum.inl a:Key)=Sum.inr b)=false:=decide_eq_false (fun q=>nomatch q)
theorem zvz (a:Str) (b:Int):decide ((Sum.inr a:Key)=Sum.inl b)=false:=decide_eq_false (fun q=>nomatch q)
def zca (prog:Program) (w:World):PySem.KeyKind prog w Key where
 is:=keyIs
 hash:=keyH w
 inj:=fun v a b ha hb=>by
  rcases zbx ha with ⟨i,t,rfl,rfl⟩ | ⟨x,t,rfl,rfl⟩
  ·rcases zbx hb with ⟨j,u,rfl,e⟩ | ⟨y,u,rfl,e⟩
   ·injection e with e1 _; rw [e1]
   ·exact nomatch e
  ·rcases zbx hb with ⟨j,u,rfl,e⟩ | ⟨y,u,rfl,e⟩
   ·exact nomatch e
   ·injection e with e1 _; rw [e1]
 byValue:=fun k v h=>by
  rcases zbx h with ⟨i,t,rfl,rfl⟩ | ⟨x,t,rfl,rfl⟩ <;> rfl
 pyHash:=fun hv h=>by
  rcases zbx hv with ⟨i,t,rfl,rfl⟩ | ⟨x,t,rfl,rfl⟩
  ·exact wpAny_pyHash_int h
  ·exact wpAny_pyHash_str h
 eqBool:=fun hu hv h=>by
  rcases zbx hu with ⟨i,t,rfl,rfl⟩ | ⟨x,t,rfl,rfl⟩
  ·rcases zbx hv with ⟨j,u,rfl,rfl⟩ | ⟨y,u,rfl,rfl⟩
   ·rw [zvw] at h; exact wpAny_eqBool_int h
   ·rw [zvy] at h; exact SeqAt.EqAt.int_str i t y u _ _ _ _ h
  ·rcases zbx hv with ⟨j,u,rfl,rfl⟩ | ⟨y,u,rfl,rfl⟩
   ·rw [zvz] at h; exact SeqAt.EqAt.str_int x t j u _ _ _ _ h
   ·rw [zvx] at h; exact wpAny_eqBool_str h
 «strs»:=fun k x t v h=>by
  rcases zbx h with ⟨i,u,rfl,e⟩ | ⟨y,u,rfl,e⟩
  ·exact nomatch e
  ·injection e with e1 _
   subst e1
   cases v <;> rfl
theorem zly (prog:Program) (w:World) (i:Int) (t:Tok):(zca prog w).is (.inl i) (.int i t)=true:=zoq i t
theorem zlz (prog:Program) (w:World) (x:Str) (t:Tok):(zca prog w).is (.inr x) (.str x t)=true:=zor x t
end L2
namespace L2
open PySem PySem.Spec PyProof.Rows
inductive V where
 | non | bl (b:Bool) | int (i:Int) | str (x:Str) | byt (b:Array UInt8) | flt (b:UInt64) | ref (a:Addr) | ty (n:String)
 deriving DecidableEq
def RelV:V->Value->Prop
 | .non,u=>u=Value.none
 | .bl b,u=>u=Value.bool b
 | .int i,u=>∃ t,u=Value.int i t
 | .str x,u=>∃ t,u=Value.str x t
 | .byt b,u=>∃ t,u=Value.bytes b t
 | .flt b,u=>∃ t,u=Value.float b t
 | .ref a,u=>u=Value.ref a
 | .ty n,u=>u=Value.type n
abbrev Vals:List V->List Value->Prop:=Paired RelV
theorem Vals.length {xs:List V} {us:List Value} (r:Vals xs us):xs.length=us.length:=Paired.length r
theorem Vals.get:∀ {xs:List V} {us:List Value} {i:Nat} {x:V},Vals xs us->xs[i]? = some x->∃ u,us[i]? = some u/\RelV x u
 | _,_,_,_,.nil,e=>by simp at e
 | _,_,0,_,.cons r _,e=>by simp at e; subst e; exact ⟨_,rfl,r⟩
 | _,_,i+1,x,.cons _ t,e=>by
  obtain ⟨u,h1,h2⟩:=Vals.get (i:=i) (x:=x) t (by simpa using e)
  exact ⟨u,by simpa using h1,h2⟩
theorem Vals.append:∀ {xs ys:List V} {us ws:List Value},Vals xs us->Vals ys ws->Vals (xs++ys) (us++ws)
 | _,_,_,_,.nil,s=>s
 | _,_,_,_,.cons r t,s=>.cons r (Vals.append t s)
theorem Vals.take:∀ {xs:List V} {us:List Value} (n:Nat),Vals xs us->Vals (xs.take n) (us.take n)
 | _,_,0,_=>.nil
 | _,_,_ + 1,.nil=>.nil
 | _,_,n+1,.cons r t=>.cons r (Vals.take n t)
theorem Vals.drop:∀ {xs:List V} {us:List Value} (n:Nat),Vals xs us->Vals (xs.drop n) (us.drop n)
 | _,_,0,r=>r
 | _,_,_ + 1,.nil=>.nil
 | _,_,n+1,.cons _ t=>Vals.drop n t
def RelO:Option V->Option Value->Prop
 | some v,some u=>RelV v u
 | none,none=>True
 | _,_=>False
def KV {κ:Type}:List (κ×V)->List (κ×Value)->Prop:=Paired fun (p:κ×V) (q:κ×Value)=>p.1=q.1/\RelV p.2 q.2
def kV:Key->V
 | .inl i=>.int i
 | .inr x=>.str x
inductive HO where
 | lst (xs:List V)
 | tup (xs:List V)
 | dK (kvs:List (Key×V)) | dT (kvs:List (List Key×V))
 | set (S:Int->Bool) (n:Nat)
 | ins (C dx:Addr) (fs:List (Str×V))
 | own (x:Addr)
 | xd (fs:List (Str×V))
 | met (f x:Addr)
 | rng (lo hi:Int)
 | frz (o:Obj) (u:HO)
 | tbl (ps:Array Value)
 | ext (φ:Heap->Prop)
abbrev Hp:=Addr->Option HO
def upd (H:Hp) (a:Addr) (o:HO):Hp:=fun b=>if b=a then some o else H b
theorem zab {H:Hp} {a:Addr} {o:HO}:upd H a o a=some o:=by unfold upd; rw [if_pos rfl]
theorem zai {H:Hp} {a b:Addr} {o:HO} (h:b≠a):upd H a o b=H b:=by unfold upd; rw [if_neg h]
theorem zjw {H:Hp} {a:Addr} {o u:HO}:upd (upd H a o) a u=upd H a u:=by
 funext b; unfold upd; split <;> rfl
theorem ne_of {H:Hp} {a b:Addr} {o u:HO} (h:H a=some o) (h':H b=some u) (d:o≠u):a≠b:=by
 intro e; subst e; rw [h] at h'; exact d (Option.some.inj h')
theorem zah {H:Hp} {a b:Addr} {o:HO} (h:H a=some o) (h':H b=none):a≠b:=by
 intro e; subst e; rw [h] at h'; cases h'
section
variable (P:Program) (w:World)
def ObjOk (H:Hp) (h:Heap) (a:Addr):HO->Prop
  | .lst xs=>xs.length<=sizeLine/\∃ (its:List Value) (n:Nat),Vals xs its/\h.get? a=some { cls:=.type "list", data:=.seq its.toArray n }
  | .tup xs=>xs.length<=sizeLine/\∃ its:List Value,Vals xs its/\IsTup h a its.toArray
  | .dK kvs=>kvs.length<=sizeLine/\(a == sysModules)=false/\∃ vs,KV kvs vs/\h.DictOf (zca P w) a vs
  | .dT kvs=>kvs.length<=sizeLine/\(a == sysModules)=false/\∃ xs:List (List Key×Addr×Value),
      Paired (fun (p:List Key×V) (q:List Key×Addr×Value)=>p.1=q.1/\H q.2.1=some (.tup (p.1.map kV))/\RelV p.2 q.2.2) kvs xs /\
      ∃ o es ep,h.get? a=some o/\o.ExactDict/\o.data = .dict es ep/\es.toList=xs.map (entryOfKey (tupleKind (zca P w)))/\(xs.map (·.1)).Nodup
  | .set S n=>h.SetOf (intKind P w) a S n
  | .ins C dx fs=>H dx=some (.own a)/\fs.length<=1000/\dx≠a/\h.get? a=some (PySem.W.instObj C dx) /\
      ∃ mA,h.Ns1 dx mA/\(∀ f,RelO (fs.lookup f) (mA f))/\PySem.Within mA (fs.map (·.1))
  | .own _=>∃ o,h.get? a=some o
  | .xd fs=>∃ mA,h.Ns1 a mA/\∀ f,RelO (fs.lookup f) (mA f)
  | .rng lo hi=>∃ t u v,h.get? a=some { cls:=.type "range", data:=.fields #[.int lo t,.int hi u,.int 1 v] }
  | .frz o u=>h.get? a=some o/\ObjOk H h a u
  | .tbl ps=>h.get? a=some { cls:=.none,data:=.fields ps }
  | .met f x=>h.get? a=some (PySem.W.methodObj (.ref f) (.ref x))
  | .ext φ=>φ h/\(∃ o,h.get? a=some o)/\∀ h1 h2:Heap,φ h1->(∀ o,h1.get? a=some o->h2.get? a=some o)->φ h2
def HOk (H:Hp) (h:Heap):Prop:=∀ a o,H a=some o->ObjOk P w H h a o
end
section
variable {P:Program} {w:World} {H H':Hp} {h h':Heap} {a:Addr} {o:HO}
theorem ObjOk.lt (x:ObjOk P w H h a o):a<h.objs.size:=by
 cases o with
 | lst xs=>obtain ⟨_,_,_,_,e⟩:=x; exact Heap.lt_size e
 | tup xs=>obtain ⟨_,_,_,p⟩:=x; exact p.lt
 | dK kvs=>obtain ⟨_,_,_,_,o,_,_,e,_⟩:=x; exact Heap.lt_size e
 | dT kvs=>obtain ⟨_,_,_,_,o,_,_,e,_⟩:=x; exact Heap.lt_size e
 | set S n=>obtain ⟨o,_,_,_,e,_⟩:=x; exact Heap.lt_size e
 | ins C dx fs=>obtain ⟨_,_,_,e,_⟩:=x; exact Heap.lt_size e
 | own y=>obtain ⟨_,e⟩:=x; exact Heap.lt_size e
 | xd fs=>obtain ⟨_,⟨_,_,_,e,_⟩,_⟩:=x; exact Heap.lt_size e
 | rng lo hi=>obtain ⟨_,_,_,e⟩:=x; exact Heap.lt_size e
 | frz ob u=>obtain ⟨e,_⟩:=x; exact Heap.lt_size e
 | tbl ps=>exact Heap.lt_size (show h.get? a=some _ from x)
 | met f y=>exact Heap.lt_size (show h.get? a=some _ from x)
 | ext φ=>obtain ⟨_,⟨_,e⟩,_⟩:=x; exact Heap.lt_size e
theorem Paired.mapP {α β:Type} {F G:α->β->Prop}:∀ {l₁:List α} {l₂:List β},Paired F l₁ l₂->(∀ a b,F a b->G a b)->Paired G l₁ l₂
 | _,_,.nil,_=>.nil
 | _,_,.cons r t,f=>.cons (f _ _ r) (Paired.mapP t f)
theorem ObjOk.stay (x:ObjOk P w H h a o) (k:∀ b u,(b=a\/H b=some (.own a))->h.get? b=some u->h'.get? b=some u)
    (ho:∀ b,H b=some (.own a)->H' b=some (.own a)) (ht:∀ b xs,H b=some (.tup xs)->H' b=some (.tup xs)):ObjOk P w H' h' a o:=by
  induction o with
  | lst xs=>obtain ⟨z,its,n,r,e⟩:=x; exact ⟨z,its,n,r,k _ _ (.inl rfl) e⟩
  | tup xs=>obtain ⟨z,its,r,ob,e,c⟩:=x; exact ⟨z,its,r,ob,k _ _ (.inl rfl) e,c⟩
  | dK kvs=>obtain ⟨z,y,vs,r,ob,es,ep,e,c⟩:=x; exact ⟨z,y,vs,r,ob,es,ep,k _ _ (.inl rfl) e,c⟩
  | dT kvs =>
    obtain ⟨z,y,xs,r,ob,es,ep,e,c⟩:=x
    exact ⟨z,y,xs,Paired.mapP r fun p q z=>⟨z.1,ht _ _ z.2.1,z.2.2⟩,ob,es,ep,k _ _ (.inl rfl) e,c⟩
  | set S n=>obtain ⟨ob,es,ep,t,e,c⟩:=x; exact ⟨ob,es,ep,t,k _ _ (.inl rfl) e,c⟩
  | ins C dx fs =>
    obtain ⟨d,z,ne,e,mA,⟨od,es,ep,e2,c⟩,r⟩:=x
    exact ⟨ho _ d,z,ne,k _ _ (.inl rfl) e,mA,⟨od,es,ep,k _ _ (.inr d) e2,c⟩,r⟩
  | own y=>obtain ⟨ob,e⟩:=x; exact ⟨ob,k _ _ (.inl rfl) e⟩
  | xd fs=>obtain ⟨mA,⟨od,es,ep,e,c⟩,r⟩:=x; exact ⟨mA,⟨od,es,ep,k _ _ (.inl rfl) e,c⟩,r⟩
  | rng lo hi=>obtain ⟨t,u,v,e⟩:=x; exact ⟨t,u,v,k _ _ (.inl rfl) e⟩
  | frz ob u ih=>obtain ⟨e,q⟩:=x; exact ⟨k _ _ (.inl rfl) e,ih q⟩
  | tbl ps =>
    have e:h.get? a=some { cls:=.none,data:=.fields ps }:=x
    show h'.get? a=some { cls:=.none,data:=.fields ps }
    exact k a _ (.inl rfl) e
  | met f y =>
    have e:h.get? a=some (PySem.W.methodObj (.ref f) (.ref y)):=x
    show h'.get? a=some (PySem.W.methodObj (.ref f) (.ref y))
    exact k a _ (.inl rfl) e
  | ext φ=>obtain ⟨p,⟨o,e⟩,st⟩:=x; exact ⟨st _ _ p fun o q=>k _ _ (.inl rfl) q,⟨o,k _ _ (.inl rfl) e⟩,st⟩
theorem HOk.lt (x:HOk P w H h) (e:H a=some o):a<h.objs.size:=(x a o e).lt
theorem HOk.fresh (x:HOk P w H h) (e:h.objs.size<=a):H a=none:=by
 cases q:H a with
 | none=>rfl
 | some u=>exact absurd (Nat.lt_of_lt_of_le (x.lt q) e) (Nat.lt_irrefl _)
theorem HOk.kept (x:HOk P w H h) (k:∀ b u,h.get? b=some u->h'.get? b=some u):HOk P w H h':=fun a o e =>
 (x a o e).stay (fun b u _ q=>k b u q) (fun _ q=>q) fun _ _ q=>q
theorem HOk.laid (x:HOk P w H h) (k:∀ b u,h.get? b=some u->h'.get? b=some u) (hp:h.objs.size<=a) (new:ObjOk P w (upd H a o) h' a o):HOk P w (upd H a o) h':=fun b u e=>by
 have hn:=x.fresh hp
 by_cases hb:b=a
 ·subst hb; rw [zab] at e; cases e; exact new
 ·rw [zai hb] at e
  exact (x b u e).stay (fun c v _ q=>k c v q) (fun c q=>by rw [zai (zah q hn)]; exact q) fun c xs q=>by rw [zai (zah q hn)]; exact q
end
def Rd (H:Hp) (a:Addr) (u:HO):Prop:=H a=some u\/∃ o,H a=some (.frz o u)
theorem Rd.ok {P:Program} {w:World} {H:Hp} {h:Heap} {a:Addr} {u:HO} (r:Rd H a u) (x:HOk P w H h):ObjOk P w H h a u:=by
 rcases r with r | ⟨o,r⟩
 ·exact x a u r
 ·obtain ⟨_,q⟩:=x a _ r
  exact q
def Mut:Option HO->Prop
 | some (.lst _)=>True
 | some (.dK _)=>True
 | some (.dT _)=>True
 | some (.set _ _)=>True
 | some (.ins _ _ _)=>True
 | some (.ext _)=>True
 | _=>False
section
variable {P:Program} {w:World} {H:Hp} {h h':Heap} {x e:Addr} {o':HO}
theorem HOk.write (ok:HOk P w H h) (mu:Mut (H x)) (he:e=x\/H e=some (.own x)) (k:∀ b u,b≠e->h.get? b=some u->h'.get? b=some u) (heo:∃ u,h'.get? e=some u)
    (new:ObjOk P w (upd H x o') h' x o'):HOk P w (upd H x o') h':=fun b u q=>by
  have nown:∀ c y,H c=some (.own y)->c≠x:=fun c y r z=>by subst z; rw [r] at mu; exact mu
  have ntup:∀ c xs,H c=some (.tup xs)->c≠x:=fun c xs r z=>by subst z; rw [r] at mu; exact mu
  by_cases hb:b=x
  · subst hb; rw [zab] at q; cases q; exact new
  · rw [zai hb] at q
    by_cases hbe:b=e
    · have q':H b=some (.own x):=by
        rcases he with z | z
        · exact absurd (hbe.trans z) hb
        · rw [hbe]; exact z
      rw [q] at q'; cases q'
      obtain ⟨v,hv⟩:=heo
      exact ⟨v,by rw [hbe]; exact hv⟩
    · refine (ok b u q).stay (fun c v hc r=>k c v ?_ r) (fun c r=>by rw [zai (nown c b r)]; exact r) fun c xs r=>by rw [zai (ntup c xs r)]; exact r
      rcases hc with rfl | hc
      · exact hbe
      · rintro rfl
        rcases he with z | z
        · exact nown c b hc z
        · rw [hc] at z; cases z; exact hb rfl
end
structure Un (fs ex:List Addr) (H H':Hp) (h h':Heap):Prop where
 keep:∀ b o,h.get? b=some o->H b=none->b ∉ fs->b ∉ ex->h'.get? b=some o
 slot:∀ b o,h.get? b=some o->H b=none->b∈fs->b ∉ ex->∃ sl,h'.get? b=some { o with slots:=sl }
 free:∀ b o,h.get? b=some o->H b=none->b ∉ ex->H' b=none
 there:∀ b o,h.get? b=some o->b ∉ ex->∃ o',h'.get? b=some o'
 tups:∀ b xs,H b=some (.tup xs)->H' b=some (.tup xs)
 frzs:∀ b o u,H b=some (.frz o u)->H' b=some (.frz o u)
 tbls:∀ b ps,H b=some (.tbl ps)->∃ more,H' b=some (.tbl (ps++more))
section
variable {fs fs' ex ex':List Addr} {H H1 H2:Hp} {h h1 h2 h':Heap} {a x e:Addr} {o:HO}
theorem Un.any (u:Un fs ex H H1 h h1) {b:Addr} {ob:Obj} (q:h.get? b=some ob) (n:H b=none) (hx:b ∉ ex):∃ sl,h1.get? b=some { ob with slots:=sl }:=by
 by_cases hb:b∈fs
 ·exact u.slot b ob q n hb hx
 ·exact ⟨ob.slots,u.keep b ob q n hb hx⟩
theorem Un.kept (k:∀ b u,h.get? b=some u->h'.get? b=some u):Un fs ex H H h h' :=
 ⟨fun b ob q _ _ _=>k b ob q,fun b ob q _ _ _=>⟨ob.slots,k b ob q⟩,fun _ _ _ n _=>n,fun b ob q _=>⟨ob,k b ob q⟩,fun _ _ q=>q,fun _ _ _ q=>q,fun _ ps q=>⟨#[],by rw [q]; simp⟩⟩
theorem Un.refl:Un fs ex H H h h:=Un.kept fun _ _ q=>q
theorem Un.laid (k:∀ b u,h.get? b=some u->h'.get? b=some u) (hp:h.objs.size<=a) (hn:H a=none):Un fs ex H (upd H a o) h h' where
 keep:=fun b u q _ _ _=>k b u q
 slot:=fun b u q _ _ _=>⟨u.slots,k b u q⟩
 free:=fun b u q n _=>by rw [zai (Nat.ne_of_lt (Nat.lt_of_lt_of_le (Heap.lt_size q) hp))]; exact n
 there:=fun b u q _=>⟨u,k b u q⟩
 tups:=fun b xs q=>by rw [zai (zah q hn)]; exact q
 frzs:=fun b u xs q=>by rw [zai (zah q hn)]; exact q
 tbls:=fun b ps q=>⟨#[],by rw [zai (zah q hn),q]; simp⟩
theorem Un.write (mu:Mut (H x)) (he:e=x\/H e=some (.own x)) (k:∀ b u,b≠e->h.get? b=some u->h'.get? b=some u) (heo:∃ u,h'.get? e=some u):Un fs ex H (upd H x o) h h':=by
 have hx:∀ b,H b=none->b≠x:=fun b n z=>by subst z; rw [n] at mu; exact mu
 have hb:∀ b,H b=none->b≠e:=fun b n z=>by
  subst z
  rcases he with r | r
  ·exact hx b n r
  ·rw [n] at r; cases r
 have hm:∀ b u,H b=some u->¬ Mut (some u)->b≠x:=fun b u q nm z=>by subst z; rw [q] at mu; exact nm mu
 refine ⟨fun b u q n _ _=>k b u (hb b n) q,fun b u q n _ _=>⟨u.slots,k b u (hb b n) q⟩,fun b u q n _=>by rw [zai (hx b n)]; exact n,fun b u q _=>?_,
  fun b xs q=>by rw [zai (hm b _ q fun z=>z)]; exact q,fun b u xs q=>by rw [zai (hm b _ q fun z=>z)]; exact q,fun b ps q=>⟨#[],by rw [zai (hm b _ q fun z=>z),q]; simp⟩⟩
 by_cases hbe:b=e
 ·subst hbe; exact heo
 ·exact ⟨u,k b u hbe q⟩
end
def trk (h:Heap) (H:Hp):List Addr:=(List.range h.objs.size).filter fun a=>(H a).isSome
def hidT (h:Heap) (H:Hp):Heap:=PySem.W.hideAll h (trk h H)
theorem zos (h:Heap) (H:Hp):(hidT h H).objs.size=h.objs.size:=PySem.W.hideAll_size _ _
theorem zrh {h:Heap} {H:Hp} {b:Addr} {o:Obj} (e:h.get? b=some o) (n:H b=none):(hidT h H).get? b=some o :=
 PySem.W.hideAll_get _ e fun hm=>by
  have q:(H b).isSome=true:=(List.mem_filter.mp hm).2
  rw [n] at q; simp at q
theorem zto {h:Heap} {H:Hp} {b:Addr} {o:Obj} (e:(hidT h H).get? b=some o):h.get? b=some o/\H b=none:=by
 have e':h.get? b=some o:=PySem.W.of_hideAll (trk h H) e
 refine ⟨e',?_⟩
 cases q:H b with
 | none=>rfl
 | some x =>
  have hm:b∈trk h H:=List.mem_filter.mpr ⟨List.mem_range.mpr (Heap.lt_size e'),by simp [q]⟩
  have z:(hidT h H).get? b=none:=PySem.W.hideAll_none (trk h H) hm
  rw [z] at e; cases e
def ztp (g h:Heap) (L:Addr):List (Addr×Obj):=(List.range h.objs.size).filterMap fun a=>if a=L\/(g.get? a).isSome=true then none else (h.get? a).map fun o=>(a,o)
def rest (g h:Heap) (L d:Addr):List (Addr×Obj):=(ztp g h L).filter fun p=>decide (p.1≠d)
end L2
namespace L2
open PySem PySem.Spec PyProof.Rows
structure Mod (K:PySem.W.Frag) (mg:Str->Option Value) (base:Heap):Prop where
 kin:K.In base
 glob:base.Ns mainGlobals mg
 blt:∃ mb,base.Ns builtinsNs mb/\∀ x:Str,x ≠ "__name__" -> mb x=bootBuiltins x
 nolimit:base.NoLimit
structure Cx where
 prog:Program
 w:World
 K:PySem.W.Frag
 mg:Str->Option Value
 base:Heap
 A:Around
 N:List Str
 s₀:Shared
 H₀:Hp
 env:Env
 outer:List Env
 stack:List Env
 ex:List Addr
 fn:Str->Bool
 calm:Bool
 pn:List (Addr×Obj)
 xe:Value->Shared->Prop
def frs (l:List Env):List Addr:=l.filterMap (·.frame)
abbrev Cx.fs (X:Cx):List Addr:=frs X.outer
def Vis (sc:Scope) (x:Str):Prop:=sc.names.lookup x=some .local\/sc.names.lookup x=some .cell\/sc.names.lookup x=some .free
def Loc (sc:Scope) (x:Str):Prop:=sc.names.lookup x=some .local\/sc.names.lookup x=some .cell
def Look (env:Env) (h:Heap) (m:Str->Option Value) (x:Str) (u:Value):Prop :=
 (env.kindOf x=some .local/\m x=some u)\/((env.kindOf x=some .cell\/env.kindOf x=some .free)/\∃ c,env.cells.lookup x=some c/\h.IsCell c (some u))
structure Cx.Ok (X:Cx):Prop where
 mod:Mod X.K X.mg X.base
 kind:X.env.scope.kind = .function
 glob:X.env.globals=mainGlobals
 blt:X.env.builtins=builtinsNs
 above:X.s₀.heap.objs.size<=X.env.locals
 inj:∀ x y c,X.env.cells.lookup x=some c->X.env.cells.lookup y=some c->x=y
 has:∀ x,(X.env.kindOf x=some .cell\/X.env.kindOf x=some .free)->∃ c,X.env.cells.lookup x=some c
 cab:∀ x c,X.fn x=true->X.env.cells.lookup x=some c->X.s₀.heap.objs.size<=c
 hd:X.calm=true->X.A.handled=none
 frames:X.A.frames=some X.stack
 stk:X.stack=X.outer\/(X.stack=X.env :: X.outer/\X.env.frame=some X.env.locals)
 exf:∀ b∈X.ex,b≠X.env.locals/\∀ x c,X.env.cells.lookup x=some c->c≠b
 bs:∀ b o,X.base.get? b=some o->X.s₀.heap.get? b=some o/\X.H₀ b=none
 bsz:X.base.objs.size<=X.s₀.heap.objs.size
 noex:∀ b o,X.base.get? b=some o->b ∉ X.ex
 exfs:∀ b∈X.ex,b ∉ X.fs
 funs:X.s₀.heap.FunFrames X.base X.outer
 frf:∀ b∈X.fs,X.H₀ b=none
structure Inv (X:Cx) (pins:List (Addr×Obj)) (σ:List (Option V)) (H:Hp) (s:Shared):Prop where
 ok:X.Ok
 os:s.os=X.s₀.os
 bare:AllBare s.gens
 base:Un X.fs X.ex X.H₀ H X.s₀.heap s.heap
 loc:∃ m,s.heap.Ns X.env.locals m/\∀ (i:Nat) (x:Str) (v:V),X.N[i]? = some x->σ[i]? = some (some v)->Vis X.env.scope x->∃ u,RelV v u/\Look X.env s.heap m x u
 cell:∀ x c,X.env.cells.lookup x=some c->∃ v,s.heap.IsCell c v
 free:H X.env.locals=none
 freeC:∀ x c,X.env.cells.lookup x=some c->H c=none
 pin:∀ p∈X.pn++pins,s.heap.get? p.1=some p.2/\H p.1=none/\p.1≠X.env.locals/\p.1 ∉ X.fs/\∀ v,p.2.data≠.cell v
 hok:HOk X.prog X.w H s.heap
 len:σ.length=X.N.length
section
variable {X:Cx} {pins:List (Addr×Obj)} {σ:List (Option V)} {H H':Hp} {s:Shared} {h':Heap}
theorem Cx.Ok.nofr (ok:X.Ok) {b:Addr} {o:Obj} (e:X.base.get? b=some o):b ∉ X.fs:=fun hb=>by
 have:=(ok.funs.mem hb).1
 rw [e] at this; cases this
theorem Inv.bs (I:Inv X pins σ H s):∀ b o,X.base.get? b=some o->s.heap.get? b=some o/\H b=none:=fun b o e =>
 ⟨I.base.keep b o (I.ok.bs b o e).1 (I.ok.bs b o e).2 (I.ok.nofr e) (I.ok.noex b o e),I.base.free b o (I.ok.bs b o e).1 (I.ok.bs b o e).2 (I.ok.noex b o e)⟩
theorem Inv.bk (I:Inv X pins σ H s):∀ b o,X.base.get? b=some o->s.heap.get? b=some o:=fun b o e=>(I.bs b o e).1
theorem Inv.mod (I:Inv X pins σ H s):Mod X.K X.mg X.base:=I.ok.mod
theorem Inv.kIn (I:Inv X pins σ H s):X.K.In s.heap:=I.ok.mod.kin.keeps I.bk
theorem Inv.lt (I:Inv X pins σ H s):X.env.locals<s.heap.objs.size:=let ⟨_,hn,_⟩:=I.loc; hn.lt
theorem Inv.sz (I:Inv X pins σ H s):X.s₀.heap.objs.size<=s.heap.objs.size:=Nat.le_trans I.ok.above (Nat.le_of_lt I.lt)
theorem Inv.nofs (I:Inv X pins σ H s) {a:Addr} (h:s.heap.objs.size<=a):a ∉ X.fs:=fun hb=>by
 obtain ⟨_,o,ho,_⟩:=I.ok.funs.mem hb
 exact absurd (Nat.lt_of_lt_of_le (Heap.lt_size ho) (Nat.le_trans I.sz h)) (Nat.lt_irrefl _)
theorem Inv.cne (I:Inv X pins σ H s):∀ x c,X.env.cells.lookup x=some c->c≠X.env.locals:=fun x c e z=>by
 obtain ⟨v,o,ho,hd⟩:=I.cell x c e
 obtain ⟨m,⟨o',es,ep,ho',hd',_⟩,_⟩:=I.loc
 rw [z,ho'] at ho; cases ho; rw [hd'] at hd; cases hd
theorem Inv.funs (I:Inv X pins σ H s):s.heap.FunFrames X.base X.outer:=by
 have all:∀ (l:List Env),(∀ b∈frs l,b∈X.fs)->X.s₀.heap.FunFrames X.base l->s.heap.FunFrames X.base l:=by
  intro l
  induction l with
  | nil=>intro _ _; trivial
  | cons env r ih =>
   intro hs hl
   obtain ⟨hk,⟨L,o,hf,hn,ho,hd⟩,hr⟩:=hl
   have hL:L∈X.fs:=hs L (by unfold frs; rw [List.filterMap_cons,hf]; exact List.mem_cons_self)
   obtain ⟨sl,e⟩:=I.base.slot L o ho (I.ok.frf L hL) hL fun z=>I.ok.exfs L z hL
   exact ⟨hk,⟨L,_,hf,hn,e,hd⟩,ih (fun b hb=>hs b (by unfold frs; rw [List.filterMap_cons,hf]; exact List.mem_cons_of_mem _ hb)) hr⟩
 exact all X.outer (fun _ hb=>hb) I.ok.funs
theorem Inv.stack (I:Inv X pins σ H s):s.heap.FunFrames X.base X.stack:=by
 rcases I.ok.stk with e | ⟨e,hf⟩
 ·rw [e]; exact I.funs
 ·rw [e]
  obtain ⟨m,hn,_⟩:=I.loc
  refine .cons (by rw [I.ok.kind]; decide) hf hn ?_ I.funs
  exact Heap.get?_none_of_le (Nat.le_trans I.ok.bsz I.ok.above)
theorem Inv.stkSub (I:Inv X pins σ H s):∀ b∈frs X.stack,b∈X.env.locals :: X.fs:=fun b hb=>by
 rcases I.ok.stk with e | ⟨e,hf⟩
 ·rw [e] at hb; exact List.mem_cons_of_mem _ hb
 ·rw [e] at hb
  unfold frs at hb
  rw [List.filterMap_cons,hf] at hb
  exact hb
theorem Inv.stkFree (I:Inv X pins σ H s):∀ b∈frs X.stack,H b=none:=fun b hb=>by
 rcases List.mem_cons.mp (I.stkSub b hb) with e | hb
 ·rw [e]; exact I.free
 ·obtain ⟨_,o,ho,_⟩:=I.ok.funs.mem hb
  exact I.base.free b o ho (I.ok.frf b hb) fun z=>I.ok.exfs b z hb
theorem Inv.step {g':Array GenState} {t':Nat} {d':Drawn} {ch:List Addr} (I:Inv X pins σ H s)
    (hch:∀ b∈ch,(b∈X.ex\/X.s₀.heap.objs.size<=b)/\b≠X.env.locals/\(∀ x c,X.env.cells.lookup x=some c->c≠b)/\∀ p∈X.pn++pins,p.1≠b)
    (keep:∀ b o,b≠X.env.locals->b ∉ X.fs->b ∉ ch->s.heap.get? b=some o->H b=none->h'.get? b=some o)
    (slot:∀ b o,b≠X.env.locals->b∈X.fs->b ∉ ch->s.heap.get? b=some o->H b=none->∃ sl,h'.get? b=some { o with slots:=sl }) (free:∀ b o,b ∉ ch->s.heap.get? b=some o->H b=none->H' b=none)
    (there:∀ b o,b ∉ ch->s.heap.get? b=some o->∃ o',h'.get? b=some o')
    (tups:∀ b xs,H b=some (.tup xs)->H' b=some (.tup xs)) (frzs:∀ b o u,H b=some (.frz o u)->H' b=some (.frz o u)) (tbls:∀ b ps,H b=some (.tbl ps)->∃ more,H' b=some (.tbl (ps++more)))
    (ns:∀ m,s.heap.Ns X.env.locals m->h'.Ns X.env.locals m) (hok:HOk X.prog X.w H' h') (hg:AllBare g') :
    Inv X pins σ H' { s with heap:=h',gens:=g',drawn:=d',toks:=t' }:=by
  have neL:∀ b o,X.s₀.heap.get? b=some o->b≠X.env.locals:=fun b o e=>Nat.ne_of_lt (Nat.lt_of_lt_of_le (Heap.lt_size e) I.ok.above)
  have neC:∀ b o,X.s₀.heap.get? b=some o->b ∉ X.ex->b ∉ ch:=fun b o e hx hb=>by
    rcases (hch b hb).1 with z | z
    · exact hx z
    · exact absurd (Nat.lt_of_lt_of_le (Heap.lt_size e) z) (Nat.lt_irrefl _)
  have cellK:∀ x c,X.env.cells.lookup x=some c->∀ v,s.heap.IsCell c v->h'.IsCell c v:=fun x c e v ⟨o,ho,hd⟩=>by
    have nch:c ∉ ch:=fun z=>(hch c z).2.2.1 x c e rfl
    by_cases hc:c∈X.fs
    · obtain ⟨sl,q⟩:=slot c o (I.cne x c e) hc nch ho (I.freeC x c e)
      exact ⟨_,q,hd⟩
    · exact ⟨o,keep c o (I.cne x c e) hc nch ho (I.freeC x c e),hd⟩
  refine ⟨I.ok,I.os,hg,⟨fun b o e n hb hx=>?_,fun b o e n hb hx=>?_,fun b o e n hx=>?_,fun b o e hx=>?_,fun b xs e=>tups b xs (I.base.tups b xs e),fun b o xs e=>frzs b o xs (I.base.frzs b o xs e),fun b ps e=>?_⟩,?_,fun x c e=>?_,?_,fun x c e=>?_,fun p hp=>?_,hok,I.len⟩
  · exact keep b o (neL b o e) hb (neC b o e hx) (I.base.keep b o e n hb hx) (I.base.free b o e n hx)
  · obtain ⟨sl,e1⟩:=I.base.slot b o e n hb hx
    obtain ⟨sl',e2⟩:=slot b _ (neL b o e) hb (neC b o e hx) e1 (I.base.free b o e n hx)
    exact ⟨sl',e2⟩
  · obtain ⟨o',e1⟩:=I.base.there b o e hx
    exact free b o' (neC b o e hx) e1 (I.base.free b o e n hx)
  · obtain ⟨o',e1⟩:=I.base.there b o e hx
    exact there b o' (neC b o e hx) e1
  · obtain ⟨m1,e1⟩:=I.base.tbls b ps e
    obtain ⟨m2,e2⟩:=tbls b _ e1
    exact ⟨m1++m2,by rw [e2,Array.append_assoc]⟩
  · obtain ⟨m,hn,hl⟩:=I.loc
    refine ⟨m,ns m hn,fun i x v e1 e2 e3=>?_⟩
    obtain ⟨u,r,l⟩:=hl i x v e1 e2 e3
    refine ⟨u,r,?_⟩
    rcases l with l | ⟨k,c,e,z⟩
    · exact .inl l
    · exact .inr ⟨k,c,e,cellK x c e _ z⟩
  · obtain ⟨v,z⟩:=I.cell x c e
    exact ⟨v,cellK x c e v z⟩
  · obtain ⟨m,⟨o,_,_,ho,_⟩,_⟩:=I.loc
    exact free _ o (fun z=>(hch _ z).2.1 rfl) ho I.free
  · obtain ⟨v,o,ho,hd⟩:=I.cell x c e
    exact free c o (fun z=>(hch c z).2.2.1 x c e rfl) ho (I.freeC x c e)
  · obtain ⟨e,n,ne,nf,d⟩:=I.pin p hp
    have nch:p.1 ∉ ch:=fun z=>(hch p.1 z).2.2.2 p hp rfl
    exact ⟨keep p.1 p.2 ne nf nch e n,free p.1 p.2 nch e n,ne,nf,d⟩
theorem Inv.un {t':Nat} (I:Inv X pins σ H s) (u:Un X.fs [] H H' s.heap h') (hok:HOk X.prog X.w H' h'):Inv X pins σ H' { s with heap:=h',toks:=t' }:=by
 obtain ⟨m,⟨o,es,ep,ho,r⟩,_⟩:=id I.loc
 obtain ⟨sl,hL⟩:=u.any ho I.free (by simp)
 exact I.step (g':=s.gens) (d':=s.drawn) (ch:=[]) (fun _ z=>nomatch z) (fun b o _ hb _ e n=>u.keep b o e n hb (by simp)) (fun b o _ hb _ e n=>u.slot b o e n hb (by simp)) (fun b o _ e n=>u.free b o e n (by simp)) (fun b o _ e=>u.there b o e (by simp)) u.tups u.frzs u.tbls (fun m' hm=>by
  obtain ⟨o',es',ep',ho',r'⟩:=hm
  rw [ho] at ho'; cases ho'
  exact ⟨_,es',ep',hL,r'⟩) hok I.bare
theorem Inv.call {g':Array GenState} {t':Nat} {d':Drawn} {ch:List Addr} (I:Inv X pins σ H s) (u:Un (frs X.stack) ch H H' s.heap h') (hok:HOk X.prog X.w H' h') (hg:AllBare g')
    (hch:∀ b∈ch,(b∈X.ex\/X.s₀.heap.objs.size<=b)/\b≠X.env.locals/\(∀ x c,X.env.cells.lookup x=some c->c≠b)/\∀ p∈X.pn++pins,p.1≠b) :
    Inv X pins σ H' { s with heap:=h',gens:=g',drawn:=d',toks:=t' }:=by
  obtain ⟨m,⟨o,es,ep,ho,r⟩,_⟩:=id I.loc
  obtain ⟨sl,hL⟩:=u.any ho I.free fun z=>(hch _ z).2.1 rfl
  exact I.step (ch:=ch) hch (fun b o hL hb hc e n=>u.keep b o e n (fun z=>(List.mem_cons.mp (I.stkSub b z)).elim hL hb) hc) (fun b o _ _ hc e n=>u.any e n hc) (fun b o hc e n=>u.free b o e n hc) (fun b o hc e=>u.there b o e hc) u.tups u.frzs u.tbls (fun m' hm=>by
    obtain ⟨o',es',ep',ho',r'⟩:=hm
    rw [ho] at ho'; cases ho'
    exact ⟨_,es',ep',hL,r'⟩) hok hg
theorem Inv.turned {t':Nat} {it:Addr} (I:Inv X pins σ H s) (k:∀ b o,b≠it->s.heap.get? b=some o->h'.get? b=some o) (hn:H it=none) (hL:it≠X.env.locals)
    (h1:it∈X.ex\/X.s₀.heap.objs.size<=it) (h2:∀ x c,X.env.cells.lookup x=some c->c≠it) (h3:∀ p∈X.pn++pins,p.1≠it):Inv X pins σ H { s with heap:=h',toks:=t' }:=by
  have nit:∀ b u,H b=some u->b≠it:=fun b u e z=>by rw [z,hn] at e; cases e
  refine I.step (g':=s.gens) (d':=s.drawn) (ch:=[it]) (fun b hb=>?_) (fun b o _ _ hc e _=>k b o (fun z=>hc (by simp [z])) e) (fun b o _ _ hc e _=>⟨o.slots,k b o (fun z=>hc (by simp [z])) e⟩) (fun _ _ _ _ n=>n)
    (fun b o hc e=>⟨o,k b o (fun z=>hc (by simp [z])) e⟩) (fun _ _ e=>e) (fun _ _ _ e=>e) (fun b ps e=>⟨#[],by rw [e]; simp⟩) (fun m hm=>?_) (fun b u e=>?_) I.bare
  · have e:b=it:=by simpa using hb
    subst e
    exact ⟨h1,hL,h2,h3⟩
  · obtain ⟨o,es,ep,ho,r⟩:=hm
    exact ⟨o,es,ep,k _ o (Ne.symm hL) ho,r⟩
  · refine (I.hok b u e).stay (fun c v hc q=>k c v ?_ q) (fun _ q=>q) fun _ _ q=>q
    rcases hc with z | z
    · rw [z]; exact nit b u e
    · exact nit c _ z
theorem Inv.tok (I:Inv X pins σ H s) (t:Nat):Inv X pins σ H { s with toks:=t }:=I.un (h':=s.heap) (t':=t) Un.refl I.hok
theorem Inv.kept {t':Nat} (I:Inv X pins σ H s) (k:∀ b u,s.heap.get? b=some u->h'.get? b=some u):Inv X pins σ H { s with heap:=h',toks:=t' }:=I.un (Un.kept k) (I.hok.kept k)
theorem Inv.laid {a:Addr} {o:HO} {t':Nat} (I:Inv X pins σ H s) (k:∀ b u,s.heap.get? b=some u->h'.get? b=some u) (hp:s.heap.objs.size<=a) (new:ObjOk X.prog X.w (upd H a o) h' a o) :
    Inv X pins σ (upd H a o) { s with heap:=h',toks:=t' }:=I.un (Un.laid k hp (I.hok.fresh hp)) (I.hok.laid k hp new)
theorem Inv.write {x e:Addr} {o:HO} {t':Nat} (I:Inv X pins σ H s) (mu:Mut (H x)) (he:e=x\/H e=some (.own x)) (k:∀ b u,b≠e->s.heap.get? b=some u->h'.get? b=some u) (heo:∃ u,h'.get? e=some u)
    (new:ObjOk X.prog X.w (upd H x o) h' x o):Inv X pins σ (upd H x o) { s with heap:=h',toks:=t' }:=I.un (Un.write mu he k heo) (I.hok.write mu he k heo new)
theorem Inv.pins_of {pins':List (Addr×Obj)} (I:Inv X pins σ H s) (h:∀ p∈pins',s.heap.get? p.1=some p.2/\H p.1=none/\p.1≠X.env.locals/\p.1 ∉ X.fs/\∀ v,p.2.data≠.cell v):Inv X pins' σ H s :=
 ⟨I.ok,I.os,I.bare,I.base,I.loc,I.cell,I.free,I.freeC,fun p hp=>(List.mem_append.mp hp).elim (fun z=>I.pin p (List.mem_append_left _ z)) (h p),I.hok,I.len⟩
theorem zmy {N:List Str} (hN:N.Nodup) {i j:Nat} {x:Str} (a:N[i]? = some x) (b:N[j]? = some x):i=j:=by
 obtain ⟨h1,e1⟩:=List.getElem?_eq_some_iff.mp a
 obtain ⟨h2,e2⟩:=List.getElem?_eq_some_iff.mp b
 exact (List.getElem_inj hN).mp (e1.trans e2.symm)
theorem zhr {M:Model} {A:Around} {E:Value->Shared->Prop} {i:Nat} {x:Str} {v:V} {u:Value} {Q:Unit->Shared->Prop} (I:Inv X pins σ H s) (hN:X.N.Nodup) (hi:X.N[i]? = some x) (hx:Loc X.env.scope x) (r:RelV v u)
    (h:∀ s',Inv X pins (σ.set i (some v)) H s'->(∃ a,Heap.SameBut a s.heap s'.heap/\(a=X.env.locals\/X.env.cells.lookup x=some a))->Q () s') (hf:X.fn x=true\/X.env.scope.names.lookup x=some .local:=by first | exact .inl rfl | exact .inr rfl | assumption):wpAny M A (storeName X.env x u) Q E s:=by
  obtain ⟨m,hn,hl⟩:=id I.loc
  have hcls:(X.env.scope.kind == .class || (X.env.scope.kind == .module && X.env.locals != X.env.globals))=false:=by rw [I.ok.kind]; rfl
  have hiσ:i < σ.length:=by rw [I.len]; exact (List.getElem?_eq_some_iff.mp hi).1
  have cne:=I.cne
  have tracked:∀ {a:Addr} {h':Heap},(∃ o,s.heap.get? a=some o/\H a=none)->Heap.SameBut a s.heap h'->HOk X.prog X.w H h':=fun {a h'} ha hs b ob e=>by
    obtain ⟨_,_,hfree⟩:=ha
    refine (I.hok b ob e).stay (fun c w' hc q=>(hs.2 c ?_).trans q) (fun _ q=>q) fun _ _ q=>q
    rintro rfl
    rcases hc with rfl | hc
    · rw [hfree] at e; cases e
    · rw [hfree] at hc; cases hc
  rcases hx with hk | hk
  · refine wpAny_storeName_local hk hn (fun h' hn' hs=>?_) hcls
    obtain ⟨oL,_,_,hoL,_⟩:=id hn
    refine h _ ⟨I.ok,I.os,I.bare,⟨fun b o e n hb hx=>?_,fun b o e n hb hx=>?_,I.base.free,fun b o e hx=>?_,I.base.tups,I.base.frzs,I.base.tbls⟩,⟨_,hn',fun j y v' e1 e2 e3=>?_⟩,fun y c e=>?_,I.free,I.freeC,fun p hp=>?_,tracked ⟨oL,hoL,I.free⟩ hs,by simpa using I.len⟩ ⟨_,hs,.inl rfl⟩
    · exact (hs.2 b (Nat.ne_of_lt (Nat.lt_of_lt_of_le (Heap.lt_size e) I.ok.above))).trans (I.base.keep b o e n hb hx)
    · obtain ⟨sl,e1⟩:=I.base.slot b o e n hb hx
      exact ⟨sl,(hs.2 b (Nat.ne_of_lt (Nat.lt_of_lt_of_le (Heap.lt_size e) I.ok.above))).trans e1⟩
    · obtain ⟨o',e1⟩:=I.base.there b o e hx
      exact ⟨o',(hs.2 b (Nat.ne_of_lt (Nat.lt_of_lt_of_le (Heap.lt_size e) I.ok.above))).trans e1⟩
    · by_cases hj:j=i
      · subst hj
        rw [hi] at e1; cases e1
        rw [List.getElem?_set_self hiσ] at e2
        cases e2
        exact ⟨u,r,.inl ⟨hk,by simp⟩⟩
      · rw [List.getElem?_set_ne (Ne.symm hj)] at e2
        obtain ⟨u',r',q⟩:=hl j y v' e1 e2 e3
        refine ⟨u',r',?_⟩
        rcases q with ⟨k,e⟩ | ⟨k,c,e,z⟩
        · refine .inl ⟨k,?_⟩
          have:y≠x:=fun e=>hj (zmy hN e1 (e ▸ hi))
          simp [this,e]
        · exact .inr ⟨k,c,e,z.sameBut hs (cne y c e)⟩
    · obtain ⟨w',z⟩:=I.cell y c e
      exact ⟨w',z.sameBut hs (cne y c e)⟩
    · obtain ⟨e,n,ne,nf,d⟩:=I.pin p hp
      exact ⟨(hs.2 p.1 ne).trans e,n,ne,nf,d⟩
  · have hfn:X.fn x=true:=by
      rcases hf with z | z
      · exact z
      · rw [z] at hk; cases hk
    obtain ⟨c,hc⟩:=I.ok.has x (.inl hk)
    obtain ⟨w',z⟩:=I.cell x c hc
    refine wpAny_storeName_cell I.ok.kind hk hc z (fun h' hc' hs=>?_)
    obtain ⟨oc,hoc,hocd⟩:=id z
    refine h { s with heap:=h' } ⟨I.ok,I.os,I.bare,⟨fun b o e n hb hx=>?_,fun b o e n hb hx=>?_,I.base.free,fun b o e hx=>?_,I.base.tups,I.base.frzs,I.base.tbls⟩,⟨m,hn.sameBut hs (Ne.symm (cne x c hc)),fun j y v' e1 e2 e3=>?_⟩,fun y c' e=>?_,I.free,I.freeC,fun p hp=>?_,tracked ⟨oc,hoc,I.freeC x c hc⟩ hs,by simpa using I.len⟩ ⟨c,hs,.inr hc⟩
    · exact (hs.2 b (Nat.ne_of_lt (Nat.lt_of_lt_of_le (Heap.lt_size e) (I.ok.cab x c hfn hc)))).trans (I.base.keep b o e n hb hx)
    · obtain ⟨sl,e1⟩:=I.base.slot b o e n hb hx
      exact ⟨sl,(hs.2 b (Nat.ne_of_lt (Nat.lt_of_lt_of_le (Heap.lt_size e) (I.ok.cab x c hfn hc)))).trans e1⟩
    · obtain ⟨o',e1⟩:=I.base.there b o e hx
      exact ⟨o',(hs.2 b (Nat.ne_of_lt (Nat.lt_of_lt_of_le (Heap.lt_size e) (I.ok.cab x c hfn hc)))).trans e1⟩
    · by_cases hj:j=i
      · subst hj
        rw [hi] at e1; cases e1
        rw [List.getElem?_set_self hiσ] at e2
        cases e2
        exact ⟨u,r,.inr ⟨.inl hk,c,hc,hc'⟩⟩
      · rw [List.getElem?_set_ne (Ne.symm hj)] at e2
        obtain ⟨u',r',q⟩:=hl j y v' e1 e2 e3
        refine ⟨u',r',?_⟩
        rcases q with q | ⟨k,c',e,z'⟩
        · exact .inl q
        · refine .inr ⟨k,c',e,z'.sameBut hs ?_⟩
          rintro rfl
          exact hj (zmy hN e1 (I.ok.inj _ _ _ e hc ▸ hi))
    · by_cases hcc:c'=c
      · subst hcc; exact ⟨_,hc'⟩
      · obtain ⟨w2,z2⟩:=I.cell y c' e
        exact ⟨w2,z2.sameBut hs hcc⟩
    · obtain ⟨e,n,ne,nf,d⟩:=I.pin p hp
      refine ⟨(hs.2 p.1 ?_).trans e,n,ne,nf,d⟩
      intro q
      rw [q,hoc] at e
      have q':oc=p.2:=Option.some.inj e
      exact d w' (by rw [<- q']; exact hocd)
theorem zmz {M:Model} {A:Around} {E:Value->Shared->Prop} {i:Nat} {x:Str} {v:V} {u:Value} {Q:Unit->Shared->Prop} (I:Inv X pins σ H s) (hN:X.N.Nodup) (hi:X.N[i]? = some x) (hx:Loc X.env.scope x) (r:RelV v u)
    (h:∀ s',Inv X pins (σ.set i (some v)) H s'->Q () s') (hf:X.fn x=true\/X.env.scope.names.lookup x=some .local:=by first | exact .inl rfl | exact .inr rfl | assumption):wpAny M A (storeName X.env x u) Q E s :=
  zhr I hN hi hx r (fun s' I' _=>h s' I') hf
theorem Inv.call' {s':Shared} {ch:List Addr} (I:Inv X pins σ H s) (ho:s'.os=s.os) (u:Un (frs X.stack) ch H H' s.heap s'.heap) (hok:HOk X.prog X.w H' s'.heap) (hg:AllBare s'.gens)
    (hch:∀ b∈ch,(b∈X.ex\/X.s₀.heap.objs.size<=b)/\b≠X.env.locals/\(∀ x c,X.env.cells.lookup x=some c->c≠b)/\∀ p∈X.pn++pins,p.1≠b):Inv X pins σ H' s':=by
  obtain ⟨h',g',d',t',o'⟩:=s'
  have e:o'=s.os:=ho
  subst e
  exact I.call (g':=g') (t':=t') (d':=d') u hok hg hch
end
abbrev XK:=Value->Option Addr->Hp->Prop
abbrev St:=List (Option V)
abbrev VK:=V->Hp->Prop
abbrev TE:=St->Hp->VK->Prop
abbrev TT:=St->Hp->(Bool->Hp->Prop)->Prop
abbrev TA:=St->Hp->(List V->Hp->Prop)->Prop
structure Ends where
 nx:St->Hp->Prop
 rt:VK
 bk:St->Hp->Prop:=fun _ _=>False
 ct:St->Hp->Prop:=fun _ _=>False
abbrev TS:=Ends->St->Hp->Prop
def EP (X:Cx) (pins:List (Addr×Obj)) (σ:St) (Q:VK) (u:Value) (s':Shared):Prop:=∃ v H',Inv X pins σ H' s'/\RelV v u/\Q v H'
def TP (X:Cx) (pins:List (Addr×Obj)) (σ:St) (Q:Bool->Hp->Prop) (b:Bool) (s':Shared):Prop:=∃ H',Inv X pins σ H' s'/\Q b H'
def AP (X:Cx) (pins:List (Addr×Obj)) (σ:St) (Q:List V->Hp->Prop) (us:List Value) (s':Shared):Prop:=∃ vs H',Inv X pins σ H' s'/\Vals vs us/\Q vs H'
def SP (X:Cx) (pins:List (Addr×Obj)) (D:Ends) (f:Flow) (s':Shared):Prop :=
 match f with
 | .next=>∃ σ' H',Inv X pins σ' H' s'/\D.nx σ' H'
 | .brk=>∃ σ' H',Inv X pins σ' H' s'/\D.bk σ' H'
 | .cont=>∃ σ' H',Inv X pins σ' H' s'/\D.ct σ' H'
 | .ret u=>∃ v σ' H',Inv X pins σ' H' s'/\RelV v u/\D.rt v H'
def PE (X:Cx) (e:Expr) (t:TE):Prop :=
 ∀ (pins:List (Addr×Obj)) (s:Shared) (σ:St) (H:Hp) (Q:VK),Inv X pins σ H s->t σ H Q->wpAny (model X.prog X.w) X.A (eval e X.env) (EP X pins σ Q) X.xe s
def PT (X:Cx) (e:Expr) (t:TT):Prop :=
 ∀ (pins:List (Addr×Obj)) (s:Shared) (σ:St) (H:Hp) (Q:Bool->Hp->Prop),Inv X pins σ H s->t σ H Q->wpAny (model X.prog X.w) X.A (isTrue e X.env (eval e X.env)) (TP X pins σ Q) X.xe s
def PW (X:Cx) (e:Expr) (t:TT):Prop :=
 ∀ (whole:Sem Value) (pins:List (Addr×Obj)) (s:Shared) (σ:St) (H:Hp) (Q:Bool->Hp->Prop),Inv X pins σ H s->t σ H Q->wpAny (model X.prog X.w) X.A (isTrue e X.env whole) (TP X pins σ Q) X.xe s
theorem PW.pt {X:Cx} {e:Expr} {t:TT} (h:PW X e t):PT X e t:=h _
def PA (X:Cx) (es:List Expr) (t:TA):Prop :=
 ∀ (pos:Pos) (pins:List (Addr×Obj)) (s:Shared) (σ:St) (H:Hp) (Q:List V->Hp->Prop),Inv X pins σ H s->t σ H Q->wpAny (model X.prog X.w) X.A (spliced (backTo pos (starEach es X.env))) (AP X pins σ Q) X.xe s
def PS (X:Cx) (st:Stmt) (t:TS):Prop :=
 ∀ (pins:List (Addr×Obj)) (s:Shared) (σ:St) (H:Hp) (D:Ends),Inv X pins σ H s->t D σ H->wpAny (model X.prog X.w) X.A (exec st X.env) (SP X pins D) X.xe s
def PSs (X:Cx) (st:List Stmt) (t:TS):Prop :=
 ∀ (pins:List (Addr×Obj)) (s:Shared) (σ:St) (H:Hp) (D:Ends),Inv X pins σ H s->t D σ H->wpAny (model X.prog X.w) X.A (execs st X.env) (SP X pins D) X.xe s
theorem thn {α:Type} {t:Sem α} {Q Q':α->Shared->Prop} {M:Model} {A:Around} {E:Value->Shared->Prop} {s:Shared} (h:wpAny M A t Q E s) (hQ:∀ a s,Q a s->Q' a s):wpAny M A t Q' E s:=wpAny_mono h hQ fun _ _ x=>x
end L2
namespace L2
open PySem PySem.Spec PyProof.Rows
section
variable {X:Cx}
def tVar (i:Nat):TE:=fun σ H Q=>∃ v,σ[i]? = some (some v)/\Q v H
def tC (v:V):TE:=fun _ H Q=>Q v H
theorem zwa {i:Nat} {x:Str} {pos:Pos} (hN:X.N[i]? = some x) (hv:Vis X.env.scope x) (hd:(x == ("__debug__" : Str))=false:=by decide) (hcd:(x == ("__classdict__" : Str))=false:=by decide):PE X (.Name x pos) (tVar i):=by
 intro pins s σ H Q I h
 obtain ⟨v,e,h⟩:=h
 obtain ⟨m,hn,hl⟩:=I.loc
 obtain ⟨u,r,l⟩:=hl i x v hN e hv
 have fin:EP X pins σ Q u s:=⟨v,H,I,r,h⟩
 rcases l with ⟨hk,hm⟩ | ⟨hk,c,hc,hcell⟩
 ·exact wpAny_Name (wpAny_loadName_local I.ok.kind hk hn hm fin) hd
 ·rcases hk with hk | hk
  ·exact wpAny_Name (wpAny_loadName_cell I.ok.kind hk hc hcell fin) hd
  ·exact wpAny_Name (wpAny_loadName_free I.ok.kind hk hc hcell fin hcd) hd
theorem zaj {i j pos}:PE X (.Constant (.int i) j pos) (tC (.int i)):=fun _ _ _ H _ I h=>wpAny_Constant_int ⟨.int i,H,I.tok _,⟨_,rfl⟩,h⟩
theorem pe_bl {b j pos}:PE X (.Constant (.bool b) j pos) (tC (.bl b)):=fun _ _ _ H _ I h=>Constant_bool ⟨.bl b,H,I,rfl,h⟩
theorem zix {j pos}:PE X (.Constant .none j pos) (tC .non):=fun _ _ _ H _ I h=>Constant_none ⟨.non,H,I,rfl,h⟩
theorem zce {x j pos}:PE X (.Constant (.str x) j pos) (tC (.str x)):=fun _ _ _ H _ I h=>Calls.Constant_str ⟨.str x,H,I.tok _,⟨_,rfl⟩,h⟩
def Gl (X:Cx) (x:Str):Prop:=X.env.kindOf x=some .globalImplicit
theorem zhs {E:Value->Shared->Prop} {pins:List (Addr×Obj)} {s:Shared} {σ:St} {H:Hp} {x:Str} {u:Value} {pos:Pos} {Q:Value->Shared->Prop} (I:Inv X pins σ H s) (hg:Gl X x) (hm:X.mg x=some u) (h:Q u s)
    (hd:(x == ("__debug__" : Str))=false:=by decide):wpAny (model X.prog X.w) X.A (eval (.Name x pos) X.env) Q E s :=
  Calls.Name_function_global I.ok.kind hg (Calls.loadGlobal_global (by rw [I.ok.glob]; exact I.mod.glob.keeps I.bk) hm h) hd
theorem zht {E:Value->Shared->Prop} {pins:List (Addr×Obj)} {s:Shared} {σ:St} {H:Hp} {x:Str} {u:Value} {pos:Pos} {Q:Value->Shared->Prop} (I:Inv X pins σ H s) (hg:Gl X x) (hm:X.mg x=none) (hv:bootBuiltins x=some u) (h:Q u s)
    (hn:x ≠ "__name__" := by decide) (hd:(x == ("__debug__" : Str))=false:=by decide):wpAny (model X.prog X.w) X.A (eval (.Name x pos) X.env) Q E s:=by
  obtain ⟨mb,h1,h2⟩:=I.mod.blt
  exact Calls.Name_function_global I.ok.kind hg (Calls.loadGlobal_builtin (by rw [I.ok.glob]; exact I.mod.glob.keeps I.bk) hm (by rw [I.ok.blt]; exact h1.keeps I.bk) ((h2 x hn).trans hv) h) hd
theorem zot {x:Str} {v:V} {u:Value} {pos:Pos} (hg:Gl X x) (hm:X.mg x=some u) (r:RelV v u) (hd:(x == ("__debug__" : Str))=false:=by decide):PE X (.Name x pos) (tC v) :=
 fun _ _ _ H _ I h=>zhs I hg hm ⟨v,H,I,r,h⟩ hd
theorem ztq {x:Str} {v:V} {u:Value} {pos:Pos} (hg:Gl X x) (hm:X.mg x=none) (hv:bootBuiltins x=some u) (r:RelV v u) (hn:x ≠ "__name__" := by decide) (hd:(x == ("__debug__" : Str))=false:=by decide):PE X (.Name x pos) (tC v) :=
 fun _ _ _ H _ I h=>zht I hg hm hv ⟨v,H,I,r,h⟩ hn hd
variable {a b:Expr} {ta tb:TE} {pos:Pos}
def tB (t:TE):TT:=fun σ H Q=>t σ H fun x H1=>∃ c,x = .bl c/\Q c H1
theorem zeb {e:Expr} {t:TE} (h:PE X e t) (he:∀ whole,isTrue e X.env whole=(do let v <- whole; standAt e.pos; holding [v] (truthy v)):=by intro _; rfl):PT X e (tB t):=by
 intro pins s σ H Q I hw
 refine isTrue_plain (thn (h pins s σ H _ I hw) fun v s1 ⟨x,H1,I1,r1,q1⟩=>?_) (he _)
 obtain ⟨d,rfl,q⟩:=q1
 cases r1
 exact wpAny_truthy_bool ⟨H1,I1,q⟩
variable {tA tB':TT} {rest:List Expr}
def tAnd (t u:TT):TT:=fun σ H Q=>t σ H fun c H1=>if c=true then u σ H1 Q else Q false H1
def tOr (t u:TT):TT:=fun σ H Q=>t σ H fun c H1=>if c=true then Q true H1 else u σ H1 Q
def tNot (t:TT):TT:=fun σ H Q=>t σ H fun c H1=>Q (!c) H1
theorem zhu (ha:PT X a tA):PW X (.BoolOp .And [a] pos) tA:=by
 intro wh pins s σ H Q I h
 refine isTrue_and (thn (ha pins s σ H Q I h) fun c s1 e=>?_)
 cases c with
 | true=>exact isTrue_and_nil e
 | false=>exact e
theorem zsw (ha:PT X a tA):PW X (.BoolOp .Or [a] pos) tA:=by
 intro wh pins s σ H Q I h
 refine isTrue_or (thn (ha pins s σ H Q I h) fun c s1 e=>?_)
 cases c with
 | false=>exact isTrue_or_nil e
 | true=>exact e
theorem ziy (ha:PT X a tA) (hb:PW X (.BoolOp .And (b :: rest) pos) tB'):PW X (.BoolOp .And (a :: b :: rest) pos) (tAnd tA tB'):=by
 intro wh pins s σ H Q I h
 refine isTrue_and (thn (ha pins s σ H _ I h) fun c s1 ⟨H1,I1,q1⟩=>?_)
 cases c with
 | true=>exact hb wh pins s1 σ H1 Q I1 q1
 | false=>exact ⟨H1,I1,q1⟩
theorem pw_or (ha:PT X a tA) (hb:PW X (.BoolOp .Or (b :: rest) pos) tB'):PW X (.BoolOp .Or (a :: b :: rest) pos) (tOr tA tB'):=by
 intro wh pins s σ H Q I h
 refine isTrue_or (thn (ha pins s σ H _ I h) fun c s1 ⟨H1,I1,q1⟩=>?_)
 cases c with
 | true=>exact ⟨H1,I1,q1⟩
 | false=>exact hb wh pins s1 σ H1 Q I1 q1
theorem zna (ha:PT X a tA):PT X (.UnaryOp .Not a pos) (tNot tA):=by
 intro pins s σ H Q I h
 exact isTrue_not (ha pins s σ H (fun c H1=>Q (!c) H1) I h)
def tAndV (ta tb:TE):TE:=fun σ H Q=>ta σ H fun x H1=>∃ c,x = .bl c/\if c=true then tb σ H1 Q else Q (.bl false) H1
def tOrV (ta tb:TE):TE:=fun σ H Q=>ta σ H fun x H1=>∃ c,x = .bl c/\if c=true then Q (.bl true) H1 else tb σ H1 Q
def tNotV (ta:TE):TE:=fun σ H Q=>ta σ H fun x H1=>∃ c,x = .bl c/\Q (.bl (!c)) H1
theorem zwb {op} {t:TE} (h:PE X a t):PE X (.BoolOp op [a] pos) t:=fun pins s σ H Q I hw=>BoolOp_one (h pins s σ H Q I hw)
theorem zwc (ha:PE X a ta) (hb:PE X (.BoolOp .And (b :: rest) pos) tb):PE X (.BoolOp .And (a :: b :: rest) pos) (tAndV ta tb):=by
 intro pins s σ H Q I h
 refine BoolOp_and (thn (ha pins s σ H _ I h) fun v s1 ⟨x,H1,I1,r1,q1⟩=>?_)
 obtain ⟨c,rfl,q1⟩:=q1
 cases r1
 refine wpAny_truthy_bool ?_
 cases c with
 | true=>exact hb pins s1 σ H1 Q I1 q1
 | false=>exact ⟨.bl false,H1,I1,rfl,q1⟩
theorem zsx (ha:PE X a ta):PE X (.UnaryOp .Not a pos) (tNotV ta):=by
 intro pins s σ H Q I h
 refine UnaryOp_ (thn (ha pins s σ H _ I h) fun v s1 ⟨x,H1,I1,r1,q1⟩=>?_)
 obtain ⟨c,rfl,q1⟩:=q1
 cases r1
 exact not_of (wpAny_truthy_bool ⟨.bl (!c),H1,I1,rfl,q1⟩)
def tIf (t:TT) (ta tb:TE):TE:=fun σ H Q=>t σ H fun c H1=>if c=true then ta σ H1 Q else tb σ H1 Q
theorem zhm {c:Expr} (hc:PT X c tA) (ha:PE X a ta) (hb:PE X b tb):PE X (.IfExp c a b pos) (tIf tA ta tb):=by
 intro pins s σ H Q I h
 refine wpAny_IfExp (thn (hc pins s σ H _ I h) fun d s1 ⟨H1,I1,q1⟩=>?_)
 cases d with
 | true=>exact ha pins s1 σ H1 Q I1 q1
 | false=>exact hb pins s1 σ H1 Q I1 q1
end
end L2
namespace L2
open PySem PySem.Spec PyProof.Rows
def SqL (K:PySem.W.Frag) (H:Hp) (a:Addr) (xs:List V):Prop :=
 Rd H a (.lst xs) \/
  ∃ (o:Obj) (its:Array Value) (n:Nat),K.lookup a=some o/\o.cls = .type "list" /\ o.dict=none/\o.data = .seq its n/\its.size<=sizeLine/\Vals xs its.toList
def SqT (K:PySem.W.Frag) (H:Hp) (a:Addr) (xs:List V):Prop :=
 Rd H a (.tup xs) \/
  ∃ (o:Obj) (its:Array Value) (n:Nat),K.lookup a=some o/\o.cls = .type "tuple" /\ o.data = .seq its n/\its.size<=sizeLine/\Vals xs its.toList
def absV:Value->Option V
 | .none=>some .non
 | .bool b=>some (.bl b)
 | .int i _=>some (.int i)
 | .str x _=>some (.str x)
 | .bytes b _=>some (.byt b)
 | .float b _=>some (.flt b)
 | .ref a=>some (.ref a)
 | .type n=>some (.ty n)
 | _=>none
theorem RelV.abs {x:V} {u:Value} (r:RelV x u):absV u=some x:=by
 cases x with
 | non=>cases r; rfl
 | bl _=>cases r; rfl
 | int _=>obtain ⟨t,rfl⟩:=r; rfl
 | str _=>obtain ⟨t,rfl⟩:=r; rfl
 | byt _=>obtain ⟨t,rfl⟩:=r; rfl
 | flt _=>obtain ⟨t,rfl⟩:=r; rfl
 | ref _=>cases r; rfl
 | ty _=>cases r; rfl
theorem RelV.inj {x y:V} {u:Value} (r:RelV x u) (q:RelV y u):x=y:=Option.some.inj (r.abs.symm.trans q.abs)
theorem Vals.inj:∀ {xs ys:List V} {us:List Value},Vals xs us->Vals ys us->xs=ys
 | _,_,_,.nil,.nil=>rfl
 | _,_,_,.cons r t,.cons r' t'=>by rw [r.inj r',Vals.inj t t']
section
variable {X:Cx} {pins:List (Addr×Obj)} {σ:St} {H:Hp} {s:Shared} {a:Addr} {xs ys:List V}
theorem SqL.of {K:PySem.W.Frag} (h:H a=some (.lst xs)):SqL K H a xs:=.inl (.inl h)
theorem SqT.of {K:PySem.W.Frag} (h:H a=some (.tup xs)):SqT K H a xs:=.inl (.inl h)
theorem Inv.list (I:Inv X pins σ H s) (h:SqL X.K H a xs):∃ its:List Value,Vals xs its/\PlainL s.heap a its.toArray/\xs.length<=sizeLine:=by
 rcases h with h | ⟨o,its,n,hk,hc,hd,hs,hz,r⟩
 ·obtain ⟨z,its,n,r,e⟩:=h.ok I.hok
  exact ⟨its,r,⟨_,n,e,rfl,rfl,rfl⟩,z⟩
 ·refine ⟨its.toList,r,⟨o,n,I.kIn a o hk,hc,hd,by simpa using hs⟩,?_⟩
  have e:=r.length
  simp only [Array.length_toList] at e
  omega
theorem Inv.tuple (I:Inv X pins σ H s) (h:SqT X.K H a xs):∃ its:List Value,Vals xs its/\IsTup s.heap a its.toArray/\xs.length<=sizeLine:=by
 rcases h with h | ⟨o,its,n,hk,hc,hs,hz,r⟩
 ·obtain ⟨z,its,r,p⟩:=h.ok I.hok
  exact ⟨its,r,p,z⟩
 ·refine ⟨its.toList,r,⟨o,I.kIn a o hk,hc,n,by simpa using hs⟩,?_⟩
  have e:=r.length
  simp only [Array.length_toList] at e
  omega
theorem Inv.list_inj (I:Inv X pins σ H s) (h:SqL X.K H a xs) (h':SqL X.K H a ys):xs=ys:=by
 obtain ⟨its,r,⟨o,n,e,_,_,d⟩,_⟩:=I.list h
 obtain ⟨its',r',⟨o',n',e',_,_,d'⟩,_⟩:=I.list h'
 rw [e] at e'; cases e'
 rw [d] at d'
 injection d' with d1 _
 have:its=its':=by simpa using congrArg Array.toList d1
 subst this
 exact r.inj r'
end
abbrev Cx.wish (X:Cx) (E:Value->Shared->Prop):Cx:={ X with xe:=E }
abbrev Cx.nox (X:Cx):Cx:=X.wish fun _ _=>False
theorem Cx.Ok.wish {X:Cx} (ok:X.Ok) (E:Value->Shared->Prop):(X.wish E).Ok :=
 ⟨ok.mod,ok.kind,ok.glob,ok.blt,ok.above,ok.inj,ok.has,ok.cab,ok.hd,ok.frames,ok.stk,ok.exf,ok.bs,ok.bsz,ok.noex,ok.exfs,ok.funs,ok.frf⟩
theorem Cx.Ok.unwish {X:Cx} {E:Value->Shared->Prop} (ok:(X.wish E).Ok):X.Ok :=
 ⟨ok.mod,ok.kind,ok.glob,ok.blt,ok.above,ok.inj,ok.has,ok.cab,ok.hd,ok.frames,ok.stk,ok.exf,ok.bs,ok.bsz,ok.noex,ok.exfs,ok.funs,ok.frf⟩
section
variable {X:Cx} {pins:List (Addr×Obj)} {σ:St} {H:Hp} {s:Shared} {E:Value->Shared->Prop}
theorem Inv.wish (I:Inv X pins σ H s) (E:Value->Shared->Prop):Inv (X.wish E) pins σ H s:=⟨I.ok.wish E,I.os,I.bare,I.base,I.loc,I.cell,I.free,I.freeC,I.pin,I.hok,I.len⟩
theorem Inv.unwish (I:Inv (X.wish E) pins σ H s):Inv X pins σ H s:=⟨I.ok.unwish,I.os,I.bare,I.base,I.loc,I.cell,I.free,I.freeC,I.pin,I.hok,I.len⟩
theorem SP.unwish {D:Ends} {f:Flow} {s':Shared} (h:SP (X.wish E) pins D f s'):SP X pins D f s':=by
 cases f with
 | next=>obtain ⟨σ',H',I,q⟩:=h; exact ⟨σ',H',I.unwish,q⟩
 | brk=>obtain ⟨σ',H',I,q⟩:=h; exact ⟨σ',H',I.unwish,q⟩
 | cont=>obtain ⟨σ',H',I,q⟩:=h; exact ⟨σ',H',I.unwish,q⟩
 | ret u=>obtain ⟨v,σ',H',I,r,q⟩:=h; exact ⟨v,σ',H',I.unwish,r,q⟩
theorem PSs.nox {st:List Stmt} {t:TS} (h:PSs X.nox st t):PSs X st t:=fun pins s σ H D I hw =>
 wpAny_mono (h pins s σ H D (I.wish _) hw) (fun _ _ q=>q.unwish) fun _ _ z=>False.elim z
end
section
variable {X:Cx} {st:Stmt} {rest:List Stmt} {t u:TS} {e:Expr} {te:TE} {pos:Pos}
def tNext:TS:=fun D σ H=>D.nx σ H
def tSeq (t u:TS):TS:=fun D σ H=>t { D with nx:=u D } σ H
theorem zdf:PSs X [] tNext:=fun _ _ σ H _ I h=>wpAny_execs_nil ⟨σ,H,I,h⟩
theorem zac (h1:PS X st t) (h2:PSs X rest u):PSs X (st :: rest) (tSeq t u):=by
 intro pins s σ H D I h
 refine wpAny_execs_cons (thn (h1 pins s σ H { D with nx:=u D } I h) fun f s1 q=>?_)
 cases f with
 | next =>
  obtain ⟨σ',H',I',q⟩:=q
  exact h2 pins s1 σ' H' D I' q
 | ret v=>exact q
 | brk=>exact q
 | cont=>exact q
theorem zan (h1:PS X st t):PSs X [st] t:=by
 intro pins s σ H D I h
 refine wpAny_execs_cons (thn (h1 pins s σ H D I h) fun f s1 q=>?_)
 cases f with
 | next=>exact wpAny_execs_nil q
 | ret v=>exact q
 | brk=>exact q
 | cont=>exact q
theorem Inv.quiet {pins:List (Addr×Obj)} {σ:St} {H:Hp} {s:Shared} (I:Inv X pins σ H s):interactive X.env=false:=by simp [interactive,I.ok.kind]
def tDrop (te:TE):TS:=fun D σ H=>te σ H fun _ H1=>D.nx σ H1
theorem zbj (he:PE X e te) (hs:swapsWith e none pos.line X.env=pure false:=by rfl):PS X (.Expr e pos) (tDrop te):=by
 intro pins s σ H D I h
 exact wpAny_Expr_any (thn (he pins s σ H _ I h) fun v s1 ⟨x,H1,I1,r1,q1⟩=>⟨σ,H1,I1,q1⟩) I.quiet hs
def tRet (te:TE):TS:=fun D σ H=>te σ H D.rt
theorem zay (he:PE X e te):PS X (.Return (some e) pos) (tRet te):=by
 intro pins s σ H D I h
 exact wpAny_Return_some (thn (he pins s σ H _ I h) fun v s1 ⟨x,H1,I1,r1,q1⟩=>⟨x,σ,H1,I1,r1,q1⟩)
def tRetN:TS:=fun D _ H=>D.rt .non H
def tIfS (c:TT) (t u:TS):TS:=fun D σ H=>c σ H fun b H1=>if b=true then t D σ H1 else u D σ H1
theorem ps_if {c:Expr} {a b:List Stmt} {tc:TT} (hc:PT X c tc) (ha:PSs X a t) (hb:PSs X b u):PS X (.If c a b pos) (tIfS tc t u):=by
 intro pins s σ H D I h
 refine wpAny_If (thn (hc pins s σ H _ I h) fun d s1 ⟨H1,I1,q1⟩=>?_)
 cases d with
 | true=>exact ha pins s1 σ H1 D I1 q1
 | false=>exact hb pins s1 σ H1 D I1 q1
end
abbrev TG:=V->St->Hp->(St->Hp->Prop)->Prop
abbrev TGs:=List V->St->Hp->(St->Hp->Prop)->Prop
def PG (X:Cx) (target:Expr) (t:TG):Prop :=
 ∀ (pins:List (Addr×Obj)) (s:Shared) (σ:St) (H:Hp) (v:V) (u:Value) (Q:St->Hp->Prop),Inv X pins σ H s->RelV v u->t v σ H Q ->
  wpAny (model X.prog X.w) X.A (assign target X.env u) (fun _ s'=>∃ σ' H',Inv X pins σ' H' s'/\Q σ' H') X.xe s
def PGs (X:Cx) (ts:List Expr) (t:TGs):Prop :=
 ∀ (pins:List (Addr×Obj)) (s:Shared) (σ:St) (H:Hp) (vs:List V) (us:List Value) (Q:St->Hp->Prop),Inv X pins σ H s->Vals vs us->t vs σ H Q ->
  wpAny (model X.prog X.w) X.A (assignInOrder ((assignEach ts X.env).map (·.2)) us) (fun _ s'=>∃ σ' H',Inv X pins σ' H' s'/\Q σ' H') X.xe s
section
variable {X:Cx} {pos:Pos}
def gName (i:Nat):TG:=fun v σ H Q=>Q (σ.set i (some v)) H
theorem zap {i:Nat} {x:Str} (hN:X.N.Nodup) (hi:X.N[i]? = some x) (hx:Loc X.env.scope x) (hf:X.fn x=true\/X.env.scope.names.lookup x=some .local:=by first | exact .inl rfl | exact .inr rfl | assumption):PG X (.Name x pos) (gName i):=by
 intro pins s σ H v u Q I r h
 exact wpAny_assign_Name (zmz I hN hi hx r (fun s' I'=>⟨_,H,I',h⟩) hf)
def gNil:TGs:=fun vs σ H Q=>vs = []/\Q σ H
def gCons (t:TG) (u:TGs):TGs:=fun vs σ H Q=>∃ v r,vs=v :: r/\t v σ H fun σ' H'=>u r σ' H' Q
theorem zcf:PGs X [] gNil:=by
 intro pins s σ H vs us Q I r h
 obtain ⟨e,h⟩:=h
 subst e
 cases r
 exact assignInOrder_nil ⟨σ,H,I,h⟩
theorem zat {e:Expr} {es:List Expr} {t:TG} {u:TGs} (h1:PG X e t) (h2:PGs X es u)
    (hs:(assignEach (e :: es) X.env).map (·.2)=assign e X.env :: (assignEach es X.env).map (·.2):=by rfl):PGs X (e :: es) (gCons t u):=by
  intro pins s σ H vs us Q I r h
  obtain ⟨v,vr,e1,h⟩:=h
  subst e1
  cases r with
  | cons r rr =>
    rw [hs]
    refine assignInOrder_cons (thn (h1 pins s σ H _ _ _ I r h) fun _ s1 ⟨σ1,H1,I1,q1⟩=>?_)
    exact h2 pins s1 σ1 H1 _ _ Q I1 rr q1
def gTup (K:PySem.W.Frag) (n:Nat) (t:TGs):TG:=fun v σ H Q=>∃ a xs,v = .ref a/\SqT K H a xs/\xs.length=n/\t xs σ H Q
theorem zwd {es:List Expr} {k:Nat} {t:TGs} {n:Nat} (hc:X.calm=true) (h:PGs X es t)
    (hn:(assignEach es X.env).length=n:=by rfl) (hst:(assignEach es X.env).findIdx? (·.1)=none:=by rfl):PG X (.Tuple es k pos) (gTup X.K n t):=by
  intro pins s σ H v u Q I r hw
  obtain ⟨a,xs,e1,hq,hl,hw⟩:=hw
  subst e1
  cases r
  obtain ⟨its,rv,ht,hz⟩:=I.tuple hq
  refine assign_Tuple_tuple (I.ok.hd hc) ht (by simp [hn,<- hl,rv.length]) hst fun h' hx=>?_
  have I1:Inv X pins σ H { s with heap:=h' }:=I.kept (t':=s.toks) fun b o e=>hx b o (Nat.ne_of_lt (Heap.lt_size e)) e
  exact h pins _ σ H xs _ Q I1 (by simpa using rv) hw
def tAsg (te:TE) (g:TG):TS:=fun D σ H=>te σ H fun x H1=>g x σ H1 D.nx
theorem zou {tg e:Expr} {te:TE} {g:TG} (he:PE X e te) (hg:PG X tg g) (hs:swapsWithSole [tg] e pos.line X.env=pure false:=by rfl) (hw:swappedStores [tg] e X.env=pure none:=by rfl)
    (h1:(assignEach [tg] X.env).map (·.2) = [assign tg X.env]:=by rfl):PS X (.Assign [tg] e pos) (tAsg te g):=by
  intro pins s σ H D I h
  refine wpAny_Assign_stores (thn (he pins s σ H _ I h) fun v s1 ⟨x,H1,I1,r1,q1⟩=>?_) hs hw
  rw [h1]
  exact thn (hg pins s1 σ H1 x v _ I1 r1 q1) fun _ s2 q=>q
theorem zwe {i:Nat} {x:Str} {e:Expr} {te:TE} {pos':Pos} (hN:X.N.Nodup) (hi:X.N[i]? = some x) (hx:Loc X.env.scope x) (he:PE X e te) (hs:swapsWith e (some (.Name x pos')) pos.line X.env=pure false:=by rfl) (hf:X.fn x=true\/X.env.scope.names.lookup x=some .local:=by first | exact .inl rfl | exact .inr rfl | assumption) :
    PS X (.Assign [.Name x pos'] e pos) (tAsg te (gName i)):=by
  intro pins s σ H D I h
  refine wpAny_Assign_Name (thn (he pins s σ H _ I h) fun v s1 ⟨y,H1,I1,r1,q1⟩=>?_) hs
  exact zmz I1 hN hi hx r1 (fun s2 I2=>⟨_,H1,I2,q1⟩) hf
def tPar (i j:Nat) (ta:TA):TS:=fun D σ H=>ta σ H fun vs H1=>∃ v w,vs = [v,w]/\D.nx ((σ.set i (some v)).set j (some w)) H1
end
section
variable {X:Cx} {pos:Pos}
def ziz (c:TT) (tb:TS):TS:=fun D σ H=>∃ W:Nat->St->Hp->Prop,(∃ m,W m σ H)/\∀ m σ H,W m σ H ->
 c σ H fun b H1=>if b=true then ∃ N:St->Hp->Prop,(∀ σ' H',N σ' H'->∃ m',m' < m/\W m' σ' H')/\tb { D with nx:=N,ct:=N,bk:=D.nx } σ H1 else D.nx σ H1
theorem zfk {c:Expr} {body:List Stmt} {tc:TT} {tb:TS} (hp:PassesOwn (model X.prog X.w) X.A X.env X.xe) (hc:PT X c tc) (hb:PSs X body tb):PS X (.While c body [] pos) (ziz tc tb):=by
 intro pins s σ H D I h
 obtain ⟨W,⟨m0,w0⟩,turn⟩:=h
 refine wpAny_While (codeAny_whileLoop (fun n s'=>∃ σ' H',Inv X pins σ' H' s'/\W n σ' H') ?_ m0 ⟨σ,H,I,w0⟩)
 rintro n s1 ⟨σ1,H1,I1,w1⟩
 refine wpAny_passesOwn hp (thn (hc pins s1 σ1 H1 _ I1 (turn n σ1 H1 w1)) fun b s2 ⟨H2,I2,q2⟩=>?_)
 cases b with
 | true =>
  obtain ⟨N,hN,q2⟩:=q2
  rw [if_pos rfl]
  refine wpAny_passesOwn hp (thn (hb pins s2 σ1 H2 _ I2 q2) fun f s3 q3=>?_)
  cases f with
  | next =>
   obtain ⟨σ3,H3,I3,n3⟩:=q3
   obtain ⟨m',hm,w3⟩:=hN σ3 H3 n3
   exact ⟨m',hm,σ3,H3,I3,w3⟩
  | cont =>
   obtain ⟨σ3,H3,I3,n3⟩:=q3
   obtain ⟨m',hm,w3⟩:=hN σ3 H3 n3
   exact ⟨m',hm,σ3,H3,I3,w3⟩
  | brk=>exact q3
  | ret v=>exact q3
 | false =>
  rw [if_neg Bool.false_ne_true]
  exact wpAny_execs_nil ⟨σ1,H2,I2,q2⟩
end
structure It where
 go:Nat->Hp->Prop
 yld:Nat->Hp->V->Hp->Prop
 stop:Nat->Hp->Prop
def FpOk (X:Cx) (pins:List (Addr×Obj)) (H:Hp) (b:Addr):Prop :=
 H b=none/\b≠X.env.locals/\b ∉ X.fs/\(b∈X.ex\/X.s₀.heap.objs.size<=b)/\(∀ x c,X.env.cells.lookup x=some c->c≠b)/\∀ p∈X.pn++pins,p.1≠b
theorem Inv.fpOk {X:Cx} {pins:List (Addr×Obj)} {σ:St} {H H':Hp} {s:Shared} {b:Addr} (I:Inv X pins σ H s) (hb:s.heap.objs.size<=b) (hn:H' b=none):FpOk X pins H' b:=by
 refine ⟨hn,Nat.ne_of_gt (Nat.lt_of_lt_of_le I.lt hb),I.nofs hb,.inr (Nat.le_trans I.sz hb),fun x c e z=>?_,fun p hp z=>?_⟩
 ·obtain ⟨v,q⟩:=I.cell x c e
  exact absurd (Nat.lt_of_lt_of_le q.lt (by rw [z]; exact hb)) (Nat.lt_irrefl _)
 ·exact absurd (Nat.lt_of_lt_of_le (Heap.lt_size (I.pin p hp).1) (by rw [z]; exact hb)) (Nat.lt_irrefl _)
structure Turn (P:Program) (w:World) (K:PySem.W.Frag) (tg:Expr) (J:It) (fp:List Addr) (it:Addr) (tn:Nat->Heap->Prop):Prop where
 mem:it∈fp
 obj:∀ i h,tn i h->∀ b∈fp,∃ o,h.get? b=some o/\∀ v,o.data≠.cell v
 keep:∀ i h h',tn i h->(∀ b∈fp,∀ o,h.get? b=some o->h'.get? b=some o)->tn i h'
 item:∀ (X:Cx),X.prog=P->X.w=w->X.K=K->X.calm=true->∀ (i:Nat) (pins:List (Addr×Obj)) (s:Shared) (σ:St) (H:Hp) (E:Value->Shared->Prop),Inv X pins σ H s->(∀ b∈fp,FpOk X pins H b)->tn i s.heap->J.go i H ->
  wpAny (model P w) X.A (pyNext (.ref it)) (fun r s1=>∃ u,r=some u /\
   wpAny (model P w) X.A (letOwnedTupleGo tg (.ref it) u) (fun _ s2=>∃ x H',Inv X pins σ H' s2/\RelV x u/\J.yld i H x H'/\tn (i+1) s2.heap/\∀ b∈fp,H' b=none) E s1) E s
 done:∀ (X:Cx),X.prog=P->X.w=w->X.K=K->X.calm=true->∀ (i:Nat) (pins:List (Addr×Obj)) (s:Shared) (σ:St) (H:Hp) (E:Value->Shared->Prop),Inv X pins σ H s->(∀ b∈fp,FpOk X pins H b)->tn i s.heap->J.stop i H ->
  wpAny (model P w) X.A (pyNext (.ref it)) (fun r s1=>r=none/\Inv X pins σ H s1) E s
 self:∀ (A:Around) (i:Nat) (s:Shared) (Q:Value->Shared->Prop) (E:Value->Shared->Prop),tn i s.heap->Q (.ref it) s->wpAny (model P w) A (pyIter (.ref it)) Q E s
abbrev TI:=St->Hp->(It->Hp->Prop)->Prop
def PIE (X:Cx) (pins:List (Addr×Obj)) (σ:St) (tg:Expr) (R:It->Hp->Prop) (itv:Value) (s2:Shared):Prop :=
 ∃ (it:Addr) (fp:List Addr) (tn:Nat->Heap->Prop) (J:It) (H':Hp),itv = .ref it/\Inv X pins σ H' s2/\Turn X.prog X.w X.K tg J fp it tn/\tn 0 s2.heap/\(∀ b∈fp,FpOk X pins H' b)/\R J H'
def PI (X:Cx) (tg iter:Expr) (wi:TI):Prop :=
 ∀ (pins:List (Addr×Obj)) (s:Shared) (σ:St) (H:Hp) (R:It->Hp->Prop),Inv X pins σ H s->wi σ H R ->
  wpAny (model X.prog X.w) X.A (eval iter X.env) (fun v s1=>wpAny (model X.prog X.w) X.A (pyIter v) (PIE X pins σ tg R) X.xe s1) X.xe s
theorem go_of {M:Model} {A:Around} {E:Value->Shared->Prop} {s:Shared} {tg:Expr} {it:Addr} {u:Value} {o:Obj} {n:String} {vs:Array Value} {Q:Unit->Shared->Prop} (ho:s.heap.get? it=some o) (hc:o.cls = .type n) (hd:o.data = .fields vs)
    (hn:["enumerate", "zip", "dict_itemiterator", "dict_reverseitemiterator", "odict_iterator", "itertools.zip_longest", "itertools.pairwise"].contains n=false) (hQ:Q () s):wpAny M A (letOwnedTupleGo tg (.ref it) u) Q E s:=by
  unfold letOwnedTupleGo
  cases tg <;> first
    | exact wpAny_pure hQ
    | (cases u <;> first
        | exact wpAny_pure hQ
        | (refine wpAny_bind (wpAny_load ho ?_)
           rw [hc,hd]
           show wpAny M A (if (["enumerate", "zip", "dict_itemiterator", "dict_reverseitemiterator", "odict_iterator", "itertools.zip_longest", "itertools.pairwise"].contains n && vs[0]? == some (rawInt _))=true then _ else _) Q E s
           rw [if_neg (by intro h; rw [hn,Bool.false_and] at h; cases h)]
           exact wpAny_pure hQ))
def Itl (K:PySem.W.Frag) (a:Addr):It :=
 ⟨fun i H=>∃ xs x,SqL K H a xs/\xs[i]? = some x,fun i H x H'=>H'=H/\∀ xs,SqL K H a xs->xs[i]? = some x,fun i H=>∃ xs,SqL K H a xs/\xs.length<=i⟩
def Itt (K:PySem.W.Frag) (a:Addr):It :=
 ⟨fun i H=>∃ xs x,SqT K H a xs/\xs[i]? = some x,fun i H x H'=>H'=H/\∀ xs,SqT K H a xs->xs[i]? = some x,fun i H=>∃ xs,SqT K H a xs/\xs.length<=i⟩
def Itr (lo:Int) (n:Nat):It:=⟨fun i _=>i<n,fun i H x H'=>H'=H/\x = .int (lo+i),fun i _=>n<=i⟩
theorem zow {P:Program} {w:World} {K:PySem.W.Frag} {tg:Expr} (a it:Addr):Turn P w K tg (Itl K a) [it] it (fun i h=>h.IsListIter it a i) where
 mem:=by simp
 obj:=fun i h st b hb=>by
  have e:b=it:=by simpa using hb
  subst e
  obtain ⟨o,e,c,d⟩:=st
  exact ⟨o,e,fun v z=>by rw [d] at z; cases z⟩
 keep:=fun i h h' st k=>st.at fun o e=>k it (by simp) o e
 item:=by
  intro X hP hw hK hc i pins s σ H E I hf st hg
  subst hP hw hK
  obtain ⟨xs,x,hq,hx⟩:=hg
  obtain ⟨its,rv,p,hz⟩:=I.list hq
  obtain ⟨u,hu,ru⟩:=rv.get hx
  obtain ⟨f0,f1,f2,f3,f4,f5⟩:=hf it (by simp)
  refine wpAny_pyNext_list_item st p.isList (x:=u) (by simpa using hu) fun h' st' sb=>?_
  have I1:Inv X pins σ H { s with heap:=h' }:=I.turned (t':=s.toks) (fun b o hb e=>(sb.2 b hb).trans e) f0 f1 f3 f4 f5
  obtain ⟨o,e,c,d⟩:=id st'
  exact ⟨u,rfl,go_of (s:={ s with heap:=h' }) e c d (by decide) ⟨x,H,I1,ru,⟨rfl,fun ys hy=>by rw [I.list_inj hy hq]; exact hx⟩,st',fun b hb=>(hf b hb).1⟩⟩
 done:=by
  intro X hP hw hK hc i pins s σ H E I hf st hg
  subst hP hw hK
  obtain ⟨xs,hq,hx⟩:=hg
  obtain ⟨its,rv,p,hz⟩:=I.list hq
  obtain ⟨f0,f1,f2,f3,f4,f5⟩:=hf it (by simp)
  have hl:=rv.length
  exact wpAny_pyNext_list_end (I.ok.hd hc) st p.isList (by simp; omega) fun h' eb=>⟨rfl,I.turned (t':=s.toks) (fun b o hb e=>eb b o hb e) f0 f1 f3 f4 f5⟩
 self:=fun _ _ _ _ _ st h=>wpAny_pyIter_listiter st h
theorem zny {P:Program} {w:World} {K:PySem.W.Frag} {tg:Expr} (it:Addr) (lo:Int) (n:Nat):Turn P w K tg (Itr lo n) [it] it (fun i h=>IsRangeIter h it (lo+(i:Nat)*1) ((n:Int)-(i:Nat)) 1) where
 mem:=by simp
 obj:=fun i h st b hb=>by
  have e:b=it:=by simpa using hb
  subst e
  exact ⟨_,st,fun v z=>by
   have z':Data.fields _=Data.cell v:=z
   cases z'⟩
 keep:=fun i h h' st k=>k it (by simp) _ st
 item:=by
  intro X hP hw hK hc i pins s σ H E I hf st hg
  subst hP hw hK
  obtain ⟨f0,f1,f2,f3,f4,f5⟩:=hf it (by simp)
  have W:=Walks.range (prog:=X.prog) (w:=X.w) (I.ok.hd hc) it lo 1 n
  refine W.item i s _ _ hg st fun v h' tk hv st' kk=>?_
  obtain ⟨t,rfl⟩:=hv
  have I1:Inv X pins σ H { s with heap:=h',toks:=tk }:=I.turned (fun b o hb e=>kk b o (by simpa using hb) e) f0 f1 f3 f4 f5
  refine ⟨_,rfl,go_of (s:={ s with heap:=h',toks:=tk }) (n := "range_iterator") st' rfl rfl (by decide) ⟨.int (lo+i),H,I1,⟨t,?_⟩,⟨rfl,rfl⟩,st',fun b hb=>(hf b hb).1⟩⟩
  rw [Int.mul_one]
 done:=by
  intro X hP hw hK hc i pins s σ H E I hf st hg
  subst hP hw hK
  obtain ⟨f0,f1,f2,f3,f4,f5⟩:=hf it (by simp)
  exact wpAny_pyNext_range_end (I.ok.hd hc) st (by have:n<=i:=hg; omega) fun h' eb=>⟨rfl,I.turned (t':=s.toks) (fun b o hb e=>eb b o hb e) f0 f1 f3 f4 f5⟩
 self:=fun _ _ _ _ _ st h=>wpAny_pyIter_rangeiter st h
end L2
namespace L2
open PySem PySem.Spec PyProof.Rows
section
variable {X:Cx} {tg:Expr}
def iList (K:PySem.W.Frag) (tl:TE):TI:=fun σ H R=>tl σ H fun x H1=>∃ a,x = .ref a/\(∃ xs,SqL K H1 a xs)/\R (Itl K a) H1
def iTup (K:PySem.W.Frag) (tl:TE):TI:=fun σ H R=>tl σ H fun x H1=>∃ a,x = .ref a/\(∃ xs,SqT K H1 a xs)/\R (Itt K a) H1
theorem ztr {l:Expr} {tl:TE} (hl:PE X l tl):PI X tg l (iList X.K tl):=by
 intro pins s σ H R I h
 refine thn (hl pins s σ H _ I h) fun v s1 ⟨x,H1,I1,r1,q1⟩=>?_
 obtain ⟨a,e,⟨xs,hq⟩,q⟩:=q1
 subst e
 cases r1
 obtain ⟨its,rv,p,hz⟩:=I1.list hq
 refine wpAny_pyIter_list p.isList ?_
 refine ⟨s1.heap.objs.size,[s1.heap.objs.size],_,_,H1,rfl,I1.kept (t':=s1.toks) fun b o e=>Heap.get?_push_of_some _ e,zow a _,⟨_,Heap.get?_push_size _ rfl,rfl,rfl⟩,fun b hb=>?_,q⟩
 have e:b=s1.heap.objs.size:=by simpa using hb
 subst e
 exact I1.fpOk (Nat.le_refl _) (I1.hok.fresh (Nat.le_refl _))
theorem zri {pins:List (Addr×Obj)} {σ:St} {H:Hp} {s:Shared} {R:It->Hp->Prop} {E:Value->Shared->Prop} {lo hi:Int} {t u v:Tok} {tk:Nat} (I:Inv X pins σ H s) (h1:-(2 ^ 62)<=lo) (h2:lo<2 ^ 62) (h3:-(2 ^ 62)<=hi) (h4:hi<2 ^ 62)
    (q:R (Itr lo (hi-lo).toNat) H):wpAny (model X.prog X.w) X.A (pyIter (.ref s.heap.objs.size)) (PIE X pins σ tg R) E { s with heap:=s.heap.push { cls:=.type "range", data:=.fields #[.int lo t,.int hi u,.int 1 v] },toks:=tk }:=by
  refine wpAny_pyIter_range (IsRange.new ..) (small_one h1 h2 h3 h4) ?_
  have I1:Inv X pins σ H { s with heap:=s.heap.push { cls:=.type "range", data:=.fields #[.int lo t,.int hi u,.int 1 v] },toks:=tk }:=I.kept fun b o e=>Heap.get?_push_of_some _ e
  refine ⟨(s.heap.push { cls:=.type "range", data:=.fields #[.int lo t,.int hi u,.int 1 v] }).objs.size,[(s.heap.push { cls:=.type "range", data:=.fields #[.int lo t,.int hi u,.int 1 v] }).objs.size],_,_,H,rfl,
    I1.kept (t':=tk) fun b o e=>Heap.get?_push_of_some _ e,zny _ lo (hi-lo).toNat,?_,fun b hb=>?_,q⟩
  · have e1:lo+((0:Nat):Int)*1=lo:=by simp
    have e2:(((hi-lo).toNat:Nat):Int)-((0:Nat):Int)=Builtin.Range.rangeSize lo hi 1:=by rw [rangeSize_one]; split <;> omega
    show IsRangeIter _ _ (lo+((0:Nat):Int)*1) ((((hi-lo).toNat:Nat):Int)-((0:Nat):Int)) 1
    rw [e1,e2]
    exact Heap.get?_push_size _ rfl
  · have e:b=(s.heap.push { cls:=.type "range", data:=.fields #[.int lo t,.int hi u,.int 1 v] }).objs.size:=by simpa using hb
    subst e
    exact I1.fpOk (Nat.le_refl _) (I1.hok.fresh (Nat.le_refl _))
def iRng1 (ta:TA):TI:=fun σ H R=>ta σ H fun vs H1=>∃ j:Int,vs = [.int j]/\-(2 ^ 62)<=j/\j<2 ^ 62/\R (Itr 0 j.toNat) H1
def iRng2 (ta:TA):TI:=fun σ H R=>ta σ H fun vs H1=>∃ i j:Int,vs = [.int i,.int j]/\(-(2 ^ 62)<=i/\i<2 ^ 62/\-(2 ^ 62)<=j/\j<2 ^ 62)/\R (Itr i (j-i).toNat) H1
theorem zfz {a:Expr} {ta:TA} {p pos:Pos} (hg:Gl X "range") (hm:X.mg "range" = none) (ha:PA X [a] ta) (hs:starEach [a] X.env = [(false,eval a X.env)]:=by rfl):PI X tg (.Call (.Name "range" p) [a] [] pos) (iRng1 ta):=by
 intro pins s σ H R I h
 refine Call_ (zht I hg hm boot_range (PyProof.Rows.callWith_type1 (thn (ha pos pins s σ H _ I h) fun us s1 ⟨vs,H1,I1,r1,q1⟩=>?_) hs rfl))
 obtain ⟨j,e,q1,q2,q⟩:=q1
 subst e
 cases r1 with
 | cons r rr =>
  cases rr
  obtain ⟨t,rfl⟩:=r
  exact call_range_1 (zri I1 (by omega) (by omega) q1 q2 (by simpa using q))
def tFor (wi:TI) (g:TG) (tb:TS):TS:=fun D σ H=>wi σ H fun J H1=>∃ W:Nat->Nat->St->Hp->Prop,(∃ m,W 0 m σ H1)/\∀ i m σ H,W i m σ H ->
 (J.stop i H/\D.nx σ H)\/(J.go i H/\∃ N:St->Hp->Prop,(∀ σ' H',N σ' H'->∃ m',m' < m/\W (i+1) m' σ' H')/\∀ x H',J.yld i H x H'->g x σ H' fun σ2 H2=>tb { D with nx:=N,ct:=N,bk:=D.nx } σ2 H2)
def zhv (fp:List Addr) (h:Heap):List (Addr×Obj):=fp.filterMap fun b=>(h.get? b).map fun o=>(b,o)
theorem zcz {fp:List Addr} {h:Heap} {b:Addr} {o:Obj} (hb:b∈fp) (e:h.get? b=some o):(b,o)∈zhv fp h:=List.mem_filterMap.mpr ⟨b,hb,by rw [e]; rfl⟩
theorem zox {fp:List Addr} {h:Heap} {p:Addr×Obj} (hp:p∈zhv fp h):p.1∈fp/\h.get? p.1=some p.2:=by
 obtain ⟨b,hb,e⟩:=List.mem_filterMap.mp hp
 cases q:h.get? b with
 | none=>rw [q] at e; cases e
 | some o =>
  rw [q] at e
  have e':(b,o)=p:=Option.some.inj e
  subst e'
  exact ⟨hb,q⟩
theorem Inv.pinned {pins:List (Addr×Obj)} {σ:St} {H:Hp} {s:Shared} {fp:List Addr} (I:Inv X pins σ H s) (hf:∀ b∈fp,FpOk X pins H b) (ho:∀ b∈fp,∃ o,s.heap.get? b=some o/\∀ v,o.data≠.cell v):Inv X (pins++zhv fp s.heap) σ H s :=
 I.pins_of fun p hp=>(List.mem_append.mp hp).elim (fun z=>I.pin p (List.mem_append_right _ z)) fun z=>by
  obtain ⟨hb,e⟩:=zox z
  obtain ⟨f0,f1,f2,_⟩:=hf p.1 hb
  obtain ⟨o,e',d⟩:=ho p.1 hb
  rw [e] at e'; cases e'
  exact ⟨e,f0,f1,f2,d⟩
theorem Inv.unpinned {pins pl:List (Addr×Obj)} {σ:St} {H:Hp} {s:Shared} (I:Inv X (pins++pl) σ H s):Inv X pins σ H s:=I.pins_of fun p hp=>I.pin p (List.mem_append_right _ (List.mem_append_left _ hp))
theorem zdq {iter:Expr} {body:List Stmt} {wi:TI} {g:TG} {tb:TS} {pos:Pos} (hp:PassesOwn (model X.prog X.w) X.A X.env X.xe) (hc:X.calm=true) (hi:PI X tg iter wi) (hg:PG X tg g) (hb:PSs X body tb)
    (hs:∀ x,foldedSetIterable iter X.env x=pure x:=by intro _; rfl):PS X (.For tg iter body [] pos) (tFor wi g tb):=by
  intro pins s σ H D I h
  refine wpAny_For (thn (hi pins s σ H _ I h) fun v s1 h1=>thn h1 fun itv s2 h2=>?_) hs
  obtain ⟨it,fp,tn,J,H2,e,I2,T,st2,f2,W,⟨m0,w0⟩,turn⟩:=h2
  subst e
  have stat:∀ {H':Hp},(∀ b∈fp,H' b=none)->∀ b∈fp,FpOk X pins H' b:=fun hn b hb=>⟨hn b hb,(f2 b hb).2⟩
  refine codeAny_forLoop_any (fun n s'=>∃ i σ' H',Inv X pins σ' H' s'/\tn i s'.heap/\(∀ b∈fp,H' b=none)/\W i n σ' H') ?_ m0 ⟨0,σ,H2,I2,st2,fun b hb=>(f2 b hb).1,w0⟩
  rintro n s3 ⟨i,σ3,H3,I3,st3,fr3,w3⟩
  rcases turn i n σ3 H3 w3 with ⟨stop,qn⟩ | ⟨go,N,hN,step⟩
  · refine wpAny_passesOwn hp (thn (T.done X rfl rfl rfl hc i pins s3 σ3 H3 X.xe I3 (stat fr3) st3 stop) fun r s4 ⟨hr,I4⟩=>?_)
    subst hr
    exact wpAny_execs_nil ⟨σ3,H3,I4,qn⟩
  · refine wpAny_passesOwn hp (thn (T.item X rfl rfl rfl hc i pins s3 σ3 H3 X.xe I3 (stat fr3) st3 go) fun r s4 ⟨u,hr,h4⟩=>?_)
    subst hr
    refine wpAny_passesOwn hp (thn h4 fun _ s5 ⟨x,H5,I5,r5,y5,st5,fr5⟩=>?_)
    have I5':=I5.pinned (stat fr5) (T.obj _ _ st5)
    refine wpAny_passesOwn hp (thn (hg _ s5 σ3 H5 x u _ I5' r5 (step x H5 y5)) fun _ s6 ⟨σ6,H6,I6,q6⟩=>?_)
    refine wpAny_passesOwn hp (thn (hb _ s6 σ6 H6 _ I6 q6) fun f s7 q7=>?_)
    have again:∀ {σ7:St} {H7:Hp},Inv X (pins++zhv fp s5.heap) σ7 H7 s7->N σ7 H7->∃ m,m<n/\∃ i σ' H',Inv X pins σ' H' s7/\tn i s7.heap/\(∀ b∈fp,H' b=none)/\W i m σ' H':=fun {σ7 H7} I7 n7=>by
      obtain ⟨m',hm,w7⟩:=hN σ7 H7 n7
      refine ⟨m',hm,i+1,σ7,H7,I7.unpinned,T.keep _ _ _ st5 fun b hb o e=>(I7.pin (b,o) (List.mem_append_right _ (List.mem_append_right _ (zcz hb e)))).1,fun b hb=>?_,w7⟩
      obtain ⟨o,e,d⟩:=T.obj _ _ st5 b hb
      exact (I7.pin (b,o) (List.mem_append_right _ (List.mem_append_right _ (zcz hb e)))).2.1
    cases f with
    | next=>obtain ⟨σ7,H7,I7,n7⟩:=q7; exact again I7 n7
    | cont=>obtain ⟨σ7,H7,I7,n7⟩:=q7; exact again I7 n7
    | brk=>obtain ⟨σ7,H7,I7,q7⟩:=q7; exact ⟨σ7,H7,I7.unpinned,q7⟩
    | ret v=>obtain ⟨x7,σ7,H7,I7,r7,q7⟩:=q7; exact ⟨x7,σ7,H7,I7.unpinned,r7,q7⟩
end
theorem zdp {K:PySem.W.Frag} {a:Addr} {xs:List V} {g:TG} {tb:TS} {D:Ends} {σ:St} {H:Hp} (Pv:Nat->St->Hp->Prop) (h0:Pv 0 σ H) (hl:∀ i σ H,i<=xs.length->Pv i σ H->SqL K H a xs)
    (hs:∀ i x σ H,xs[i]? = some x->Pv i σ H->g x σ H fun σ2 H2=>tb { D with nx:=Pv (i+1),ct:=Pv (i+1),bk:=D.nx } σ2 H2) (hd:∀ σ H,Pv xs.length σ H->D.nx σ H) :
    ∃ W:Nat->Nat->St->Hp->Prop,(∃ m,W 0 m σ H)/\∀ i m σ H,W i m σ H ->
      ((Itl K a).stop i H/\D.nx σ H)\/((Itl K a).go i H/\∃ N:St->Hp->Prop,(∀ σ' H',N σ' H'->∃ m',m' < m/\W (i+1) m' σ' H')/\∀ x H',(Itl K a).yld i H x H'->g x σ H' fun σ2 H2=>tb { D with nx:=N,ct:=N,bk:=D.nx } σ2 H2):=by
  refine ⟨fun i m σ H=>m=xs.length-i/\i<=xs.length/\Pv i σ H,⟨xs.length,by simp,Nat.zero_le _,h0⟩,?_⟩
  rintro i m σ H ⟨rfl,hi,p⟩
  have q:=hl i σ H hi p
  by_cases hlt:i<xs.length
  · refine .inr ⟨⟨xs,xs[i],q,by simp [hlt]⟩,Pv (i+1),fun σ' H' p'=>⟨xs.length-(i+1),by omega,rfl,hlt,p'⟩,fun x H' y=>?_⟩
    obtain ⟨e,y⟩:=y
    subst e
    exact hs i x σ _ (y xs q) p
  · have e:i=xs.length:=by omega
    subst e
    exact .inl ⟨⟨xs,q,Nat.le_refl _⟩,hd σ H p⟩
theorem zhw {lo:Int} {n:Nat} {g:TG} {tb:TS} {D:Ends} {σ:St} {H:Hp} (Pv:Nat->St->Hp->Prop) (h0:Pv 0 σ H)
    (hs:∀ i σ H,i<n->Pv i σ H->g (.int (lo+i)) σ H fun σ2 H2=>tb { D with nx:=Pv (i+1),ct:=Pv (i+1),bk:=D.nx } σ2 H2) (hd:∀ σ H,Pv n σ H->D.nx σ H) :
    ∃ W:Nat->Nat->St->Hp->Prop,(∃ m,W 0 m σ H)/\∀ i m σ H,W i m σ H ->
      ((Itr lo n).stop i H/\D.nx σ H)\/((Itr lo n).go i H/\∃ N:St->Hp->Prop,(∀ σ' H',N σ' H'->∃ m',m' < m/\W (i+1) m' σ' H')/\∀ x H',(Itr lo n).yld i H x H'->g x σ H' fun σ2 H2=>tb { D with nx:=N,ct:=N,bk:=D.nx } σ2 H2):=by
  refine ⟨fun i m σ H=>m=n-i/\i<=n/\Pv i σ H,⟨n,by simp,Nat.zero_le _,h0⟩,?_⟩
  rintro i m σ H ⟨rfl,hi,p⟩
  by_cases hlt:i<n
  · refine .inr ⟨hlt,Pv (i+1),fun σ' H' p'=>⟨n-(i+1),by omega,rfl,hlt,p'⟩,fun x H' y=>?_⟩
    obtain ⟨e,y⟩:=y
    subst e y
    exact hs i σ _ hlt p
  · have e:i=n:=by omega
    subst e
    exact .inl ⟨Nat.le_refl _,hd σ H p⟩
end L2
namespace L2
open PySem PySem.Spec PyProof.Rows
abbrev R2:=V->V->Hp->VK->Prop
def OpR (X:Cx) (f:Value->Value->Sem Value) (r:R2):Prop :=
 ∀ (pins:List (Addr×Obj)) (s:Shared) (σ:St) (H:Hp) (x y:V) (v u:Value) (Q:VK),Inv X pins σ H s->RelV x v->RelV y u->r x y H Q ->
  wpAny (model X.prog X.w) X.A (f v u) (EP X pins σ Q) X.xe s
def UnR (X:Cx) (f:Value->Sem Value) (r:V->Hp->VK->Prop):Prop :=
 ∀ (pins:List (Addr×Obj)) (s:Shared) (σ:St) (H:Hp) (x:V) (v:Value) (Q:VK),Inv X pins σ H s->RelV x v->r x H Q ->
  wpAny (model X.prog X.w) X.A (f v) (EP X pins σ Q) X.xe s
def CallR (X:Cx) (f:Value) (r:List V->Hp->VK->Prop):Prop :=
 ∀ (pins:List (Addr×Obj)) (s:Shared) (σ:St) (H:Hp) (xs:List V) (us:List Value) (Q:VK),Inv X pins σ H s->Vals xs us->r xs H Q ->
  wpAny (model X.prog X.w) X.A (call f us) (EP X pins σ Q) X.xe s
def TruR (X:Cx) (r:V->Hp->(Bool->Hp->Prop)->Prop):Prop :=
 ∀ (pins:List (Addr×Obj)) (s:Shared) (σ:St) (H:Hp) (x:V) (v:Value) (Q:Bool->Hp->Prop),Inv X pins σ H s->RelV x v->r x H Q ->
  wpAny (model X.prog X.w) X.A (truthy v) (TP X pins σ Q) X.xe s
def tOp (r:R2) (ta tb:TE):TE:=fun σ H Q=>ta σ H fun x H1=>tb σ H1 fun y H2=>r x y H2 Q
def tUn (r:V->Hp->VK->Prop) (ta:TE):TE:=fun σ H Q=>ta σ H fun x H1=>r x H1 Q
def rI (C:Int->Int->Prop) (g:Int->Int->V):R2:=fun x y H Q=>∃ i j,x = .int i/\y = .int j/\C i j/\Q (g i j) H
def rI0 (g:Int->Int->V):R2:=fun x y H Q=>∃ i j,x = .int i/\y = .int j/\Q (g i j) H
def rU (g:Int->V):V->Hp->VK->Prop:=fun x H Q=>∃ i,x = .int i/\Q (g i) H
section
variable {X:Cx} {a b c:Expr} {ta tb tc:TE} {pos:Pos}
theorem binT (ha:PE X a ta) (hb:PE X b tb) {pins:List (Addr×Obj)} {s:Shared} {σ:St} {H:Hp} {R:V->V->Hp->Prop} (I:Inv X pins σ H s)
    (h:ta σ H fun x H1=>tb σ H1 fun y H2=>R x y H2) {Q:Value->Shared->Prop} {f:Value->Value->Sem Value}
    (hf:∀ v u s2 x y H2,Inv X pins σ H2 s2->RelV x v->RelV y u->R x y H2->wpAny (model X.prog X.w) X.A (f v u) Q X.xe s2) :
    wpAny (model X.prog X.w) X.A (eval a X.env) (fun v s₁=>wpAny (model X.prog X.w) X.A (eval b X.env) (fun u s₂=>wpAny (model X.prog X.w) X.A (f v u) Q X.xe s₂) X.xe s₁) X.xe s:=by
  refine thn (ha pins s σ H _ I h) fun v s1 ⟨x,H1,I1,r1,q1⟩=>?_
  refine thn (hb pins s1 σ H1 _ I1 q1) fun u s2 ⟨y,H2,I2,r2,q2⟩=>?_
  exact hf v u s2 x y H2 I2 r1 r2 q2
theorem pe_op {op:Operator} {r:R2} (ho:OpR X (binaryOp op) r) (ha:PE X a ta) (hb:PE X b tb):PE X (.BinOp a op b pos) (tOp r ta tb):=by
 intro pins s σ H Q I h
 exact wpAny_BinOp (binT ha hb I h fun v u s2 x y H2 I2 rx ry q=>ho pins s2 σ H2 x y v u Q I2 rx ry q)
theorem pe_un {op:UnaryOp} {r:V->Hp->VK->Prop} (ho:UnR X (unaryOp op) r) (ha:PE X a ta):PE X (.UnaryOp op a pos) (tUn r ta):=by
 intro pins s σ H Q I h
 exact UnaryOp_ (thn (ha pins s σ H _ I h) fun v s1 ⟨x,H1,I1,r1,q1⟩=>ho pins s1 σ H1 x v Q I1 r1 q1)
theorem opI {f:Value->Value->Sem Value} {C:Int->Int->Prop} {g:Int->Int->Int}
    (rule:∀ (i j:Int) (t u:Tok) (s:Shared) (Q:Value->Shared->Prop) (E:Value->Shared->Prop),C i j->Q (.int (g i j) s.toks) { s with toks:=s.toks+1 }->wpAny (model X.prog X.w) X.A (f (.int i t) (.int j u)) Q E s) :
    OpR X f (rI C fun i j=>.int (g i j)):=by
  intro pins s σ H x y v u Q I rx ry h
  obtain ⟨i,j,rfl,rfl,hc,q⟩:=h
  obtain ⟨t,rfl⟩:=rx
  obtain ⟨t',rfl⟩:=ry
  exact rule i j t t' s _ _ hc ⟨.int (g i j),H,I.tok _,⟨_,rfl⟩,q⟩
theorem opI0 {f:Value->Value->Sem Value} {g:Int->Int->Int}
    (rule:∀ (i j:Int) (t u:Tok) (s:Shared) (Q:Value->Shared->Prop) (E:Value->Shared->Prop),Q (.int (g i j) s.toks) { s with toks:=s.toks+1 }->wpAny (model X.prog X.w) X.A (f (.int i t) (.int j u)) Q E s) :
    OpR X f (rI0 fun i j=>.int (g i j)):=by
  intro pins s σ H x y v u Q I rx ry h
  obtain ⟨i,j,rfl,rfl,q⟩:=h
  obtain ⟨t,rfl⟩:=rx
  obtain ⟨t',rfl⟩:=ry
  exact rule i j t t' s _ _ ⟨.int (g i j),H,I.tok _,⟨_,rfl⟩,q⟩
theorem opB0 {f:Value->Value->Sem Value} {g:Int->Int->Bool}
    (rule:∀ (i j:Int) (t u:Tok) (s:Shared) (Q:Value->Shared->Prop) (E:Value->Shared->Prop),Q (.bool (g i j)) s->wpAny (model X.prog X.w) X.A (f (.int i t) (.int j u)) Q E s) :
    OpR X f (rI0 fun i j=>.bl (g i j)):=by
  intro pins s σ H x y v u Q I rx ry h
  obtain ⟨i,j,rfl,rfl,q⟩:=h
  obtain ⟨t,rfl⟩:=rx
  obtain ⟨t',rfl⟩:=ry
  exact rule i j t t' s _ _ ⟨.bl (g i j),H,I,rfl,q⟩
def CPow (i j:Int):Prop:=0<=j/\j<=1000000/\i.natAbs<2 ^ 64
theorem zdu:OpR X (binaryOp .Add) (rI0 fun i j=>.int (i+j)):=opI0 fun _ _ _ _ _ _ _ q=>add_int q
theorem zoy:OpR X (binaryOp .Sub) (rI0 fun i j=>.int (i-j)):=opI0 fun _ _ _ _ _ _ _ q=>sub_int q
theorem zeg:OpR X (binaryOp .Mod) (rI (fun _ j=>0<j) fun i j=>.int (i % j)):=opI fun i j _ _ _ _ _ hc q=>by
 have h1:(0:Int)<j:=hc
 exact mod_int' (by omega) (by rw [Int.fmod_eq_emod_of_nonneg i (by omega)]; exact q)
theorem zja:OpR X (binaryOp .Pow) (rI CPow fun i j=>.int (i ^ j.toNat)):=opI fun _ _ _ _ _ _ _ hc q=>pow_int_small hc.1 hc.2.1 hc.2.2 q
theorem unI {f:Value->Sem Value} {g:Int->Int}
    (rule:∀ (i:Int) (t:Tok) (s:Shared) (Q:Value->Shared->Prop) (E:Value->Shared->Prop),Q (.int (g i) s.toks) { s with toks:=s.toks+1 }->wpAny (model X.prog X.w) X.A (f (.int i t)) Q E s) :
    UnR X f (rU fun i=>.int (g i)):=by
  intro pins s σ H x v Q I rx h
  obtain ⟨i,rfl,q⟩:=h
  obtain ⟨t,rfl⟩:=rx
  exact rule i t s _ _ ⟨.int (g i),H,I.tok _,⟨_,rfl⟩,q⟩
theorem zwf:UnR X (unaryOp .USub) (rU fun i=>.int (-i)):=unI fun _ _ _ _ _ q=>neg_int q
end
def scal:V->V->Bool
 | .non,.non=>true | .non,.int _=>true | .int _,.non=>true | .non,.bl _=>true | .bl _,.non=>true | .non,.str _=>true | .str _,.non=>true
 | .int _,.int _=>true | .bl _,.bl _=>true | .str _,.str _=>true | .byt _,.byt _=>true
 | .int _,.str _=>true | .str _,.int _=>true | .bl _,.str _=>true | .str _,.bl _=>true
 | _,_=>false
def rEq:R2:=fun x y H Q=>scal x y=true/\Q (.bl (decide (x=y))) H
def rNe:R2:=fun x y H Q=>scal x y=true/\Q (.bl (!decide (x=y))) H
theorem zoz {i j:Int}:decide (V.int i=V.int j)=(i == j):=by
 rw [Bool.eq_iff_iff]
 simp
theorem zsy {i j:Bool}:decide (V.bl i=V.bl j)=(i == j):=by
 rw [Bool.eq_iff_iff]
 simp
theorem zpa {i j:Str}:decide (V.str i=V.str j)=(i == j):=by
 rw [Bool.eq_iff_iff]
 simp
theorem zpb {i j:Array UInt8}:decide (V.byt i=V.byt j)=(i.toList == j.toList):=by
 rw [Bool.eq_iff_iff]
 cases i
 cases j
 simp
section
variable {X:Cx} {a b c:Expr} {ta tb tc:TE} {pos:Pos}
theorem zbi {pins:List (Addr×Obj)} {σ:St} {H:Hp} {s:Shared} {Q:VK} {k k':Bool} (I:Inv X pins σ H s) (q:Q (.bl k) H) (e:k=k'):EP X pins σ Q (.bool k') s:=by
 subst e
 exact ⟨.bl k,H,I,rfl,q⟩
theorem op_eq:OpR X (compareOp .Eq) rEq:=by
 intro pins s σ H x y v u Q I rx ry h
 obtain ⟨hs,q⟩:=h
 cases x with
 | non =>
  cases rx
  cases y with
  | non=>cases ry; exact PySem.EqNone.eq_none_none (zbi I q (by simp))
  | bl j=>cases ry; exact PySem.EqNone.eq_none_bool (zbi I q (by simp))
  | int j=>obtain ⟨t',rfl⟩:=ry; exact PySem.EqNone.eq_none_int (zbi I q (by simp))
  | str j=>obtain ⟨t',rfl⟩:=ry; exact PySem.EqNone.eq_none_str (zbi I q (by simp))
  | _=>exact absurd (show false=true from hs) Bool.false_ne_true
 | bl i =>
  cases rx
  cases y with
  | non=>cases ry; exact PySem.EqNone.eq_bool_none (zbi I q (by simp))
  | bl j=>cases ry; exact eq_bool (zbi I q zsy)
  | str j=>obtain ⟨t',rfl⟩:=ry; exact PySem.EqMixed.eq_bool_str (zbi I q (by simp))
  | _=>exact absurd (show false=true from hs) Bool.false_ne_true
 | int i =>
  obtain ⟨t,rfl⟩:=rx
  cases y with
  | non=>cases ry; exact PySem.EqNone.eq_int_none (zbi I q (by simp))
  | int j=>obtain ⟨t',rfl⟩:=ry; exact eq_int (zbi I q zoz)
  | str j=>obtain ⟨t',rfl⟩:=ry; exact PySem.EqMixed.eq_int_str (zbi I q (by simp))
  | _=>exact absurd (show false=true from hs) Bool.false_ne_true
 | str i =>
  obtain ⟨t,rfl⟩:=rx
  cases y with
  | non=>cases ry; exact PySem.EqNone.eq_str_none (zbi I q (by simp))
  | bl j=>cases ry; exact PySem.EqMixed.eq_str_bool (zbi I q (by simp))
  | int j=>obtain ⟨t',rfl⟩:=ry; exact PySem.EqMixed.eq_str_int (zbi I q (by simp))
  | str j=>obtain ⟨t',rfl⟩:=ry; exact eq_str (zbi I q zpa)
  | _=>exact absurd (show false=true from hs) Bool.false_ne_true
 | byt i =>
  obtain ⟨t,rfl⟩:=rx
  cases y with
  | byt j=>obtain ⟨t',rfl⟩:=ry; exact PySem.W.eq_bytes (zbi I q zpb)
  | _=>exact absurd (show false=true from hs) Bool.false_ne_true
 | _=>cases y <;> exact absurd (show false=true from hs) Bool.false_ne_true
theorem op_ne:OpR X (compareOp .NotEq) rNe:=by
 intro pins s σ H x y v u Q I rx ry h
 obtain ⟨hs,q⟩:=h
 cases x with
 | non =>
  cases rx
  cases y with
  | non=>cases ry; exact PySem.EqNone.ne_none_none (zbi I q (by simp))
  | bl j=>cases ry; exact PySem.EqNone.ne_none_bool (zbi I q (by simp))
  | int j=>obtain ⟨t',rfl⟩:=ry; exact PySem.EqNone.ne_none_int (zbi I q (by simp))
  | str j=>obtain ⟨t',rfl⟩:=ry; exact PySem.EqNone.ne_none_str (zbi I q (by simp))
  | _=>exact absurd (show false=true from hs) Bool.false_ne_true
 | bl i =>
  cases rx
  cases y with
  | non=>cases ry; exact PySem.EqNone.ne_bool_none (zbi I q (by simp))
  | bl j=>cases ry; exact ne_bool (zbi I q (congrArg not zsy))
  | str j=>obtain ⟨t',rfl⟩:=ry; exact PySem.EqMixed.ne_bool_str (zbi I q (by simp))
  | _=>exact absurd (show false=true from hs) Bool.false_ne_true
 | int i =>
  obtain ⟨t,rfl⟩:=rx
  cases y with
  | non=>cases ry; exact PySem.EqNone.ne_int_none (zbi I q (by simp))
  | int j=>obtain ⟨t',rfl⟩:=ry; exact ne_int (zbi I q (congrArg not zoz))
  | str j=>obtain ⟨t',rfl⟩:=ry; exact PySem.EqMixed.ne_int_str (zbi I q (by simp))
  | _=>exact absurd (show false=true from hs) Bool.false_ne_true
 | str i =>
  obtain ⟨t,rfl⟩:=rx
  cases y with
  | non=>cases ry; exact PySem.EqNone.ne_str_none (zbi I q (by simp))
  | bl j=>cases ry; exact PySem.EqMixed.ne_str_bool (zbi I q (by simp))
  | int j=>obtain ⟨t',rfl⟩:=ry; exact PySem.EqMixed.ne_str_int (zbi I q (by simp))
  | str j=>obtain ⟨t',rfl⟩:=ry; exact ne_str (zbi I q (congrArg not zpa))
  | _=>exact absurd (show false=true from hs) Bool.false_ne_true
 | byt i =>
  obtain ⟨t,rfl⟩:=rx
  cases y with
  | byt j=>obtain ⟨t',rfl⟩:=ry; exact PySem.W.ne_bytes (zbi I q (congrArg not zpb))
  | _=>exact absurd (show false=true from hs) Bool.false_ne_true
 | _=>cases y <;> exact absurd (show false=true from hs) Bool.false_ne_true
theorem op_lt:OpR X (compareOp .Lt) (rI0 fun i j=>.bl (decide (i<j))):=opB0 fun _ _ _ _ _ _ _ q=>lt_int q
theorem op_gt:OpR X (compareOp .Gt) (rI0 fun i j=>.bl (decide (j<i))):=opB0 fun _ _ _ _ _ _ _ q=>gt_int q
theorem op_ge:OpR X (compareOp .GtE) (rI0 fun i j=>.bl (decide (j<=i))):=opB0 fun _ _ _ _ _ _ _ q=>ge_int q
theorem zsz:OpR X (compareOp .Is) (fun x y H Q=>y = .non/\Q (.bl (decide (x = .non))) H):=by
 intro pins s σ H x y v u Q I rx ry h
 obtain ⟨rfl,q⟩:=h
 cases ry
 refine is_none_gen (zbi I q ?_)
 cases x <;> first
  | (cases rx; rfl)
  | (obtain ⟨t,rfl⟩:=rx; rfl)
theorem zpc:OpR X (compareOp .IsNot) (fun x y H Q=>y = .non/\Q (.bl (!decide (x = .non))) H):=by
 intro pins s σ H x y v u Q I rx ry h
 obtain ⟨rfl,q⟩:=h
 cases ry
 refine isnot_none_gen (zbi I q ?_)
 cases x <;> first
  | (cases rx; rfl)
  | (obtain ⟨t,rfl⟩:=rx; rfl)
theorem zcp (b:Expr) {op:CmpOp} (h:op≠.In:=by decide) (h2:op≠.NotIn:=by decide):behindInMarks op b=false:=by
 have e1:(op == CmpOp.In)=false:=by cases op <;> first | rfl | exact absurd rfl h
 have e2:(op == CmpOp.NotIn)=false:=by cases op <;> first | rfl | exact absurd rfl h2
 cases b <;> simp [behindInMarks,e1,e2]
theorem zjx {op:CmpOp} {r:R2} (ho:OpR X (compareOp op) r) (ha:PE X a ta) (hb:PE X b tb) (hm:behindInMarks op b=false):PE X (.Compare a [op] [b] pos) (tOp r ta tb):=by
 intro pins s σ H Q I h
 exact wpAny_Compare1 (binT ha hb I h fun v u s2 x y H2 I2 rx ry q=>ho pins s2 σ H2 x y v u Q I2 rx ry q) hm
def tTest (t:TE):TT:=fun σ H Q=>t σ H fun x H'=>∃ k,x = .bl k/\Q k H'
theorem zcb {op:CmpOp} {r:R2} (ho:OpR X (compareOp op) r) (ha:PE X a ta) (hb:PE X b tb) (hm:behindInMarks op b=false):PT X (.Compare a [op] [b] pos) (tTest (tOp r ta tb)):=by
 intro pins s σ H Q I h
 refine wpAny_isTrue_Compare1 (thn (ha pins s σ H _ I h) fun v s1 ⟨x,H1,I1,r1,q1⟩=>thn (hb pins s1 σ H1 _ I1 q1) fun u s2 ⟨y,H2,I2,r2,q2⟩ =>
  thn (ho pins s2 σ H2 x y v u _ I2 r1 r2 q2) fun c s3 ⟨z,H3,I3,r3,k,e,q3⟩=>?_) hm
 subst e
 cases r3
 exact wpAny_truthy_bool ⟨H3,I3,q3⟩
def tChain (r r':R2) (ta tb tc:TE):TE:=fun σ H Q=>ta σ H fun x H1=>tb σ H1 fun y H2=>r x y H2 fun z H3=>∃ k,z = .bl k /\
 (if k=true then tc σ H3 fun w' H4=>r' y w' H4 Q else Q (.bl false) H3)
def TruV (K:PySem.W.Frag) (x:V) (H:Hp) (k:Bool):Prop :=
 match x with
 | .non=>k=false
 | .bl b=>k=b
 | .int i=>k=(i != 0)
 | .str y=>y.length<=sizeLine/\k=((y.length:Int) != 0)
 | .byt y=>y.size<=sizeLine/\k=((y.size:Int) != 0)
 | .ref p=>(∃ xs,SqL K H p xs/\k = !xs.isEmpty)\/(∃ xs,SqT K H p xs/\k = !xs.isEmpty)\/∃ kvs,H p=some (.dK kvs)/\k = !kvs.isEmpty
 | _=>False
theorem znz {κ:Type} {kvs:List (κ×V)} {vs:List (κ×Value)} (r:KV kvs vs):(!vs.isEmpty) = !kvs.isEmpty:=by
 cases r <;> rfl
theorem zjb {xs:List V} {its:List Value} (r:Vals xs its):(!its.toArray.isEmpty) = !xs.isEmpty:=by
 cases r <;> simp
theorem zko:(sizeLine:Nat)<2 ^ 63:=by rw [sizeLine_eq]; decide
theorem zwg:TruR X (fun x H Q=>∃ k,TruV X.K x H k/\Q k H):=by
 intro pins s σ H x v Q I rx h
 obtain ⟨k,e,q⟩:=h
 have hl:=zko
 have hs:sizeLine = 16777216:=sizeLine_eq
 cases x with
 | non =>
  cases rx
  have e':k=false:=e
  subst e'
  exact truthy_none ⟨H,I,q⟩
 | bl b =>
  cases rx
  have e':k=b:=e
  subst e'
  exact wpAny_truthy_bool ⟨H,I,q⟩
 | int i =>
  obtain ⟨t,rfl⟩:=rx
  have e':k=(i != 0):=e
  subst e'
  exact PySem.P.truthy_int ⟨H,I,q⟩
 | str y =>
  obtain ⟨t,rfl⟩:=rx
  obtain ⟨hy,e'⟩:y.length<=sizeLine/\k=((y.length:Int) != 0):=e
  subst e'
  exact PySem.P.truthy_str (by omega) ⟨H,I.tok _,q⟩
 | byt y =>
  obtain ⟨t,rfl⟩:=rx
  obtain ⟨hy,e'⟩:y.size<=sizeLine/\k=((y.size:Int) != 0):=e
  subst e'
  exact PySem.W.truthy_bytes (by omega) ⟨H,I.tok _,q⟩
 | ref p =>
  cases rx
  have e':(∃ xs,SqL X.K H p xs/\k = !xs.isEmpty)\/(∃ xs,SqT X.K H p xs/\k = !xs.isEmpty)\/∃ kvs,H p=some (.dK kvs)/\k = !kvs.isEmpty:=e
  rcases e' with ⟨xs,hx,e'⟩ | ⟨xs,hx,e'⟩ | ⟨kvs,hx,e'⟩
  ·subst e'
   obtain ⟨its,r,pl,hz⟩:=I.list hx
   have hlen:=r.length
   exact wpAny_truthy_list pl.isList (by simp only [List.size_toArray]; omega) ⟨H,I.tok _,by rw [zjb r]; exact q⟩
  ·subst e'
   obtain ⟨its,r,pl,hz⟩:=I.tuple hx
   have hlen:=r.length
   exact truthy_tuple pl (by simp only [List.size_toArray]; omega) ⟨H,I.tok _,by rw [zjb r]; exact q⟩
  ·subst e'
   obtain ⟨hz,hS,vs,r,m⟩:kvs.length<=sizeLine/\(p == sysModules)=false/\∃ vs,KV kvs vs/\s.heap.DictOf (zca X.prog X.w) p vs:=I.hok p _ hx
   have hlen:kvs.length=vs.length:=Paired.length r
   exact wpAny_truthy_dict hS m (by omega) ⟨H,I.tok _,by rw [znz r]; exact q⟩
 | _=>exact (show False from e).elim
theorem zrj (ha:PE X a ta) (he:∀ whole,isTrue a X.env whole=(do let v <- whole; standAt a.pos; holding [v] (truthy v))) :
    PT X a (fun σ H Q=>ta σ H fun x H'=>∃ k,TruV X.K x H' k/\Q k H'):=by
  intro pins s σ H Q I h
  exact isTrue_plain (thn (ha pins s σ H _ I h) fun v s1 ⟨x,H1,I1,r1,q1⟩=>zwg pins s1 σ H1 x v Q I1 r1 q1) (he _)
theorem zdv:OpR X (binaryOp .Add) (fun x y H Q=>∃ i j,x = .str i/\y = .str j/\i.length+j.length<=sizeLine/\Q (.str (i++j)) H):=by
 intro pins s σ H x y v u Q I rx ry h
 obtain ⟨i,j,rfl,rfl,hz,q⟩:=h
 obtain ⟨t,rfl⟩:=rx
 obtain ⟨t',rfl⟩:=ry
 exact add_str (fun t' tk=>⟨.str (i++j),H,I.tok _,⟨_,rfl⟩,q⟩) hz
theorem vals1 {x:V} {us:List Value} (r:Vals [x] us):∃ u,us = [u]/\RelV x u:=by
 cases r with
 | cons r1 r2=>cases r2; exact ⟨_,rfl,r1⟩
theorem vals2 {x y:V} {us:List Value} (r:Vals [x,y] us):∃ u w',us = [u,w']/\RelV x u/\RelV y w':=by
 cases r with
 | cons r1 r2 =>
  cases r2 with
  | cons r3 r4=>cases r4; exact ⟨_,_,rfl,r1,r3⟩
theorem zjy:CallR X (.builtin "abs") (fun xs H Q=>∃ i,xs = [.int i]/\Q (.int (if i<0 then -i else i)) H):=by
 intro pins s σ H xs us Q I r h
 obtain ⟨i,rfl,q⟩:=h
 obtain ⟨u,rfl,t,rfl⟩:=vals1 r
 exact call_abs_int fun u tk=>⟨.int (if i<0 then -i else i),H,I.tok _,⟨_,rfl⟩,q⟩
theorem zpd (hc:X.calm=true):CallR X (.builtin "max") (fun xs H Q=>∃ i j,xs = [.int i,.int j]/\Q (.int (if j > i then j else i)) H):=by
 intro pins s σ H xs us Q I r h
 obtain ⟨i,j,rfl,q⟩:=h
 obtain ⟨u,w',rfl,⟨t,rfl⟩,⟨t',rfl⟩⟩:=vals2 r
 refine max_two_ints (I.ok.hd hc) fun h' tk k=>⟨_,H,I.kept k,?_,q⟩
 by_cases hj:j > i
 ·rw [if_pos hj,if_pos hj]; exact ⟨_,rfl⟩
 ·rw [if_neg hj,if_neg hj]; exact ⟨_,rfl⟩
end
end L2
namespace L2
open PySem PySem.Spec PyProof.Rows
structure ObjM (h:Heap) (x dx C:Addr) (mA:Str->Option Value):Prop where
 obj:h.get? x=some (PySem.W.instObj C dx)
 ns:h.Ns1 dx mA
 ne:dx≠x
theorem zpe {h:Heap} {dx:Addr} {mA:Str->Option Value} (n:h.Ns1 dx mA):∃ od,h.get? dx=some od/\∀ name,PySem.W.lookIn name od=some (mA name):=by
 obtain ⟨o,es,ep,ho,hd,hk,_,hm⟩:=n
 refine ⟨o,ho,fun name=>?_⟩
 have e:=hm name
 unfold nsFind findBy at e
 rw [<- Array.find?_toList] at e
 unfold PySem.W.lookIn
 rw [hd]
 dsimp only
 split
 ·rename_i y q
  rw [q] at e
  exact congrArg some e
 ·rename_i q
  rw [q] at e
  have a:es.toList.any (·.refKey)=false:=by
   rw [List.any_eq_false]
   intro y hy
   obtain ⟨z,t,hkey⟩:=hk y (Array.mem_toList_iff.mp hy)
   simp [DictEntry.refKey,hkey]
  have a':¬ es.toList.any (·.refKey)=true:=by rw [a]; exact Bool.false_ne_true
  rw [if_neg a']
  exact congrArg some e
theorem ObjM.look {h:Heap} {x dx C:Addr} {mA:Str->Option Value} (I:ObjM h x dx C mA):∃ od,PySem.W.InstAt h x (PySem.W.instObj C dx) C (some od)/\∀ name,PySem.W.lookIn name od=some (mA name) :=
 let ⟨od,ho,hl⟩:=zpe I.ns
 ⟨od,⟨I.obj,rfl,rfl,ho⟩,hl⟩
section
variable {prog:Program} {w:World} {A:Around} {E:Value->Shared->Prop} {s:Shared} {K:PySem.W.Frag} {x dx C f:Addr} {mA:Str->Option Value} {name:Str} {v:Value}
theorem zts {expr:Bool} {Q:Value->Shared->Prop} (X:K.In s.heap) (I:ObjM s.heap x dx C mA) (hg:PySem.W.plainGet K C name=true) (hh:PySem.W.hasDictIn K C=true)
    (ha:PySem.W.findIn K (.ref C) name=some none) (hv:mA name=some v) (hv':PySem.W.handedIn v=true) (h:Q v { s with toks:=s.toks+1 }) :
    wpAny (model prog w) A (getAttr (.ref x) name expr) Q E s:=by
  obtain ⟨od,J,hl⟩:=I.look
  exact PySem.W.get_value X J (PySem.W.plainGet_of hg).1 (PySem.W.findObj_own hh ha rfl (by rw [hl,hv])) hv' h
theorem zrk {pl:Sem Bool} {Q:Value×List Value->Shared->Prop} (X:K.In s.heap) (I:ObjM s.heap x dx C mA) (hg:PySem.W.plainGet K C name=true)
    (hf:PySem.W.findIn K (.ref C) name=some (some (.ref f))) (ht:PySem.W.isFn K (.ref f)=true) (hv:mA name=none) (h:Q (.ref f,[.ref x]) s) :
    wpAny (model prog w) A (getMethod (.ref x) name pl) Q E s:=by
  obtain ⟨od,J,hl⟩:=I.look
  exact PySem.W.method_fn X J (PySem.W.plainGet_of hg).1 (PySem.W.plainGet_of hg).2 hf (beq_iff_eq.mp ht) (by show (PySem.W.lookIn name od).map (·.isSome)=some false; rw [hl,hv]; rfl) h
theorem ztt {ns:List Str} {Q:Unit->Shared->Prop} (X:K.In s.heap) (I:ObjM s.heap x dx C mA)
    (hs:PySem.W.findIn K (.ref C) "__setattr__" = some (some (.builtin "object.__setattr__"))) (hp:PySem.W.plainOver K C=true) (ht:PySem.W.takerIn K C name=some none) (hh:PySem.W.hasDictIn K C=true)
    (hw:PySem.Within mA ns) (hsz:ns.length<=sizeLine)
    (h:∀ h',ObjM h' x dx C (fun y=>if y=name then some v else mA y)->Heap.SameBut dx s.heap h'->Q () { s with heap:=h',toks:=s.toks+2 }) :
    wpAny (model prog w) A (setAttr (.ref x) name v) Q E s:=by
  obtain ⟨od,J,hl⟩:=I.look
  refine PySem.W.set_plain X J hs (PySem.W.osa_open (s:={ s with toks:=s.toks+1 }) (r:=none) X J hp ht fun b=>?_)
  obtain ⟨cd,hc,hd'⟩:=PySem.W.any_some hh
  have hx:s.heap.get? x=some ⟨.ref C,some dx,.plain,#[]⟩:=I.obj
  refine wpAny_bind (wpAny_pure (wpAny_bind (wpAny_bind (wpAny_loadPart hx (wpAny_bind (PySem.W.Looks.here (s:={ s with toks:=s.toks+1 }) (PySem.W.looks_clsIn X hc) ?_))))))
  rw [hd']
  refine wpAny_pure (a:=some dx) (wpAny_bind (wpAny_pure (wpAny_bind ?_)))
  refine wpAny_nsSet1 (s:={ s with toks:=s.toks+1 }) I.ns fun h' hn2 hs2=>?_
  obtain ⟨oD,esD,epD,hoD,hdD,hcD⟩:=hn2.count (PySem.Within.cons name v hw)
  refine wpAny_bind (wpAny_lookBehind hoD (by rw [hdD]; exact pastItsLine_dict (Nat.le_trans hcD (by rw [List.length_cons]; omega))) ?_)
  exact wpAny_pure (h _ ⟨(hs2.2 _ (Ne.symm I.ne)).trans I.obj,hn2,I.ne⟩ hs2)
theorem zrl {R:Result->Shared->Prop} {vs:List Value} {kw:List (Str×Value)} (X:K.In s.heap) (hm:PySem.W.makesIn K C=true)
    (hi:PySem.W.findIn K (.ref C) "__init__" = some (some (.ref f))) (hf:PySem.W.typeIn K (.ref f)=some (.type "function"))
    (h:codeAny (model prog w) (A.under (.builtin "type.__call__" ⟨.ref C :: vs,kw⟩)) (.call (.ref f) ⟨.ref (s.heap.objs.size+1) :: vs,kw⟩) (PySem.W.InitBack (s.heap.objs.size+1) R)
      { s with heap:=(s.heap.push PySem.W.emptyDict).push (PySem.W.instObj C s.heap.objs.size) }) :
    codeAny (model prog w) A (.call (.ref C) ⟨vs,kw⟩) R s:=by
  obtain ⟨hh,g,d,t,os⟩:=s
  exact PySem.W.make_core (PySem.W.makes_of X hm) (PySem.W.looks_findIn X hi) (fun self=>PySem.W.bind_fn X self hf) (.inl rfl) h
end
def putF (f:Str) (v:V):List (Str×V)->List (Str×V)
 | []=>[(f,v)]
 | (g,x) :: r=>if g=f then (g,v) :: r else (g,x) :: putF f v r
theorem zak (f g:Str) (v:V):∀ fs:List (Str×V),(putF f v fs).lookup g=if g=f then some v else fs.lookup g
 | []=>by
  show List.lookup g [(f,v)] = _
  by_cases h:g=f
  ·have hb:(g == f)=true:=beq_iff_eq.mpr h
   simp only [List.lookup,hb,if_pos h]
  ·have hb:(g == f)=false:=beq_eq_false_iff_ne.mpr h
   simp only [List.lookup,hb,if_neg h]
 | (k,x) :: r=>by
  have ih:=zak f g v r
  rw [show putF f v ((k,x) :: r)=(if k=f then (k,v) :: r else (k,x) :: putF f v r) from rfl]
  by_cases hk:k=f
  ·rw [if_pos hk]
   by_cases h:g=k
   ·have hb:(g == k)=true:=beq_iff_eq.mpr h
    simp only [List.lookup,hb,if_pos (h.trans hk)]
   ·have hb:(g == k)=false:=beq_eq_false_iff_ne.mpr h
    simp only [List.lookup,hb,if_neg (fun e:g=f=>h (e.trans hk.symm))]
  ·rw [if_neg hk]
   by_cases h:g=k
   ·have hb:(g == k)=true:=beq_iff_eq.mpr h
    simp only [List.lookup,hb,if_neg (fun e:g=f=>hk (h.symm.trans e))]
   ·have hb:(g == k)=false:=beq_eq_false_iff_ne.mpr h
    simp only [List.lookup,hb]
    exact ih
theorem zhx (f:Str) (v:V):∀ fs:List (Str×V),f∈(putF f v fs).map (·.1)/\∀ g,g∈fs.map (·.1)->g∈(putF f v fs).map (·.1)
 | []=>⟨by simp [putF],fun g h=>by simp at h⟩
 | (k,x) :: r=>by
  obtain ⟨i1,i2⟩:=zhx f v r
  rw [show putF f v ((k,x) :: r)=(if k=f then (k,v) :: r else (k,x) :: putF f v r) from rfl]
  by_cases hk:k=f
  ·rw [if_pos hk]
   subst hk
   exact ⟨by simp,fun g h=>by simpa using h⟩
  ·rw [if_neg hk]
   refine ⟨?_,fun g h=>?_⟩
   ·rw [List.map_cons]
    exact List.mem_cons_of_mem _ i1
   ·rw [List.map_cons] at h ⊢
    rcases List.mem_cons.mp h with e | e
    ·exact List.mem_cons.mpr (.inl e)
    ·exact List.mem_cons_of_mem _ (i2 g e)
theorem zhy (f:Str) (v:V):∀ fs:List (Str×V),(putF f v fs).length<=fs.length+1
 | []=>by simp [putF]
 | (k,x) :: r=>by
  have ih:=zhy f v r
  rw [show putF f v ((k,x) :: r)=(if k=f then (k,v) :: r else (k,x) :: putF f v r) from rfl]
  by_cases hk:k=f
  ·rw [if_pos hk,List.length_cons,List.length_cons]; omega
  ·rw [if_neg hk,List.length_cons,List.length_cons]; omega
theorem RelO.some_of {v:V} {o:Option Value} (r:RelO (some v) o):∃ u,o=some u/\RelV v u:=by
 cases o with
 | none=>exact (show False from r).elim
 | some u=>exact ⟨u,rfl,r⟩
theorem RelO.none_of {o:Option Value} (r:RelO none o):o=none:=by
 cases o with
 | none=>rfl
 | some u=>exact (show False from r).elim
theorem zpf {v:V} {u:Value} (r:RelV v u):PySem.W.handedIn u=true:=by
 cases v with
 | non=>cases (show u=Value.none from r); rfl
 | bl b=>cases (show u=Value.bool b from r); rfl
 | int i=>obtain ⟨t,e⟩:=(show ∃ t,u=Value.int i t from r); cases e; rfl
 | str x=>obtain ⟨t,e⟩:=(show ∃ t,u=Value.str x t from r); cases e; rfl
 | byt b=>obtain ⟨t,e⟩:=(show ∃ t,u=Value.bytes b t from r); cases e; rfl
 | flt b=>obtain ⟨t,e⟩:=(show ∃ t,u=Value.float b t from r); cases e; rfl
 | ref a=>cases (show u=Value.ref a from r); rfl
 | ty n=>cases (show u=Value.type n from r); rfl
section
variable {P:Program} {w:World} {H H':Hp} {h h':Heap} {a C dx:Addr} {fs fs':List (Str×V)}
theorem zjz (hok:HOk P w H h) (e:H a=some (.ins C dx fs)):∃ mA,ObjM h a dx C mA/\(∀ f,RelO (fs.lookup f) (mA f))/\PySem.Within mA (fs.map (·.1))/\fs.length<=1000/\H dx=some (.own a):=by
 obtain ⟨d,z,ne,ob,mA,n,r,q⟩:=(show ObjOk P w H h a (.ins C dx fs) from hok a _ e)
 exact ⟨mA,⟨ob,n,ne⟩,r,q,z,d⟩
end
structure Cls (K:PySem.W.Frag) (C:Addr):Prop where
 pg:PySem.W.plainGet K C Str.empty=true
 hd:PySem.W.hasDictIn K C=true
 po:PySem.W.plainOver K C=true
 sa:PySem.W.findIn K (.ref C) "__setattr__" = some (some (.builtin "object.__setattr__"))
theorem Cls.get {K:PySem.W.Frag} {C:Addr} (c:Cls K C) (f:Str):PySem.W.plainGet K C f=true:=c.pg
def NoAttr (K:PySem.W.Frag) (C:Addr) (f:Str):Prop:=PySem.W.findIn K (.ref C) f=some none
theorem NoAttr.taker {K:PySem.W.Frag} {C:Addr} {f:Str} (n:NoAttr K C f):PySem.W.takerIn K C f=some none:=by
 unfold PySem.W.takerIn
 rw [show PySem.W.findIn K (.ref C) f=some none from n]
 rfl
structure Meth (K:PySem.W.Frag) (C:Addr) (m:Str) (f:Addr):Prop where
 at_:PySem.W.findIn K (.ref C) m=some (some (.ref f))
 fn:PySem.W.isFn K (.ref f)=true
 kp:PySem.W.keepIn K (.ref f)=true
section
variable {X:Cx} {pins:List (Addr×Obj)} {σ:St} {H:Hp} {s:Shared} {a C dx:Addr} {fs:List (Str×V)} {f:Str} {v:V} {A:Around} {E:Value->Shared->Prop}
theorem zoa {b:Bool} {Q:Value->Shared->Prop} (I:Inv X pins σ H s) (e:H a=some (.ins C dx fs)) (c:Cls X.K C) (n:NoAttr X.K C f) (l:fs.lookup f=some v)
    (h:∀ u s',Inv X pins σ H s'->RelV v u->Q u s'):wpAny (model X.prog X.w) A (getAttr (.ref a) f b) Q E s:=by
  obtain ⟨mA,O,r,_,_,_⟩:=zjz I.hok e
  obtain ⟨u,hu,ru⟩:=RelO.some_of (v:=v) (o:=mA f) (by rw [<- l]; exact r f)
  exact zts I.kIn O (c.get f) c.hd n hu (zpf ru) (h u _ (I.tok _) ru)
theorem zjc {m:Str} {g:Addr} {pl:Sem Bool} {Q:Value×List Value->Shared->Prop} (I:Inv X pins σ H s) (e:H a=some (.ins C dx fs)) (c:Cls X.K C) (k:Meth X.K C m g) (l:fs.lookup m=none)
    (h:Q (.ref g,[.ref a]) s):wpAny (model X.prog X.w) A (getMethod (.ref a) m pl) Q E s:=by
  obtain ⟨mA,O,r,_,_,_⟩:=zjz I.hok e
  have hn:mA m=none:=RelO.none_of (by rw [<- l]; exact r m)
  exact zrk I.kIn O (c.get m) k.at_ k.fn hn h
theorem zob {y:V} {u:Value} {Q:Unit->Shared->Prop} (I:Inv X pins σ H s) (e:H a=some (.ins C dx fs)) (c:Cls X.K C) (n:NoAttr X.K C f) (hl:fs.length<1000) (ry:RelV y u)
    (h:∀ s',Inv X pins σ (upd H a (.ins C dx (putF f y fs))) s'->Q () s'):wpAny (model X.prog X.w) A (setAttr (.ref a) f u) Q E s:=by
  obtain ⟨mA,O,r,wi,_,ho⟩:=zjz I.hok e
  have hz:(fs.map (·.1)).length<=sizeLine:=by rw [List.length_map,sizeLine_eq]; omega
  refine ztt I.kIn O c.sa c.po n.taker c.hd wi hz fun h' O' sb=>h _ ?_
  have hd:∃ o,h'.get? dx=some o:=let ⟨o,_,_,e',_⟩:=O'.ns; ⟨o,e'⟩
  refine I.write (x:=a) (e:=dx) (by rw [e]; exact True.intro) (.inr ho) (fun b q hb z=>(sb.2 b hb).trans z) hd ?_
  refine ⟨by rw [zai O.ne]; exact ho,?_,O.ne,O'.obj,_,O'.ns,fun g=>?_,fun g hg=>?_⟩
  · have:=zhy f y fs; omega
  · show RelO ((putF f y fs).lookup g) (if g=f then some u else mA g)
    rw [zak]
    by_cases q:g=f
    · rw [if_pos q,if_pos q]; exact ry
    · rw [if_neg q,if_neg q]; exact r g
  · by_cases q:g=f
    · rw [q]; exact (zhx f y fs).1
    · refine (zhx f y fs).2 g (wi g fun z=>hg ?_)
      show (if g=f then some u else mA g)=none
      rw [if_neg q]; exact z
theorem Inv.made (I:Inv X pins σ H s):Inv X pins σ (upd (upd H s.heap.objs.size (.own (s.heap.objs.size+1))) (s.heap.objs.size+1) (.ins C s.heap.objs.size []))
    { s with heap:=(s.heap.push PySem.W.emptyDict).push (PySem.W.instObj C s.heap.objs.size) }:=by
  have e1:(s.heap.push PySem.W.emptyDict).get? s.heap.objs.size=some PySem.W.emptyDict:=Heap.get?_push_size s.heap rfl
  have e2:((s.heap.push PySem.W.emptyDict).push (PySem.W.instObj C s.heap.objs.size)).get? (s.heap.objs.size+1)=some (PySem.W.instObj C s.heap.objs.size):=by
    have:=Heap.get?_push_size (s.heap.push PySem.W.emptyDict) (o:=PySem.W.instObj C s.heap.objs.size) rfl
    rwa [Heap.size_push] at this
  have e3:(s.heap.push PySem.W.emptyDict).Ns s.heap.objs.size (fun _=>none):=⟨PySem.W.emptyDict,#[],_,e1,rfl,(fun e he=>absurd he (by simp)),fun _=>rfl⟩
  have I1:=I.laid (a:=s.heap.objs.size) (o:=.own (s.heap.objs.size+1)) (h':=s.heap.push PySem.W.emptyDict) (t':=s.toks) (fun b u q=>Heap.get?_push_of_some _ q) (Nat.le_refl _) ⟨_,e1⟩
  refine I1.laid (a:=s.heap.objs.size+1) (o:=.ins C s.heap.objs.size []) (t':=s.toks) (fun b u q=>Heap.get?_push_of_some _ q) (Nat.le_of_eq (Heap.size_push _ _)) ?_
  have ne:s.heap.objs.size≠s.heap.objs.size+1:=Nat.ne_of_lt (Nat.lt_succ_self _)
  refine ⟨by rw [zai ne,zab],Nat.zero_le _,ne,e2,fun _=>none,(Heap.Ns1.of_empty e3).at fun o q=>Heap.get?_push_of_some _ q,fun _=>True.intro,fun y hy=>absurd rfl hy⟩
theorem ztu {prog:Program} {w:World} {env:Env} {e:Expr} {f:Str} {pos:Pos} {s:Shared} {Q:Value->Shared->Prop} (hb:attributeBase e f env (eval e env)=eval e env)
    (h:wpAny (model prog w) A (eval e env) (fun o s₁=>wpAny (model prog w) A (getAttr o f true) Q E s₁) E s):wpAny (model prog w) A (eval (.Attribute e f pos) env) Q E s :=
  Attribute_any_ h (by rw [arm_eval_Attribute,hb])
end
def tFld (K:PySem.W.Frag) (ta:TE) (f:Str):TE:=fun σ H Q=>ta σ H fun x H1=>∃ a C dx fs v,x = .ref a/\H1 a=some (.ins C dx fs)/\Cls K C/\NoAttr K C f/\fs.lookup f=some v/\Q v H1
def sFld (K:PySem.W.Frag) (ta tv:TE) (f:Str):TS:=fun D σ H=>tv σ H fun y H1=>ta σ H1 fun x H2=>∃ a C dx fs,x = .ref a/\H2 a=some (.ins C dx fs)/\Cls K C/\NoAttr K C f/\fs.length<1000 /\
 D.nx σ (upd H2 a (.ins C dx (putF f y fs)))
section
variable {X:Cx} {o e value:Expr} {f:Str} {pos pos' tpos:Pos} {ta tv:TE}
theorem zda (he:PE X e ta) (hb:attributeBase e f X.env (eval e X.env)=eval e X.env):PE X (.Attribute e f pos) (tFld X.K ta f):=by
 intro pins s σ H Q I h
 refine ztu hb (thn (he pins s σ H _ I h) fun u s1 ⟨x,H1,I1,rx,a,C,dx,fs,v,ex,ea,c,n,l,q⟩=>?_)
 subst ex
 obtain rfl:u=Value.ref a:=rx
 exact zoa I1 ea c n l fun u' s2 I2 ru=>⟨v,H1,I2,ru,q⟩
theorem zfa (ha:PE X o ta) (hv:PE X value tv) (hs:swapsWith value (some (.Attribute o f pos')) pos.line X.env=pure false):PS X (.Assign [.Attribute o f pos'] value pos) (sFld X.K ta tv f):=by
 intro pins s σ H D I h
 refine plainObj_wpAny_Assign_Attribute (thn (hv pins s σ H _ I h) fun u s1 ⟨y,H1,I1,ry,q⟩=>thn (ha pins s1 σ H1 _ I1 q) fun ov s2 ⟨x,H2,I2,rx,a,C,dx,fs,ex,ea,c,n,l,q2⟩=>?_) hs
 subst ex
 obtain rfl:ov=Value.ref a:=rx
 exact zob I2 ea c n l ry fun s3 I3=>⟨σ,_,I3,q2⟩
end
section
variable {X:Cx} {pins:List (Addr×Obj)} {σ:St} {H:Hp} {s:Shared} {A:Around} {E:Value->Shared->Prop} {Q:Value->Shared->Prop} {c:Value} {b:Bool}
inductive TyOf (K:PySem.W.Frag) (H:Hp):V->Value->Prop where
  | non:TyOf K H .non (.type "NoneType")
  | bl (x:Bool):TyOf K H (.bl x) (.type "bool")
  | int (i:Int):TyOf K H (.int i) (.type "int")
  | str (x:Str):TyOf K H (.str x) (.type "str")
  | flt (x:UInt64):TyOf K H (.flt x) (.type "float")
  | lst {a:Addr} {xs:List V} (e:H a=some (.lst xs)):TyOf K H (.ref a) (.type "list")
  | frz {a:Addr} {o:Obj} {xs:List V} (e:H a=some (.frz o (.lst xs))):TyOf K H (.ref a) (.type "list")
  | tup {a:Addr} {xs:List V} (e:H a=some (.tup xs)):TyOf K H (.ref a) (.type "tuple")
  | dK {a:Addr} {kvs:List (Key×V)} (e:H a=some (.dK kvs)):TyOf K H (.ref a) (.type "dict")
  | dT {a:Addr} {kvs:List (List Key×V)} (e:H a=some (.dT kvs)):TyOf K H (.ref a) (.type "dict")
  | ins {a C dx:Addr} {fs:List (Str×V)} (e:H a=some (.ins C dx fs)) (cl:Cls K C) (ha:PySem.W.findIn K (.ref C) "__class__" = some (some (.builtin "object.__class__")))
      (hn:PySem.W.specialIn K (.builtin "object.__class__") "__get__" = some (some (.builtin "getset_descriptor.__get__"))) (htk:PySem.W.takesIn K (.builtin "object.__class__")=some true)
      (hm:PySem.W.mroIn K C (.type "object")=some true):TyOf K H (.ref a) (.ref C)
theorem zpg {x:V} {u t:Value} (I:Inv X pins σ H s) (rx:RelV x u) (ty:TyOf X.K H x t) (e:PySem.W.kitOne X.K t c=some b) (h:∀ tk,Q (.bool b) { s with toks:=tk }) :
    wpAny (model X.prog X.w) A (call (.builtin "isinstance") [u,c]) Q E s:=by
  cases ty with
  | non=>cases (show u=Value.none from rx); exact PySem.W.kia_one PySem.W.kitx_none I.kIn True.intro e (fun z=>nomatch z) h
  | bl y=>cases (show u=Value.bool y from rx); exact PySem.W.kia_one PySem.W.kitx_bool I.kIn True.intro e (fun z=>nomatch z) h
  | int i=>obtain ⟨t,q⟩:=(show ∃ t,u=Value.int i t from rx); cases q; exact PySem.W.kia_one PySem.W.kitx_int I.kIn True.intro e (fun z=>nomatch z) h
  | str y=>obtain ⟨t,q⟩:=(show ∃ t,u=Value.str y t from rx); cases q; exact PySem.W.kia_one PySem.W.kitx_str I.kIn True.intro e (fun z=>nomatch z) h
  | flt y=>obtain ⟨t,q⟩:=(show ∃ t,u=Value.float y t from rx); cases q; exact PySem.W.kia_one PySem.W.kitx_float I.kIn True.intro e (fun z=>nomatch z) h
  | @lst a xs ea =>
    cases (show u=Value.ref a from rx)
    obtain ⟨_,_,n,_,h1⟩:=(show ObjOk X.prog X.w H s.heap a (.lst xs) from I.hok a _ ea)
    exact PySem.W.kia_one PySem.W.kitx_list I.kIn ⟨_,h1,rfl⟩ e (fun z=>nomatch z) h
  | @frz a ob xs ea =>
    cases (show u=Value.ref a from rx)
    obtain ⟨_,_,_,n,_,h1⟩:=(show ObjOk X.prog X.w H s.heap a (.frz ob (.lst xs)) from I.hok a _ ea)
    exact PySem.W.kia_one PySem.W.kitx_list I.kIn ⟨_,h1,rfl⟩ e (fun z=>nomatch z) h
  | @tup a xs ea =>
    cases (show u=Value.ref a from rx)
    obtain ⟨_,_,_,p⟩:=(show ObjOk X.prog X.w H s.heap a (.tup xs) from I.hok a _ ea)
    obtain ⟨o,h1,h2,_⟩:=p
    exact PySem.W.kia_one PySem.W.kitx_tuple I.kIn ⟨o,h1,h2⟩ e (fun z=>nomatch z) h
  | @dK a kvs ea =>
    cases (show u=Value.ref a from rx)
    obtain ⟨_,_,vs,_,p⟩:=(show ObjOk X.prog X.w H s.heap a (.dK kvs) from I.hok a _ ea)
    obtain ⟨o,es,ep,h1,h2,_⟩:=p
    exact PySem.W.kia_one PySem.W.kitx_dict I.kIn ⟨o,h1,h2.1⟩ e (fun z=>nomatch z) h
  | @dT a kvs ea =>
    cases (show u=Value.ref a from rx)
    obtain ⟨_,_,xs,_,o,es,ep,h1,h2,_⟩:=(show ObjOk X.prog X.w H s.heap a (.dT kvs) from I.hok a _ ea)
    exact PySem.W.kia_one PySem.W.kitx_dict I.kIn ⟨o,h1,h2.1⟩ e (fun z=>nomatch z) h
  | @ins a C dx fs ea cl ha hn htk hm =>
    cases (show u=Value.ref a from rx)
    obtain ⟨mA,O,_⟩:=zjz I.hok ea
    obtain ⟨od,J,_⟩:=O.look
    exact PySem.W.kia_one (PySem.W.kitx_own (cl.get _) cl.hd ha hn htk hm) I.kIn J e (fun z=>nomatch z) h
end
end L2
namespace L2
open PySem PySem.Spec PyProof.Rows
structure Room (k:Nat) (A:Around):Prop where
 hd:A.handled=none
 dp:A.depth+3*k+5<recursionLimit
 un:A.units+16*k+200<cLine
theorem Room.mono {j k:Nat} {A:Around} (r:Room k A) (h:j<=k):Room j A:=⟨r.hd,by have:=r.dp; omega,by have:=r.un; omega⟩
theorem Room.deeper {k:Nat} {A:Around} (r:Room (k+1) A) (env:Env):Room k (A.deeper env) :=
 ⟨r.hd,by have:=r.dp; show A.depth+1+3*k+5 < _; omega,by have:=r.un; show A.units+3+16*k+200 < _; omega⟩
theorem zoc {A:Around} {C:Addr} {us:List Value} {kw:List (Str×Value)}:(A.under (.builtin "type.__call__" ⟨.ref C :: us,kw⟩)).depth=A.depth+1:=by
 first | rfl | simp [Around.under,Code.weight,Code.isCreation,Code.isGuard,Code.isCaller,Code.frames,Code.isFrame,guardIds]
theorem zod {A:Around} {C:Addr} {us:List Value} {kw:List (Str×Value)}:(A.under (.builtin "type.__call__" ⟨.ref C :: us,kw⟩)).units=A.units+1:=by
 first | rfl | simp [Around.under,Code.cUnits,Code.frames,Code.isFrame]
theorem Room.make {k:Nat} {A:Around} (r:Room (k+1) A) (C:Addr) (us:List Value) (kw:List (Str×Value)):Room k (A.under (.builtin "type.__call__" ⟨.ref C :: us,kw⟩)) :=
 ⟨r.hd,by have:=r.dp; rw [zoc]; omega,by have:=r.un; rw [zod]; omega⟩
theorem Room.depth {k:Nat} {A:Around} (r:Room k A):A.depth<recursionLimit:=by have:=r.dp; omega
theorem Room.units {k:Nat} {A:Around} (r:Room k A):A.units+64<cLine:=by have:=r.un; omega
def tNil:TA:=fun _ H Q=>Q [] H
def tCons (ta:TE) (tr:TA):TA:=fun σ H Q=>ta σ H fun x H1=>tr σ H1 fun xs H2=>Q (x :: xs) H2
section
variable {X:Cx} {e:Expr} {es:List Expr} {te:TE} {t:TA} {pos:Pos}
theorem zae:PA X [] tNil:=fun _ _ _ _ H Q I h=>Calls.spliced_nil ⟨[],H,I,.nil,h⟩
theorem zaa (ha:PE X e te) (hr:PA X es t) (hs:starEach (e :: es) X.env=(false,eval e X.env) :: starEach es X.env:=by rfl):PA X (e :: es) (tCons te t):=by
 intro pos pins s σ H Q I h
 rw [hs]
 show wpAny _ _ (spliced ((false,eval e X.env) :: backTo pos (starEach es X.env))) _ _ s
 refine Calls.spliced_cons (thn (ha pins s σ H _ I h) fun u s1 ⟨x,H1,I1,r1,q1⟩=>?_)
 exact thn (hr pos pins s1 σ H1 _ I1 q1) fun us s2 ⟨xs,H2,I2,r2,q2⟩=>⟨x :: xs,H2,I2,.cons r1 r2,q2⟩
def tTup (t:TA):TE:=fun σ H Q=>t σ H fun xs H1=>xs.length<=sizeLine/\∀ p,H1 p=none->Q (.ref p) (upd H1 p (.tup xs))
def tLst (t:TA):TE:=fun σ H Q=>t σ H fun xs H1=>xs.length<=sizeLine/\∀ p,H1 p=none->Q (.ref p) (upd H1 p (.lst xs))
theorem zcg {x1} (h:PA X es t):PE X (.Tuple es x1 pos) (tTup t):=by
 intro pins s σ H Q I hq
 refine wpAny_Tuple_spliced (thn (h pos pins s σ H _ I hq) fun us s1 ⟨xs,H1,I1,r,z,q⟩=>⟨by rw [<- r.length]; exact z,?_⟩)
 have hf:H1 s1.heap.objs.size=none:=I1.hok.fresh (Nat.le_refl _)
 refine ⟨.ref s1.heap.objs.size,upd H1 s1.heap.objs.size (.tup xs),I1.laid (t':=s1.toks) (fun b u e=>Heap.get?_push_of_some _ e) (Nat.le_refl _) ?_,rfl,q _ hf⟩
 exact ⟨z,us,r,⟨_,Heap.get?_push_size _ rfl,rfl,_,rfl⟩⟩
theorem zbw (h:PA X es t):PE X (.List es pos) (tLst t):=by
 intro pins s σ H Q I hq
 refine wpAny_List_spliced (thn (h pos pins s σ H _ I hq) fun us s1 ⟨xs,H1,I1,r,z,q⟩=>⟨by rw [<- r.length]; exact z,?_⟩)
 have hf:H1 s1.heap.objs.size=none:=I1.hok.fresh (Nat.le_refl _)
 refine ⟨.ref s1.heap.objs.size,upd H1 s1.heap.objs.size (.lst xs),I1.laid (t':=s1.toks) (fun b u e=>Heap.get?_push_of_some _ e) (Nat.le_refl _) ?_,rfl,q _ hf⟩
 exact ⟨z,us,0,r,Heap.get?_push_size _ rfl⟩
end
abbrev Sp:=List V->Hp->VK->XK->Prop
abbrev CXT:=List Env->Hp->Shared->XK->Value->Shared->Prop
structure Env0 (P:Program) (w:World) (K:PySem.W.Frag) (mg:Str->Option Value) (base:Heap) (A:Around) (outer:List Env) (s:Shared) (H:Hp):Prop where
 frames:A.frames=some outer
 mod:Mod K mg base
 bs:∀ b o,base.get? b=some o->s.heap.get? b=some o/\H b=none
 bsz:base.objs.size<=s.heap.objs.size
 funs:s.heap.FunFrames base outer
 frf:∀ b∈frs outer,H b=none
 hok:HOk P w H s.heap
 bare:AllBare s.gens
def CE (outer:List Env) (P:Program) (w:World) (H:Hp) (s:Shared) (Q:VK) (u:Value) (s':Shared):Prop :=
 ∃ v H',s'.os=s.os/\AllBare s'.gens/\Un (frs outer) [] H H' s.heap s'.heap/\HOk P w H' s'.heap/\RelV v u/\Q v H'
def CR (CX:CXT) (outer:List Env) (P:Program) (w:World) (H:Hp) (s:Shared) (Q:VK) (E:XK) (r:Result) (s':Shared):Prop :=
 match r with
 | .ok (.ret u)=>CE outer P w H s Q u s'
 | .ok _=>False
 | .error e=>CX outer H s E e s'
structure FnOk (P:Program) (w:World) (K:PySem.W.Frag) (mg:Str->Option Value) (base:Heap) (CX:CXT) (k:Nat) (f:Addr) (fd:FuncData) (ps:List Str) (sp:Sp):Prop where
 len:∀ vs H Q E,sp vs H Q E->vs.length=ps.length
 run:∀ (A:Around) (outer:List Env) (s:Shared) (H:Hp) (args:Args) (us:List Value) (vs:List V) (Q:VK) (E:XK),Room k A->Env0 P w K mg base A outer s H->BindsTo s fd args (ps.zip us)->Vals vs us->sp vs H Q E ->
  codeAny (model P w) A (.call (.ref f) args) (CR CX outer P w H s Q E) s
theorem Env0.make {P:Program} {w:World} {K:PySem.W.Frag} {mg:Str->Option Value} {base:Heap} {A:Around} {outer:List Env} {s:Shared} {H:Hp} (e:Env0 P w K mg base A outer s H) (C:Addr) (us:List Value) (kw:List (Str×Value)) :
    Env0 P w K mg base (A.under (.builtin "type.__call__" ⟨.ref C :: us,kw⟩)) outer s H:=⟨by first | exact e.frames | (simpa [Around.under,Code.envs,Code.isFrame,pushEnvs] using e.frames),e.mod,e.bs,e.bsz,e.funs,e.frf,e.hok,e.bare⟩
section
variable {X:Cx} {pins:List (Addr×Obj)} {σ:St} {H:Hp} {s s':Shared}
theorem Inv.env0 (I:Inv X pins σ H s):Env0 X.prog X.w X.K X.mg X.base X.A X.stack s H :=
 ⟨I.ok.frames,I.ok.mod,I.bs,Nat.le_trans I.ok.bsz I.sz,I.stack,I.stkFree,I.hok,I.bare⟩
theorem Inv.after {Q:VK} {u:Value} (I:Inv X pins σ H s) (h:CE X.stack X.prog X.w H s Q u s'):EP X pins σ Q u s':=by
 obtain ⟨v,H',os,bare,un,hok,r,q⟩:=h
 obtain ⟨hh,g,d,t,os'⟩:=s'
 obtain rfl:os'=s.os:=os
 exact ⟨v,H',I.call (h':=hh) (g':=g) (d':=d) (t':=t) (ch:=[]) un hok bare (fun b z=>absurd z (by simp)),r,q⟩
end
def tCall (sp:Sp) (dvs:List V) (E:XK) (t:TA):TE:=fun σ H Q=>t σ H fun vs H1=>sp (vs++dvs) H1 Q E
def Binds (K:PySem.W.Frag) (fd:FuncData) (ps:List Str) (ds:List Value):Prop :=
 ∀ (s:Shared) (us:List Value),K.In s.heap->(us++ds).length=ps.length->BindsTo s fd ⟨us,[]⟩ (ps.zip (us++ds))
theorem Binds.all {K:PySem.W.Frag} {fd:FuncData} {ps:List Str} (h:∀ us:List Value,us.length=ps.length->bindArgs fd ⟨us,[]⟩ = pure (ps.zip us)):Binds K fd ps []:=fun s us _ hl=>by
 rw [List.append_nil] at hl ⊢
 exact .of_eq (h us hl)
section
variable {X:Cx} {CX:CXT} {k:Nat} {f C:Addr} {fd:FuncData} {ps:List Str} {sp:Sp} {dvs:List V} {ds:List Value} {E:XK} {x m:Str} {p pos apos:Pos} {e o:Expr} {es:List Expr} {ta:TE} {t:TA}
structure Mk (K:PySem.W.Frag) (C f:Addr):Prop where
 makes:PySem.W.makesIn K C=true
 init:PySem.W.findIn K (.ref C) "__init__" = some (some (.ref f))
 fn:PySem.W.isFn K (.ref f)=true
 kp:PySem.W.keepIn K (.ref C)=true
end
section
variable {X:Cx} {CX:CXT} {k:Nat} {f C:Addr} {fd:FuncData} {ps ks:List Str} {sp:Sp} {E:XK} {x m:Str} {p pos apos kpos:Pos} {e o:Expr} {es:List Expr} {kws:List Keyword} {te ta:TE} {t tk:TA} {nm:Option Str}
variable {g:List Value->List Value->List Value} {gV:List V->List V->List V}
end
structure FnScope (N P:List Str) (sc:Scope):Prop where
 kind:sc.kind = .function
 co:sc.isCoroutine=false
 gen:sc.isGenerator=false
 nd:N.Nodup
 pre:N.take P.length=P
 par:∀ x∈P,sc.names.lookup x=some .local\/sc.names.lookup x=some .cell
 nofree:∀ y∈sc.names,y.2≠.free
theorem zkp {kindOf:Str->Option NameKind} {x:Str}:∀ {binds:List (Str×Value)} {m:Str->Option Value},(∀ v,(x,v) ∉ binds)->bindL kindOf binds m x=m x
 | [],_,_=>rfl
 | (n,v) :: r,m,h=>by
  unfold bindL
  rw [zkp fun w hw=>h w (List.mem_cons_of_mem _ hw)]
  split
  ·have:x≠n:=by rintro rfl; exact h v List.mem_cons_self
   simp [this]
  ·rfl
theorem zkq {kindOf:Str->Option NameKind} {x:Str}:∀ {binds:List (Str×Value)} {m:Str->Option Value},(∀ v,(x,v) ∉ binds)->bindC kindOf binds m x=m x
 | [],_,_=>rfl
 | (n,v) :: r,m,h=>by
  unfold bindC
  rw [zkq fun w hw=>h w (List.mem_cons_of_mem _ hw)]
  split
  ·rfl
  ·have:x≠n:=by rintro rfl; exact h v List.mem_cons_self
   simp [this]
theorem zkr {kindOf:Str->Option NameKind} {x:Str} {v:Value}:∀ {P:List Str} {vs:List Value} {i:Nat} {m:Str->Option Value},P.Nodup->P[i]? = some x->vs[i]? = some v->kindOf x=some .local ->
    bindL kindOf (P.zip vs) m x=some v
  | [],_,_,_,_,h,_,_=>by simp at h
  | _ :: _,[],_,_,_,_,h,_=>by simp at h
  | p :: P,w :: vs,0,m,nd,h1,h2,hk=>by
    simp at h1 h2; subst h1; subst h2
    show bindL kindOf ((p,w) :: P.zip vs) m p = _
    unfold bindL
    rw [zkp fun v hv=>(List.nodup_cons.mp nd).1 (List.of_mem_zip hv).1,if_pos hk]
    simp
  | p :: P,w :: vs,i+1,m,nd,h1,h2,hk=>by
    show bindL kindOf ((p,w) :: P.zip vs) m x = _
    unfold bindL
    exact zkr (i:=i) (List.nodup_cons.mp nd).2 (by simpa using h1) (by simpa using h2) hk
theorem zks {kindOf:Str->Option NameKind} {x:Str} {v:Value}:∀ {P:List Str} {vs:List Value} {i:Nat} {m:Str->Option Value},P.Nodup->P[i]? = some x->vs[i]? = some v->kindOf x≠some .local ->
    bindC kindOf (P.zip vs) m x=some v
  | [],_,_,_,_,h,_,_=>by simp at h
  | _ :: _,[],_,_,_,_,h,_=>by simp at h
  | p :: P,w :: vs,0,m,nd,h1,h2,hk=>by
    simp at h1 h2; subst h1; subst h2
    show bindC kindOf ((p,w) :: P.zip vs) m p = _
    unfold bindC
    rw [zkq fun v hv=>(List.nodup_cons.mp nd).1 (List.of_mem_zip hv).1,if_neg hk]
    simp
  | p :: P,w :: vs,i+1,m,nd,h1,h2,hk=>by
    show bindC kindOf ((p,w) :: P.zip vs) m x = _
    unfold bindC
    exact zks (i:=i) (List.nodup_cons.mp nd).2 (by simpa using h1) (by simpa using h2) hk
def start (N:List Str) (vs:List V):St:=vs.map some++List.replicate (N.length-vs.length) none
def cxOf (CX:CXT) (P:Program) (w:World) (K:PySem.W.Frag) (mg:Str->Option Value) (base:Heap) (N:List Str) (qual:Str) (scope:Scope) (f:Addr) (cd:Value) (A:Around) (outer:List Env) (s:Shared) (H:Hp) (E:XK):Cx where
 prog:=P
 w:=w
 K:=K
 mg:=mg
 base:=base
 A:=A.deeper (envOfC qual scope s.heap.objs.size f cd)
 N:=N
 s₀:=s
 H₀:=H
 env:=envOfC qual scope s.heap.objs.size f cd
 outer:=outer
 stack:=envOfC qual scope s.heap.objs.size f cd :: outer
 ex:=[]
 calm:=true
 fn:=fun _=>true
 pn:=[]
 xe:=fun e s'=>wpAny (model P w) (A.deeper (envOfC qual scope s.heap.objs.size f cd)) (leaving (envOfC qual scope s.heap.objs.size f cd) e) (fun _ s''=>CX outer H s E e s'') (fun e' s''=>CX outer H s E e' s'') s'
theorem znb {sc:Scope} {n:Nat} {x:Str} (h:sc.names.lookup x=some .cell):∃ c,(cellsFrom n sc.names []).lookup x=some c:=by
 have q:=PySem.W.cellsFrom_some sc.names n [] (.inl h)
 exact Option.isSome_iff_exists.mp q
theorem zph {CX:CXT} {P:Program} {w:World} {K:PySem.W.Frag} {mg:Str->Option Value} {base:Heap} {N ps:List Str} {qual:Str} {scope:Scope} {f:Addr} {cd:Value} {A:Around} {outer:List Env} {s s1:Shared} {H:Hp} {E:XK} {us:List Value} {vs:List V}
    (S:FnScope N ps scope) (hd:A.handled=none) (e0:Env0 P w K mg base A outer s H) (hl:vs.length=ps.length) (r:Vals vs us)
    (x:InCallC s s.heap.objs.size (bindL (envOfC qual scope s.heap.objs.size f cd).kindOf (ps.zip us) fun _=>none) (cellsFrom (s.heap.objs.size+1) scope.names []) (bindC (envOfC qual scope s.heap.objs.size f cd).kindOf (ps.zip us) fun _=>none) s1) :
    Inv (cxOf CX P w K mg base N qual scope f cd A outer s H E) [] (start N vs) H s1:=by
  have hpl:ps.length<=N.length:=by have:=congrArg List.length S.pre; rw [List.length_take] at this; omega
  obtain ⟨h1,tk,rfl,hk⟩:=x.done
  have noA:∀ b:Addr,b ∉ (cxOf CX P w K mg base N qual scope f cd A outer s H E).ex:=fun b z=>absurd (show b∈([]:List Addr) from z) (by simp)
  refine ⟨⟨e0.mod,S.kind,rfl,rfl,Nat.le_refl _,fun y z c h1 h2=>?_,fun y hy=>?_,fun y c _ h=>?_,fun _=>hd,Around.frames_deeper e0.frames,.inr ⟨rfl,rfl⟩,fun b z=>absurd z (noA b),e0.bs,e0.bsz,fun b _ _=>noA b,fun b z=>absurd z (noA b),e0.funs,e0.frf⟩,
    rfl,e0.bare,Un.kept hk,⟨_,x.toInCall.ns,fun i y v h1 h2 h3=>?_⟩,fun y c h=>⟨_,x.cell y c h⟩,e0.hok.fresh (Nat.le_refl _),fun y c h=>?_,fun p hp=>absurd (show p∈([]:List (Addr×Obj)) from hp) (by simp),e0.hok.kept hk,?_⟩
  · exact name_of_addr x.apart (PySem.mem_of_lookup h1) (PySem.mem_of_lookup h2)
  · have hy:scope.names.lookup y=some .cell\/scope.names.lookup y=some .free:=hy
    rcases hy with hy | hy
    · exact znb hy
    · exact absurd rfl (S.nofree _ (PySem.mem_of_lookup hy))
  · exact Nat.le_of_lt (x.above y c (PySem.mem_of_lookup h))
  · have hi:i<vs.length:=by
      unfold start at h2
      by_cases hi:i<vs.length
      · exact hi
      · rw [List.getElem?_append_right (by simpa using hi)] at h2
        rw [List.getElem?_replicate] at h2
        split at h2 <;> cases h2
    have ha:vs[i]? = some v:=by
      unfold start at h2
      rw [List.getElem?_append_left (by simpa using hi),List.getElem?_map] at h2
      cases e:vs[i]? with
      | none=>rw [e] at h2; cases h2
      | some a=>rw [e] at h2; cases h2; rfl
    obtain ⟨u,hu,rv⟩:=r.get ha
    have hp:ps[i]? = some y:=by
      rw [<- S.pre,List.getElem?_take_of_lt (by omega)]; exact h1
    have ndP:ps.Nodup:=by rw [<- S.pre]; exact S.nd.sublist (List.take_sublist _ _)
    refine ⟨u,rv,?_⟩
    rcases S.par y (List.mem_of_getElem? hp) with k | k
    · exact .inl ⟨k,zkr ndP hp hu k⟩
    · obtain ⟨c,e⟩:=znb (n:=s.heap.objs.size+1) k
      refine .inr ⟨.inl k,c,e,?_⟩
      have q:=x.cell y c e
      rw [zks ndP hp hu (by show scope.names.lookup y≠_; rw [k]; decide)] at q
      exact q
  · exact e0.hok.fresh (Nat.le_of_lt (x.above y c (PySem.mem_of_lookup h)))
  · unfold start
    show _=N.length
    rw [List.length_append,List.length_map,List.length_replicate]
    omega
theorem fn_of {CX:CXT} {P:Program} {w:World} {K:PySem.W.Frag} {mg:Str->Option Value} {base:Heap} {k:Nat} {f:Addr} {name qual:Str} {params:Arguments} {body:List Stmt} {scope:Scope} {dV kV doc pm cdv ct oc:Value} {an od:Option Addr}
    {osl:Array (Option Value)} {N ps:List Str} {sp:Sp} (lk:K.lookup f=some ⟨oc,od,.func (PySem.W.fnOf name qual params body scope dV kV doc pm an cdv ct),osl⟩) (hcd:PySem.W.codeIn K cdv qual=true) (S:FnScope N ps scope)
    (len:∀ vs H Q E,sp vs H Q E->vs.length=ps.length)
    (hbody:∀ (A:Around) (outer:List Env) (s:Shared) (H:Hp) (vs:List V) (Q:VK) (E:XK),Room k (A.deeper (envOfC qual scope s.heap.objs.size f cdv))->sp vs H Q E ->
      ∃ t,PSs (cxOf CX P w K mg base N qual scope f cdv A outer s H E) body t/\t { nx:=fun _ H'=>Q .non H',rt:=Q } (start N vs) H) :
    FnOk P w K mg base CX (k+1) f (PySem.W.fnOf name qual params body scope dV kV doc pm an cdv ct) ps sp:=by
  refine ⟨len,fun A outer s H args us vs Q E hr e0 hb r hsp=>?_⟩
  have hl:=len _ _ _ _ hsp
  have KX:K.In s.heap:=e0.mod.kin.keeps fun b o e=>(e0.bs b o e).1
  have lim:s.heap.NoLimit:=e0.mod.nolimit.keeps fun b o e=>(e0.bs b o e).1
  have hkind:∀ y∈ps.zip us,scope.names.lookup y.1=some .local\/(scope.names.lookup y.1=some .cell/\((cellsFrom (s.heap.objs.size+1) scope.names []).lookup y.1).isSome=true):=fun ⟨n,v⟩ hy=>by
    rcases S.par n (List.of_mem_zip hy).1 with q | q
    · exact .inl q
    · exact .inr ⟨q,PySem.W.cellsFrom_some _ _ _ (.inl q)⟩
  refine codeAny_call_function hr.depth (KX _ _ lk) rfl S.co S.gen rfl (PySem.W.codeRec_of KX hcd) (hb _ _ _ _ ?_)
  refine wpAny_newFunctionEnv_cells S.kind hkind fun env he s1 x=>?_
  subst he
  refine ⟨lim.keeps x.toInCall.keep,codeAny_func ?_⟩
  obtain ⟨t,ht,hq⟩:=hbody A outer s H vs Q E (hr.deeper _) hsp
  have I:Inv (cxOf CX P w K mg base N qual scope f cdv A outer s H E) [] (start N vs) H s1:=zph S hr.hd e0 hl r x
  refine wpAny_mono (ht [] s1 (start N vs) H _ I hq) (fun fl s' hs=>?_) fun e s' hs=>hs
  have fin:∀ {σ':St} {H':Hp} {v:V} {u:Value},Inv (cxOf CX P w K mg base N qual scope f cdv A outer s H E) [] σ' H' s'->RelV v u->Q v H'->CE outer P w H s Q u s' :=
    fun {σ' H' v u} J rv q=>⟨v,H',J.os,J.bare,J.base,J.hok,rv,q⟩
  cases fl with
  | ret u =>
    obtain ⟨v,σ',H',J,rv,q⟩:=hs
    exact fin J rv q
  | next =>
    obtain ⟨σ',H',J,q⟩:=hs
    exact fin (v:=V.non) (u:=Value.none) J rfl q
  | brk =>
    obtain ⟨_,_,_,q⟩:=hs
    exact False.elim q
  | cont =>
    obtain ⟨_,_,_,q⟩:=hs
    exact False.elim q
end L2
namespace L2
open PySem PySem.Spec PyProof.Rows
section
variable {X:Cx} {x:Str} {p pos:Pos} {e:Expr} {es:List Expr} {t:TA} {id T:String} {r:List V->Hp->VK->Prop}
def tCB (r:List V->Hp->VK->Prop) (t:TA):TE:=fun σ H Q=>t σ H fun vs H1=>r vs H1 Q
theorem zbn (hc:CallR X (.builtin id) r) (hg:Gl X x) (hm:X.mg x=none) (hv:bootBuiltins x=some (.builtin id)) (ha:PA X (e :: es) t) (hn:x ≠ "__name__" := by decide) (hdb:(x == ("__debug__" : Str))=false:=by decide)
    (he:starEach (e :: es) X.env=(false,eval e X.env) :: starEach es X.env:=by rfl) (hpl:(backTo pos (starEach es X.env)).any (·.1)=false:=by rfl):PE X (.Call (.Name x p) (e :: es) [] pos) (tCB r t):=by
  intro pins s σ H Q I h
  refine wpAny_Call_Name_kw (zht I hg hm hv ?_ hn hdb)
  exact PyProof.Rows.callWith_builtin1 (thn (ha pos pins s σ H _ I h) fun us s1 ⟨vs,H1,I1,r1,q1⟩=>hc pins s1 σ H1 vs us Q I1 r1 q1) he hpl
theorem zbg (hc:CallR X (.type T) r) (hg:Gl X x) (hm:X.mg x=none) (hv:bootBuiltins x=some (.type T)) (ha:PA X (e :: es) t) (hn:x ≠ "__name__" := by decide) (hdb:(x == ("__debug__" : Str))=false:=by decide)
    (he:starEach (e :: es) X.env=(false,eval e X.env) :: starEach es X.env:=by rfl) (hpl:(backTo pos (starEach es X.env)).any (·.1)=false:=by rfl):PE X (.Call (.Name x p) (e :: es) [] pos) (tCB r t):=by
  intro pins s σ H Q I h
  refine wpAny_Call_Name_kw (zht I hg hm hv ?_ hn hdb)
  exact PyProof.Rows.callWith_type1 (thn (ha pos pins s σ H _ I h) fun us s1 ⟨vs,H1,I1,r1,q1⟩=>hc pins s1 σ H1 vs us Q I1 r1 q1) he hpl
end
end L2
namespace HT
open PySem PyProof.Rows
section
open PySem.SeqAt
open PySem.AutoSeq1 (wpAny_loadPart')
open PySem.MeetsSeq PySem.MeetsSeq2 PySem.MeetsSeq3
end
section
variable {prog:Program} {w:World} {A:Around} {E:Value->Shared->Prop} {s:Shared}
def sIx (n d:Nat):Option Int->Nat
 | none=>d
 | some v=>if v<0 then (v+(n:Int)).toNat else min v.toNat n
theorem sIx_none (n d:Nat):sIx n d none=d:=rfl
theorem sIx_nat (n d k:Nat):sIx n d (some (k:Int))=min k n:=by
 show (if (k:Int)<0 then ((k:Int)+(n:Int)).toNat else min (k:Int).toNat n)=min k n
 rw [if_neg (by omega),Int.toNat_natCast]
end
end HT
namespace L2
open PySem PySem.Spec PyProof.Rows
abbrev TO:=St->Hp->(Option Int->Hp->Prop)->Prop
def PO (X:Cx) (e:Option Expr) (t:TO):Prop :=
 ∀ (pins:List (Addr×Obj)) (s:Shared) (σ:St) (H:Hp) (Q:Option Int->Hp->Prop),Inv X pins σ H s->t σ H Q ->
  wpAny (model X.prog X.w) X.A (evalPart e X.env) (fun u s'=>∃ o H',Inv X pins σ H' s'/\IsPart u o/\Q o H') X.xe s
def tNoPart:TO:=fun _ H Q=>Q none H
def tPart (t:TE):TO:=fun σ H Q=>t σ H fun x H1=>∃ i,x = .int i/\Q (some i) H1
theorem zgt {ns:List Int}:∀ {us:List Value},Vals (ns.map V.int) us->IntsAre us ns:=by
 induction ns with
 | nil=>intro us r; rw [List.map_nil] at r; cases r; exact .nil
 | cons n ns ih =>
  intro us r
  rw [List.map_cons] at r
  cases r with
  | cons r1 r2 =>
   obtain ⟨t,e⟩:=r1
   subst e
   exact .cons n t (ih r2)
section
variable {X:Cx} {e:Expr} {te:TE} {lo hi:Option Expr} {tl th:TO} {pos p2:Pos}
theorem ztv:PO X none tNoPart:=by
 intro pins s σ H Q I h
 rw [evalPart_none]
 exact wpAny_pure ⟨none,H,I,.none,h⟩
theorem zmb (h:PE X e te):PO X (some e) (tPart te):=by
 intro pins s σ H Q I hw
 rw [evalPart_some]
 refine thn (h pins s σ H _ I hw) fun u s1 ⟨x,H1,I1,r1,q1⟩=>?_
 obtain ⟨i,rfl,q⟩:=q1
 obtain ⟨t,rfl⟩:=r1
 exact ⟨some i,H1,I1,.int i t,q⟩
def SlR (X:Cx) (r:V->Option Int->Option Int->Hp->VK->Prop):Prop :=
 ∀ (pins:List (Addr×Obj)) (s:Shared) (σ:St) (H:Hp) (x:V) (v vl vu:Value) (lo hi:Option Int) (sl:Addr) (Q:VK),Inv X pins σ H s->RelV x v->s.heap.IsSliceOf sl vl vu .none->IsPart vl lo->IsPart vu hi->r x lo hi H Q ->
  ∃ T id,typeLookup (.type T) "__getitem__" = pure (some (.builtin id))/\s.TypeIs v T/\wpAny (model X.prog X.w) X.A (getItem v (.ref sl)) (EP X pins σ Q) X.xe s
def tSl (r:V->Option Int->Option Int->Hp->VK->Prop) (te:TE) (tl th:TO):TE:=fun σ H Q=>te σ H fun x H1=>tl σ H1 fun l H2=>th σ H2 fun u H3=>r x l u H3 Q
theorem znc {r:V->Option Int->Option Int->Hp->VK->Prop} (hr:SlR X r) (he:PE X e te) (hl:PO X lo tl) (hu:PO X hi th):PE X (.Subscript e (.Slice lo hi none p2) pos) (tSl r te tl th):=by
 intro pins s σ H Q I h
 refine Subscript_ (thn (he pins s σ H _ I h) fun v s1 ⟨x,H1,I1,r1,q1⟩=>?_)
 refine wpAny_Slice (thn (hl pins s1 σ H1 _ I1 q1) fun vl s2 ⟨l,H2,I2,pl,q2⟩=>thn (hu pins s2 σ H2 _ I2 q2) fun vu s3 ⟨u,H3,I3,pu,q3⟩=>?_)
 rw [evalPart_none]
 refine wpAny_pure ?_
 have I4:Inv X pins σ H3 { s3 with heap:=s3.heap.push { cls:=.type "slice", data:=.fields #[vl,vu,.none] } }:=I3.kept (t':=s3.toks) fun b ob q=>Heap.get?_push_of_some _ q
 obtain ⟨T,id,hT,ht,hg⟩:=hr pins { s3 with heap:=s3.heap.push { cls:=.type "slice", data:=.fields #[vl,vu,.none] } } σ H3 x v vl vu l u s3.heap.objs.size Q I4 r1 (Heap.IsSliceOf.new ..) pl pu q3
 show wpAny (model X.prog X.w) X.A (subscriptTail e (.Slice lo hi none p2) v (.ref s3.heap.objs.size)) (EP X pins σ Q) X.xe { s3 with heap:=s3.heap.push { cls:=.type "slice", data:=.fields #[vl,vu,.none] } }
 exact tail_any (ops:=[.ref s3.heap.objs.size,v]) ht hT hg (by with_unfolding_all rfl)
def cutV (xs:List V) (lo hi:Option Int):List V:=(xs.drop (HT.sIx xs.length 0 lo)).take (HT.sIx xs.length xs.length hi-HT.sIx xs.length 0 lo)
theorem zmc (xs:List V) (lo hi:Option Int):(cutV xs lo hi).length<=xs.length:=by
 unfold cutV
 rw [List.length_take,List.length_drop]
 omega
end
end L2
namespace L2
open PySem PySem.Spec PyProof.Rows
def ixN (n:Nat) (i:Int):Option Nat:=if 0<=i then (if i<n then some i.toNat else none) else if -(n:Int)<=i then some (i+n).toNat else none
def atI {α:Type} (xs:List α) (i:Int):Option α:=(ixN xs.length i).bind fun j=>xs[j]?
theorem ztw {n:Nat} {i:Int} {j:Nat} (h:ixN n i=some j):seqIndex? i n=some j/\j<n/\-(n:Int)<=i/\i<n:=by
 unfold ixN at h
 by_cases h0:0<=i
 ·rw [if_pos h0] at h
  by_cases h1:i<n
  ·rw [if_pos h1] at h
   have e:i.toNat=j:=Option.some.inj h
   exact ⟨by rw [seqIndex_of h0 h1,e],by omega,by omega,h1⟩
  ·rw [if_neg h1] at h; cases h
 ·rw [if_neg h0] at h
  by_cases h1:-(n:Int)<=i
  ·rw [if_pos h1] at h
   have e:(i+n).toNat=j:=Option.some.inj h
   exact ⟨by rw [seqIndex_neg (by omega) h1,e],by omega,h1,by omega⟩
  ·rw [if_neg h1] at h; cases h
theorem zpi {α:Type} {xs:List α} {i:Int} {v:α} (h:atI xs i=some v):∃ j,seqIndex? i xs.length=some j/\xs[j]? = some v/\j<xs.length/\-(xs.length:Int)<=i/\i<xs.length:=by
 unfold atI at h
 cases e:ixN xs.length i with
 | none=>rw [e] at h; cases h
 | some j =>
  rw [e] at h
  obtain ⟨h1,h2,h3,h4⟩:=ztw e
  exact ⟨j,h1,h,h2,h3,h4⟩
theorem zcc {α:Type} {xs:List α} {j:Nat} {v:α} (h:xs[j]? = some v):atI xs (j:Int)=some v:=by
 have hj:j<xs.length:=(List.getElem?_eq_some_iff.mp h).1
 have e:ixN xs.length (j:Int)=some j:=by
  unfold ixN
  rw [if_pos (by omega),if_pos (by omega)]; simp
 unfold atI; rw [e]; exact h
def ztx (b:Expr):Prop:=∀ o i,subscripted b false o i=operate [o,i] (getItem o i)
def IxR (X:Cx) (r:R2):Prop :=
 ∀ (value slice:Expr) (pins:List (Addr×Obj)) (s:Shared) (σ:St) (H:Hp) (x y:V) (v u:Value) (Q:VK),Inv X pins σ H s->RelV x v->RelV y u->r x y H Q ->
  subscripted slice false v u=operate [v,u] (getItem v u)->wpAny (model X.prog X.w) X.A (subscriptTail value slice v u) (EP X pins σ Q) X.xe s
def MtR (X:Cx) (id:String) (r:V->List V->Hp->VK->Prop):Prop :=
 ∀ (pins:List (Addr×Obj)) (s:Shared) (σ:St) (H:Hp) (x:V) (xs:List V) (v:Value) (us:List Value) (Q:VK),Inv X pins σ H s->RelV x v->Vals xs us->r x xs H Q ->
  wpAny (model X.prog X.w) X.A (call (.builtin id) (v :: us)) (EP X pins σ Q) X.xe s
section
variable {X:Cx} {a b:Expr} {ta tb:TE} {pos:Pos}
theorem pe_ix {r:R2} (hr:IxR X r) (ha:PE X a ta) (hb:PE X b tb) (hs:ztx b):PE X (.Subscript a b pos) (tOp r ta tb):=by
 intro pins s σ H Q I h
 exact Subscript_ (binT ha hb I h fun v u s2 x y H2 I2 rx ry q=>hr a b pins s2 σ H2 x y v u Q I2 rx ry q (hs _ _))
def rIxL (K:PySem.W.Frag):R2:=fun x y H Q=>∃ p xs i v,x = .ref p/\y = .int i/\SqL K H p xs/\atI xs i=some v/\Q v H
def rIxT (K:PySem.W.Frag):R2:=fun x y H Q=>∃ p xs i v,x = .ref p/\y = .int i/\SqT K H p xs/\atI xs i=some v/\Q v H
theorem zty:IxR X (rIxL X.K):=by
 intro value slice pins s σ H x y v u Q I rx ry h hs
 obtain ⟨p,xs,i,z,rfl,rfl,hq,he,q⟩:=h
 cases rx
 obtain ⟨t,rfl⟩:=ry
 obtain ⟨its,r,pl,hz⟩:=I.list hq
 obtain ⟨j,h1,h2,h3,h4,h5⟩:=zpi he
 obtain ⟨w,ew,rw'⟩:=r.get h2
 have hl:=r.length
 have hn:=zko
 have fin:EP X pins σ Q w s:=⟨z,H,I,rw',q⟩
 by_cases h0:0<=i
 ·have hj:i.toNat=j:=by
   rw [seqIndex_of h0 h5] at h1
   exact Option.some.inj h1
  exact item_listR pl.isList h0 (by omega) (by rw [hj]; simpa using ew) fin hs
 ·have hj:(i+(its.toArray.size:Int)).toNat=j:=by
   rw [seqIndex_neg (by omega) h4] at h1
   rw [List.size_toArray,<- hl]
   exact Option.some.inj h1
  exact subscriptTail_builtinR (x:=w) pl.isList.typeIs slot_list_getitem.lookup
   (wpAny_getItem_list_neg (Q:=fun r s'=>r=w/\EP X pins σ Q r s') pl.isList (by omega) (by rw [List.size_toArray] <;> omega) (by omega) (by rw [hj]; simpa using ew) ⟨rfl,fin⟩) hs
theorem zwh:IxR X (rIxT X.K):=by
 intro value slice pins s σ H x y v u Q I rx ry h hs
 obtain ⟨p,xs,i,z,rfl,rfl,hq,he,q⟩:=h
 cases rx
 obtain ⟨t,rfl⟩:=ry
 obtain ⟨its,r,pl,hz⟩:=I.tuple hq
 obtain ⟨j,h1,h2,h3,h4,h5⟩:=zpi he
 obtain ⟨w,ew,rw'⟩:=r.get h2
 have hl:=r.length
 have hn:=zko
 have fin:EP X pins σ Q w s:=⟨z,H,I,rw',q⟩
 exact subscriptTail_builtinR (x:=w) pl.typeIs slot_tuple_getitem.lookup
  (getItem_tuple (j:=j) (Q:=fun r s'=>r=w/\EP X pins σ Q r s') pl (by omega) (by omega) (by rw [List.size_toArray,<- hl]; exact h1) (by simpa using ew) ⟨rfl,fin⟩) hs
theorem zkt (lo hi:Option Int) (n:Nat):(sliceBounds lo hi none n).1=((HT.sIx n 0 lo:Nat):Int)/\(sliceBounds lo hi none n).2.1=((HT.sIx n n hi:Nat):Int)/\(sliceBounds lo hi none n).2.2 = 1:=by
 refine ⟨?_,?_,rfl⟩
 ·cases lo with
  | none=>simp [sliceBounds,HT.sIx]
  | some i =>
   simp only [sliceBounds,HT.sIx,Option.getD_none,show (1:Int) > 0 by decide,if_true]
   by_cases h:i<0
   ·simp only [h,if_true] <;> omega
   ·simp only [h,if_false] <;> omega
 ·cases hi with
  | none=>simp [sliceBounds,HT.sIx]
  | some i =>
   simp only [sliceBounds,HT.sIx,Option.getD_none,show (1:Int) > 0 by decide,if_true]
   by_cases h:i<0
   ·simp only [h,if_true] <;> omega
   ·simp only [h,if_false] <;> omega
theorem zka (its:List Value) (lo hi:Option Int):slicePick its.toArray lo hi none=((its.drop (HT.sIx its.length 0 lo)).take (HT.sIx its.length its.length hi-HT.sIx its.length 0 lo)).toArray:=by
 obtain ⟨h1,h2,h3⟩:=zkt lo hi its.toArray.size
 unfold slicePick
 rw [h1,h2,h3]
 simp only [sliceRange_one,pick_run,List.size_toArray] <;> rfl
def rSlL (K:PySem.W.Frag):V->Option Int->Option Int->Hp->VK->Prop:=fun x lo hi H Q=>∃ a xs,x = .ref a/\SqL K H a xs/\∀ p,H p=none->Q (.ref p) (upd H p (.lst (cutV xs lo hi)))
theorem ztz:SlR X (rSlL X.K):=by
 intro pins s σ H x v vl vu lo hi sl Q I rx hs pl pu h
 obtain ⟨a,xs,rfl,hx,q⟩:=h
 cases rx
 obtain ⟨its,r,ht,hz⟩:=I.list hx
 have hlen:=r.length
 refine ⟨"list", _,slot_list_getitem.lookup,ht.isList.typeIs,?_⟩
 refine wpAny_getItem_list_slice ht.isList hs pl pu .none (by simp) ?_ (by rw [List.size_toArray] <;> omega)
 rw [zka,<- hlen]
 refine ⟨.ref s.heap.objs.size,_,I.laid (t':=s.toks) (o:=.lst (cutV xs lo hi)) (fun b ob q=>Heap.get?_push_of_some _ q) (Nat.le_refl _) ?_,rfl,q _ (I.hok.fresh (Nat.le_refl _))⟩
 exact ⟨Nat.le_trans (zmc xs lo hi) hz,_,0,(r.drop (HT.sIx xs.length 0 lo)).take (HT.sIx xs.length xs.length hi-HT.sIx xs.length 0 lo),Heap.get?_push_size _ rfl⟩
theorem zku:CallR X (.builtin "len") (fun xs H Q=>∃ p ys,xs = [.ref p]/\(SqL X.K H p ys\/SqT X.K H p ys)/\Q (.int ys.length) H):=by
 intro pins s σ H xs us Q I r h
 obtain ⟨p,ys,rfl,hq,q⟩:=h
 obtain ⟨u,rfl,rx⟩:=vals1 r
 cases rx
 have hn:=zko
 rcases hq with hq | hq
 ·obtain ⟨its,r',pl,hz⟩:=I.list hq
  have hlen:=r'.length
  exact Calls.call_len_list pl.isList (by simp only [List.size_toArray] <;> omega) ⟨.int ys.length,H,I.tok _,⟨s.toks+1,by rw [List.size_toArray,hlen]⟩,q⟩
 ·obtain ⟨its,r',pl,hz⟩:=I.tuple hq
  have hlen:=r'.length
  exact len_tuple pl (by simp only [List.size_toArray] <;> omega) ⟨.int ys.length,H,I.tok _,⟨s.toks+1,by rw [List.size_toArray,hlen]⟩,q⟩
theorem zfd:CallR X (.builtin "len") (fun xs H Q=>∃ z,xs = [.str z]/\z.length<=sizeLine/\Q (.int z.length) H):=by
 intro pins s σ H xs us Q I r h
 obtain ⟨z,rfl,hz,q⟩:=h
 obtain ⟨u,rfl,t,rfl⟩:=vals1 r
 have hn:=zko
 exact len_str (by omega) ⟨.int z.length,H,I.tok _,⟨_,rfl⟩,q⟩
theorem zkv:CallR X (.type "list") (fun xs H Q=>∃ p ys,xs = [.ref p]/\(SqL X.K H p ys\/SqT X.K H p ys)/\∀ l,H l=none->Q (.ref l) (upd H l (.lst ys))):=by
  intro pins s σ H xs us Q I r h
  obtain ⟨p,ys,rfl,hq,q⟩:=h
  obtain ⟨u,rfl,rx⟩:=vals1 r
  cases rx
  have fin:∀ (its:List Value),Vals ys its->ys.length<=sizeLine->∀ (h':Heap) (c':Nat),(∀ b o',s.heap.get? b=some o'->h'.get? b=some o') ->
      h'.get? s.heap.objs.size=some { cls:=.type "list", dict:=none,data:=.seq its.toArray c',slots:=#[] }->EP X pins σ Q (.ref s.heap.objs.size) { s with heap:=h' }:=fun its r' hz h' c' kp e =>
    ⟨.ref s.heap.objs.size,_,I.laid (t':=s.toks) kp (Nat.le_refl _) (show ObjOk X.prog X.w _ h' _ (.lst ys) from ⟨hz,its,c',r',e⟩),rfl,q _ (I.hok.fresh (Nat.le_refl _))⟩
  rcases hq with hq | hq
  · obtain ⟨its,r',pl,hz⟩:=I.list hq
    have hlen:=r'.length
    obtain ⟨o,ho,hc,n,hd⟩:=pl.isList
    exact call_list_seq p (.inl rfl) ho hc hd (fun h' c' kp e=>fin its r' hz h' c' kp e) (by simp only [List.size_toArray] <;> omega)
  · obtain ⟨its,r',pl,hz⟩:=I.tuple hq
    have hlen:=r'.length
    obtain ⟨o,ho,hc,n,hd⟩:=pl
    exact call_list_seq p (.inr rfl) ho hc hd (fun h' c' kp e=>fin its r' hz h' c' kp e) (by simp only [List.size_toArray] <;> omega)
def tyV (K:PySem.W.Frag) (T:String) (x:V) (H:Hp):Prop:=match x with
  | .str _=>T = "str"
  | .int _=>T = "int"
  | .ref p=>(T = "list" /\ ∃ xs,SqL K H p xs)\/(T = "tuple" /\ ∃ o,K.lookup p=some o/\o.cls = .type "tuple" /\ o.dict=none) \/
      (T = "dict" /\ ((∃ kvs,H p=some (.dK kvs))\/∃ kvs,H p=some (.dT kvs)))\/(T = "set" /\ ∃ S n,H p=some (.set S n))
  | _=>False
theorem zwi {pins:List (Addr×Obj)} {σ:St} {H:Hp} {s:Shared} {T:String} {x:V} {v:Value} (I:Inv X pins σ H s) (r:RelV x v) (ty:tyV X.K T x H) :
    s.TypeIs v T/\∀ a,v = .ref a->∃ ob,s.heap.get? a=some ob/\ob.dict=none:=by
  cases x with
  | str z =>
    obtain ⟨t,rfl⟩:=r
    cases (show T = "str" from ty)
    exact ⟨typeIs_str s z t,fun _ e=>nomatch e⟩
  | int i =>
    obtain ⟨t,rfl⟩:=r
    cases (show T = "int" from ty)
    exact ⟨typeIs_int s i t,fun _ e=>nomatch e⟩
  | ref p =>
    cases r
    rcases ty with ⟨rfl,xs,hq⟩ | ⟨rfl,o,hk,hc,hd⟩ | ⟨rfl,hk⟩ | ⟨rfl,S,n,hk⟩
    · obtain ⟨its,_,pl,_⟩:=I.list hq
      refine ⟨pl.isList.typeIs,fun a e=>?_⟩
      cases e
      obtain ⟨o,n,e,c,hd,_⟩:=pl
      exact ⟨o,e,hd⟩
    · refine ⟨⟨o,I.kIn p o hk,hc⟩,fun a e=>?_⟩
      cases e
      exact ⟨o,I.kIn _ o hk,hd⟩
    · have z:∃ o,s.heap.get? p=some o/\o.ExactDict:=by
        rcases hk with ⟨kvs,hk⟩ | ⟨kvs,hk⟩
        · obtain ⟨_,_,_,_,o,_,_,e,ex,_⟩:=I.hok p _ hk
          exact ⟨o,e,ex⟩
        · obtain ⟨_,_,_,_,o,_,_,e,ex,_⟩:=I.hok p _ hk
          exact ⟨o,e,ex⟩
      obtain ⟨o,e,ex⟩:=z
      refine ⟨⟨o,e,ex.1⟩,fun a e2=>?_⟩
      cases e2
      exact ⟨o,e,ex.2.1⟩
    · obtain ⟨o,_,_,_,e,ex,_⟩:=I.hok p _ hk
      refine ⟨⟨o,e,ex.1⟩,fun a e2=>?_⟩
      cases e2
      exact ⟨o,e,ex.2.1⟩
  | _=>exact False.elim ty
def tBM0 (K:PySem.W.Frag) (T:String) (r:V->List V->Hp->VK->Prop) (to:TE):TE:=fun σ H Q=>to σ H fun x H1=>tyV K T x H1/\r x [] H1 Q
def tBM (K:PySem.W.Frag) (T:String) (r:V->List V->Hp->VK->Prop) (to:TE) (t:TA):TE:=fun σ H Q=>to σ H fun x H1=>tyV K T x H1/\t σ H1 fun xs H2=>r x xs H2 Q
variable {o e:Expr} {es:List Expr} {to:TE} {t:TA} {name:Str} {apos cpos:Pos} {T id:String} {r:V->List V->Hp->VK->Prop}
theorem pe_bm (pa:PlainAttrs T) (slot:Slot T name id) (hty:typeOf (.builtin id)=pure (.type "method_descriptor")) (hm:MtR X id r) (ho:PE X o to) (ha:PA X (e :: es) t)
    (hbase:attributeBase o name X.env (eval o X.env)=eval o X.env:=by rfl)
    (hfew:((backTo cpos (starEach (e :: es) X.env)).all (fun x=>!x.1) && (backToKw cpos (keywordEach [] X.env)).all (fun x=>x.1.isSome)
      && decide ((e :: es).length+([]:List Keyword).length+(if ([]:List Keyword).isEmpty then 0 else 1)<30))=true:=by rfl)
    (hline:(apos.endLine == cpos.line)=true:=by rfl) (hs:starEach (e :: es) X.env=(false,eval e X.env) :: starEach es X.env:=by rfl) (hplain:(backTo cpos (starEach es X.env)).any (·.1)=false:=by rfl) :
    PE X (.Call (.Attribute o name apos) (e :: es) [] cpos) (tBM X.K T r to t):=by
  intro pins s σ H Q I h
  refine wpAny_Call_method_late hbase hfew hline rfl (thn (ho pins s σ H _ I h) fun v s1 ⟨x,H1,I1,r1,ty,q1⟩=>?_)
  obtain ⟨h1,h2⟩:=zwi I1 r1 ty
  refine ⟨T,id,pa,slot,hty,h1,h2,?_⟩
  have hA:=ha cpos pins s1 σ H1 _ I1 q1
  rw [hs] at hA ⊢
  refine Calls.callWith_builtin (by show (false || (backTo cpos (starEach es X.env)).any (·.1))=false; rw [hplain] <;> rfl) (Calls.evalArgs_plain ?_)
  exact thn hA fun us s2 ⟨vs,H2,I2,r2,q2⟩=>hm pins s2 σ H2 x vs v us Q I2 r1 r2 q2
end
end L2
namespace L2
open PySem PySem.Spec PyProof.Rows
def MtM (X:Cx) (id:String) (r:V->List V->Hp->VK->Prop):Prop :=
 ∀ (pins:List (Addr×Obj)) (s:Shared) (σ:St) (H:Hp) (x:V) (xs:List V) (v:Value) (us:List Value) (Q:VK),Inv X pins σ H s->RelV x v->Vals xs us->r x xs H Q ->
  wpAny (model X.prog X.w) X.A (call (.builtin id) (v :: us)) (EP X pins σ Q) X.xe s
theorem Vals.one:∀ {x:V} {us:List Value},Vals [x] us->∃ u,us = [u]/\RelV x u
 | _,_,.cons r .nil=>⟨_,rfl,r⟩
theorem Vals.two:∀ {x y:V} {us:List Value},Vals [x,y] us->∃ u v,us = [u,v]/\RelV x u/\RelV y v
 | _,_,_,.cons r (.cons q .nil)=>⟨_,_,rfl,r,q⟩
section
variable {X:Cx} {pins:List (Addr×Obj)} {σ:St} {H:Hp} {s:Shared} {l b:Addr} {xs ys zs:List V}
theorem Inv.lset {its its':List Value} {n:Nat} {f:Array Value->Array Value} {t':Nat} (I:Inv X pins σ H s) (hH:H l=some (.lst xs))
    (e:s.heap.get? l=some { cls:=.type "list", data:=.seq its.toArray n }) (hf:f its.toArray=its'.toArray) (hv:Vals ys its') (hz:ys.length<=sizeLine) :
    Inv X pins σ (upd H l (.lst ys)) { s with heap:=s.heap.update l (Obj.mapSeq f),toks:=t' }:=by
  have q:=PySem.IsL.update e f
  rw [hf] at q
  refine I.write (x:=l) (e:=l) (by rw [hH]; exact trivial) (.inl rfl) (fun b' u hb hu=>(Heap.get?_update_other s.heap (Obj.mapSeq f) (Ne.symm hb)).trans hu) ⟨_,q⟩ ?_
  exact ⟨hz,its',_,hv,q⟩
theorem Inv.lnew {its:List Value} {t':Nat} (I:Inv X pins σ H s) (hv:Vals ys its) (hz:ys.length<=sizeLine) :
    Inv X pins σ (upd H s.heap.objs.size (.lst ys)) { s with heap:=s.heap.push { cls:=.type "list", data:=.seq its.toArray },toks:=t' } :=
  I.laid (fun _ _ q=>Heap.get?_push_of_some _ q) (Nat.le_refl _) ⟨hz,its,0,hv,Heap.get?_push_size _ rfl⟩
theorem Inv.fresh (I:Inv X pins σ H s):H s.heap.objs.size=none:=I.hok.fresh (Nat.le_refl _)
theorem Inv.lstM (I:Inv X pins σ H s) (hH:H l=some (.lst xs)):xs.length<=sizeLine/\∃ (its:List Value) (n:Nat),Vals xs its/\xs.length=its.length/\s.heap.get? l=some { cls:=.type "list", data:=.seq its.toArray n }:=by
 obtain ⟨z,its,n,r,e⟩:=I.hok l _ hH
 exact ⟨z,its,n,r,r.length,e⟩
end
section
variable {X:Cx}
def zkb:V->List V->Hp->VK->Prop:=fun x vs H Q=>∃ l xs y,x = .ref l/\vs = [y]/\H l=some (.lst xs)/\xs.length<sizeLine/\Q .non (upd H l (.lst (xs++[y])))
theorem zaz:MtM X "list.append" zkb:=by
 intro pins s σ H x vs v us Q I rx rv h
 obtain ⟨l,xs,y,rfl,rfl,hH,hz,q⟩:=h
 cases rx
 obtain ⟨u,rfl,ru⟩:=rv.one
 obtain ⟨z,its,n,r,hl,e⟩:=I.lstM hH
 refine call_meets F.slot_list_append ⟨_,e,rfl⟩ F.entry_list_append (F.args_list_append_2 _ _) (PySem.list_append l its.toArray n u (by rw [List.size_toArray]; omega)) ⟨e,?_⟩
 refine ⟨.non,_,I.lset (its':=its++[u]) hH e (by simp) (r.append (.cons ru .nil)) ?_,rfl,q⟩
 rw [List.length_append,List.length_singleton]
 omega
def rCat:R2:=fun x y H Q=>∃ l b xs zs,x = .ref l/\y = .ref b/\H l=some (.lst xs)/\H b=some (.lst zs)/\xs.length+zs.length<=sizeLine/\∀ p,H p=none->Q (.ref p) (upd H p (.lst (xs++zs)))
theorem zpj:OpR X (binaryOp .Add) rCat:=by
 intro pins s σ H x y v u Q I rx ry h
 obtain ⟨l,b,xs,zs,rfl,rfl,hH,hB,hz,q⟩:=h
 cases rx
 cases ry
 obtain ⟨z,its,n,r,hl,e⟩:=I.lstM hH
 obtain ⟨z2,its2,n2,r2,hl2,e2⟩:=I.lstM hB
 refine PySem.P.add_list e e2 ?_ (by rw [List.size_toArray,List.size_toArray]; omega)
 have ea:its.toArray++its2.toArray=(its++its2).toArray:=by simp
 rw [ea]
 exact ⟨.ref _,_,I.lnew (t':=s.toks) (r.append r2) (by rw [List.length_append]; omega),rfl,q _ I.fresh⟩
end
section
variable {prog:Program} {w:World} {A:Around} {E:Value->Shared->Prop} {s:Shared}
end
section
variable {X:Cx}
end
end L2
namespace Att
open PySem PySem.W PySem.Calls PyProof.Rows
theorem zhz {P:Params} {h:Heap}:∀ (ns:List Int) (vs:List Value),WellAll P h vs (ns.map WData.int)->IntsAre vs ns:=by
 intro ns
 induction ns with
 | nil =>
  intro vs w
  rw [List.map_nil] at w
  cases w
  exact .nil
 | cons n ns ih =>
  intro vs w
  rw [List.map_cons] at w
  cases w with
  | cons a b =>
   cases a
   exact .cons _ _ (ih _ b)
theorem zpk {l:OpenLaw} {n:Nat} (hn:l.most=some n) {P:Params} {h:Heap} {args:List WData} {vals:List Value}
    (hpre:l.row.toRowW.claim.pre args=true) (hwl:WellAll P h vals args) :
    ∃ a vs ns,vals = [Value.ref a]/\args = [WData.list (ns.map WData.int)]/\h.get? a=some { cls:=.type "list", data:=.seq vs.toArray }/\IntsAre vs ns/\ns.length<=n:=by
  have hsh:WShape.hasAll [] args [.list .int] = true:=(pre_splitW hpre).1
  have hc:l.pre.holds [] { args:=args } = true:=(pre_splitW hpre).2
  obtain ⟨d,r,rfl,h1,h2⟩:=hasAllW_cons hsh
  obtain rfl:=hasAllW_nil h2
  obtain ⟨xs,rfl,h3⟩:=hasW_list h1
  obtain ⟨ns,rfl⟩:=items_int h3
  have hlen:ns.length<=n:=by
    unfold OpenLaw.pre at hc
    have h4:(WTm.not (.lt (.lit (.int (n:Int))) (.len (.arg 0)))).holds [] { args:=[.list (ns.map .int)] } = true:=by
      have h4:=(holds_andW hc).1
      rw [hn] at h4
      exact h4
    have h5:=condW_of h4 (w_not (w_lt w_lit (w_len_list (w_arg rfl))))
    rw [List.length_map] at h5
    refine Nat.le_of_not_lt fun q=>?_
    have q':(n:Int)<((ns.length:Nat):Int):=by omega
    first
      | (rw [decide_eq_true q'] at h5; exact absurd h5 (by decide))
      | (simp at h5; omega)
  cases hwl with
  | cons w1 w2 =>
    cases w2
    cases w1 with
    | list ho hall=>exact ⟨_,_,ns,rfl,rfl,ho,zhz ns _ hall,hlen⟩
theorem zpl (l:OpenLaw) (args:List WData):l.row.toRowW.claim.post args (.bool true) args=true :=
 postW_of (r:=l.row.toRowW) (X:=(true == true))
  (show WShape.has [] (.bool true) .bool=true by first | rfl | decide | simp [WShape.has,WShape.arms,WShape.armsAll])
  (show (WTm.eq .res (.lit (.bool true))).value [] { args:=args,res:=some (.bool true),after:=args } = some (.bool (true == true)) from w_eq_bool (w_res rfl) w_lit) rfl
theorem attach_call {l:OpenLaw} {n:Nat} {q:Program} {loose:List Str} {XP:(Str->Option Value)->Heap->Prop} {YP:World->Heap->Prop} {d:DefRec}
    (hn:l.most=some n) (hdf:d.params.defaults = [])
    (call:∀ (w:World) (s₀ s₁:Shared) (mg mb:Str->Option Value) (fa:Addr) (o:Obj) (pm cd doc:Value) (a:Addr) (vs:List Value) (ns:List Int),
      Ground q loose [] XP w s₀ mg mb s₁.heap->YP w s₁.heap ->
      s₁.heap.get? fa=some o->o.data = .func (docDef d.name d.params d.body d.scope pm cd doc)->s₁.heap.CodeRec cd d.name->mg d.name=some (.ref fa) ->
      s₁.heap.get? a=some { cls:=.type "list", data:=.seq vs.toArray }->IntsAre vs ns->ns.length<=n->s₁.gens = #[] ->
      codeAny (model l.prog w) callerA (.call (.ref fa) ⟨[.ref a],[]⟩) (fun r s'=>r = .ok (.ret (.bool true))/\OldK s₁.heap s'.heap/\s'.os=s₁.os/\AllBare s'.gens) s₁) :
    WalkO q loose XP YP l.row.toRowW d [] (fun f vs=>PySem.call f vs):=by
  intro w s₀ s₁ mg mb G Y fa o pm cd doc dV kV ho hd hcd hD hmg hg args vals as hpre hlay hrd hwl hlo
  obtain rfl:dV = .none:=Dflts.none hD hdf
  obtain rfl:kV = .none:=Dflts.noKw hD
  obtain ⟨a,vs,ns,rfl,rfl,hobj,hints,hlen⟩:=zpk hn hpre hwl
  refine enter_call (codeAny_mono (call w s₀ s₁ mg mb fa o pm cd doc a vs ns G Y ho (fd_plain hd) hcd hmg hobj hints hlen hg) fun r s' hq=>?_)
  obtain ⟨rfl,h2,h3,h4⟩:=hq
  exact ⟨.inl ⟨.bool true,.bool true,[],rfl,fun _=>rfl,.bool true,zpl l _,fun _=>⟨List.Pairwise.nil,fun _ hm=>(nomatch hm)⟩⟩,h2,h3,h4⟩
section
variable {prog:Program} {w:World} {A:Around} {E:Value->Shared->Prop} {s:Shared} {K:Frag}
end
end Att
namespace L2
open PySem PySem.Spec PyProof.Rows
theorem zia:∀ {vs:List Value} {ns:List Int},IntsAre vs ns->Vals (ns.map V.int) vs
 | _,_,.nil=>.nil
 | _,_,.cons n t h=>.cons ⟨t,rfl⟩ (zia h)
def Only (H:Hp):Prop:=∀ b,H b=none\/∃ o xs,H b=some (.frz o (.lst xs))
theorem law_call {P:Program} {w:World} {K:PySem.W.Frag} {mg mb:Str->Option Value} {CX:CXT} {k:Nat} {fa a:Addr} {fd:FuncData} {x:Str} {sp:Sp} {s₁:Shared} {vs:List Value} {ns:List Int}
    (KX:K.In s₁.heap) (hns:s₁.heap.Ns mainGlobals mg) (hb:s₁.heap.Ns builtinsNs mb) (hbb:∀ x:Str,x ≠ "__name__" -> mb x=bootBuiltins x) (hlim:s₁.heap.NoLimit) (hg:s₁.gens = #[])
    (ha:s₁.heap.get? a=some { cls:=.type "list", data:=.seq vs.toArray }) (hi:IntsAre vs ns) (hl:ns.length<=sizeLine) (hr:Room k callerA)
    (F:∀ base:Heap,K.In base->base.Ns mainGlobals mg->FnOk P w K mg base CX k fa fd [x] sp) (hbind:∀ (s:Shared) (u:Value),BindsTo s fd ⟨[u],[]⟩ [(x,u)])
    (hsp:∀ H:Hp,Only H->SqL K H a (ns.map V.int)->sp [.ref a] H (fun v _=>v = .bl true) fun _ _ _=>False)
    (hCX:∀ H e s',CX [] H s₁ (fun _ _ _=>False) e s'->False) :
    codeAny (model P w) callerA (.call (.ref fa) ⟨[.ref a],[]⟩) (fun r s'=>r = .ok (.ret (.bool true))/\OldK s₁.heap s'.heap/\s'.os=s₁.os/\AllBare s'.gens) s₁:=by
  have rv:=zia hi
  have lenV:=hi.length
  have core:∀ H:Hp,Only H->SqL K H a (ns.map V.int)->HOk P w H s₁.heap->(∀ b,H b≠none->b=a)->(H a≠none->K.lookup a=none) ->
      codeAny (model P w) callerA (.call (.ref fa) ⟨[.ref a],[]⟩) (fun r s'=>r = .ok (.ret (.bool true))/\OldK s₁.heap s'.heap/\s'.os=s₁.os/\AllBare s'.gens) s₁:=by
    intro H hO hS hok hA hK
    have base_of:∀ {b:Addr} {o:Obj},s₁.heap.get? b=some o->H b=none->(hidT s₁.heap H).get? b=some o:=fun e n=>zrh e n
    have noA:∀ {b:Addr} {o:Obj} {es:Array DictEntry} {ep:Nat},s₁.heap.get? b=some o->o.data = .dict es ep->H b=none:=fun {b o es ep} e d=>by
      cases q:H b with
      | none=>rfl
      | some u =>
        have e':b=a:=hA b (by rw [q]; simp)
        subst e'
        rw [ha] at e; cases e
        have d':Data.seq vs.toArray _=Data.dict es ep:=d
        cases d'
    have nsK:∀ {b:Addr} {m:Str->Option Value},s₁.heap.Ns b m->(hidT s₁.heap H).Ns b m:=fun {b m} ⟨o,es,ep,e,d,r⟩=>⟨o,es,ep,base_of e (noA e d),d,r⟩
    have hKb:K.In (hidT s₁.heap H):=fun b o e=>base_of (KX b o e) (by
      cases q:H b with
      | none=>rfl
      | some u =>
        have e':b=a:=hA b (by rw [q]; simp)
        subst e'
        rw [hK (by rw [q]; simp)] at e; cases e)
    have hM:Mod K mg (hidT s₁.heap H):=⟨hKb,nsK hns,⟨mb,nsK hb,hbb⟩,let ⟨mc,h1,h2⟩:=hlim; ⟨mc,nsK h1,h2⟩⟩
    have e0:Env0 P w K mg (hidT s₁.heap H) callerA [] s₁ H:=⟨rfl,hM,fun b o e=>zto e,Nat.le_of_eq (zos _ _),trivial,fun b hb=>absurd (show b∈([]:List Addr) from hb) (by simp),hok,.of_eq hg⟩
    refine codeAny_mono ((F _ hKb (nsK hns)).run callerA [] s₁ H ⟨[.ref a],[]⟩ [.ref a] [.ref a] _ _ hr e0 (hbind s₁ (.ref a)) (.cons rfl .nil) (hsp H hO hS)) fun r s' h=>?_
    cases r with
    | error e=>exact (hCX H e s' h).elim
    | ok fl =>
      cases fl with
      | next=>exact False.elim h
      | brk=>exact False.elim h
      | cont=>exact False.elim h
      | ret u =>
        obtain ⟨v,H',os,bare,un,hok',r',q⟩:=h
        have q':v = .bl true:=q
        subst q'
        obtain rfl:u=Value.bool true:=r'
        refine ⟨rfl,OldK.of_keep fun b o e=>?_,os,bare⟩
        cases q:H b with
        | none=>exact un.keep b o e q (by intro z; exact absurd (show b∈([]:List Addr) from z) (by simp)) (by simp)
        | some u =>
          rcases hO b with z | ⟨ob,xs,z⟩
          · rw [q] at z; cases z
          · have z2:=un.frzs b ob _ z
            obtain ⟨e1,_⟩:=hok b _ z
            obtain ⟨e2,_⟩:=hok' b _ z2
            rw [e] at e1; cases e1
            exact e2
  cases hk:K.lookup a with
  | some o =>
    have e:=KX a o hk
    rw [ha] at e
    cases e
    refine core (fun _=>none) (fun _=>.inl rfl) (.inr ⟨_,vs.toArray,_,hk,rfl,rfl,rfl,by rw [List.size_toArray,lenV]; exact hl,by simpa using rv⟩) (fun b u z=>by have z':(none:Option HO)=some u:=z; cases z') (fun b z=>absurd rfl z) fun z=>absurd rfl z
  | none =>
    refine core (fun b=>if b=a then some (.frz { cls:=.type "list", data:=.seq vs.toArray } (.lst (ns.map V.int))) else none) (fun b=>?_) (.inl (.inr ⟨{ cls:=.type "list", data:=.seq vs.toArray },if_pos rfl⟩)) (fun b u z=>?_) (fun b z=>?_) fun _=>hk
    · by_cases hb:b=a
      · exact .inr ⟨_,_,if_pos hb⟩
      · exact .inl (if_neg hb)
    · by_cases hb:b=a
      · have z':=(if_pos hb).symm.trans z
        cases z'
        subst hb
        exact ⟨ha,by rw [List.length_map]; exact hl,vs,_,rv,ha⟩
      · have z':=(if_neg hb).symm.trans z
        cases z'
    · by_cases hb:b=a
      · exact hb
      · exact absurd (if_neg hb) z
end L2
namespace L2
open PySem PySem.Spec PyProof.Rows
abbrev KOf {K:PySem.W.Frag} {h:Heap} (_:K.In h):PySem.W.Frag:=K
theorem walk_of {l:PySem.W.OpenLaw} {n k:Nat} {q:Program} {loose:List Str} {XP:(Str->Option Value)->Heap->Prop} {YP:World->Heap->Prop} {d:DefRec} {K:Params->PySem.W.Frag} {CX:World->CXT} {sp:World->Sp} {x:Str}
    (hn:l.most=some n) (hn2:n<=sizeLine) (hdf:d.params.defaults = []) (hr:Room k callerA)
    (hY:∀ (w:World) (h:Heap),YP w h->(K w.params).In h)
    (F:∀ (w:World) (mg:Str->Option Value) (fa:Addr) (h:Heap),(K w.params).In h->h.Ns mainGlobals mg->mg d.name=some (.ref fa) ->
      ∃ fd:FuncData,(∀ (s:Shared) (u:Value),BindsTo s fd ⟨[u],[]⟩ [(x,u)]) /\
        ∀ base:Heap,(K w.params).In base->base.Ns mainGlobals mg->FnOk l.prog w (K w.params) mg base (CX w) k fa fd [x] (sp w))
    (hsp:∀ (w:World) (H:Hp) (a:Addr) (ns:List Int),ns.length<=n->Only H->SqL (K w.params) H a (ns.map V.int)->sp w [.ref a] H (fun v _=>v = .bl true) fun _ _ _=>False)
    (hCX:∀ (w:World) (H:Hp) (s:Shared) (e:Value) (s':Shared),CX w [] H s (fun _ _ _=>False) e s'->False) :
    PySem.W.WalkO q loose XP YP l.row.toRowW d [] (fun f vs=>PySem.call f vs):=by
  refine Att.attach_call hn hdf fun w s₀ s₁ mg mb fa o pm cd doc a vs ns G Y ho hd hcd hmg hobj hints hlen hg=>?_
  have KX:=hY w _ Y
  obtain ⟨fd,hb,hF⟩:=F w mg fa _ KX G.T.g hmg
  exact law_call KX G.T.g G.T.b G.T.builtins G.T.nolimit hg hobj hints (Nat.le_trans hlen hn2) hr hF hb (fun H hO hS=>hsp w H a ns hlen hO hS) fun H e s'=>hCX w H s₁ e s'
end L2
namespace L2
open PySem PySem.Spec PyProof.Rows
def zec (s:Stmt) (j:Nat):Stmt:=match s with
 | .ClassDef _ _ _ body _ _ _ _ _ _ _=>body.getD j (.Pass ⟨0,0,0,0⟩)
 | _=>.Pass ⟨0,0,0,0⟩
def zas (s:Stmt):Arguments:=match s with
 | .FunctionDef _ a _ _ _ _ _ _ _ _=>a
 | _=>{ posonlyargs:=[],args:=[],vararg:=none,kwonlyargs:=[],kw_defaults:=[],kwarg:=none,defaults:=[] }
def zar (s:Stmt):List Stmt:=match s with
 | .FunctionDef _ _ b _ _ _ _ _ _ _=>b
 | _=>[]
def zag (s:Stmt):Scope:=match s with
 | .FunctionDef _ _ _ _ _ _ sc _ _ _=>sc
 | _=>{ kind:=.function,names:=[],isGenerator:=false,isCoroutine:=false }
abbrev CX0:CXT:=fun _ _ _ _ _ _=>False
abbrev E0:XK:=fun _ _ _=>False
structure Fun (K:PySem.W.Frag) (x qual:Str) (st:Stmt) (f:Addr) (fd:FuncData):Prop where
 ex:∃ (oc:Value) (od:Option Addr) (kV doc pm:Value) (an:Option Addr) (cdv ct:Value) (osl:Array (Option Value)),
  fd=PySem.W.fnOf x qual (zas st) (zar st) (zag st) .none kV doc pm an cdv ct/\K.lookup f=some ⟨oc,od,.func fd,osl⟩/\PySem.W.codeIn K cdv qual=true
 kp:PySem.W.keepIn K (.ref f)=true
section
variable {P:Program} {w:World} {K:PySem.W.Frag} {mg:Str->Option Value} {base:Heap}
theorem Fun.ok {x qual:Str} {st:Stmt} {f:Addr} {fd:FuncData} {N ps:List Str} {k:Nat} {sp:Sp} (F:Fun K x qual st f fd) (S:FnScope N ps (zag st)) (len:∀ vs H Q E,sp vs H Q E->vs.length=ps.length)
    (hbody:∀ (cdv:Value) (A:Around) (outer:List Env) (s:Shared) (H:Hp) (vs:List V) (Q:VK) (E:XK),Room k (A.deeper (envOfC qual (zag st) s.heap.objs.size f cdv))->sp vs H Q E ->
      ∃ t,PSs (cxOf CX0 P w K mg base N qual (zag st) f cdv A outer s H E).nox (zar st) t/\t { nx:=fun _ H'=>Q .non H',rt:=Q } (start N vs) H):FnOk P w K mg base CX0 (k+1) f fd ps sp:=by
  obtain ⟨oc,od,kV,doc,pm,an,cdv,ct,osl,rfl,lk,hcd⟩:=F.ex
  refine fn_of lk hcd S len fun A outer s H vs Q E hr hsp=>?_
  obtain ⟨t,h,q⟩:=hbody cdv A outer s H vs Q E hr hsp
  exact ⟨t,h.nox,q⟩
theorem Fun.binds {x qual:Str} {st:Stmt} {f:Addr} {fd:FuncData} {ps:List Str} (F:Fun K x qual st f fd)
    (h:∀ (kV doc pm:Value) (an:Option Addr) (cdv ct:Value) (us:List Value),us.length=ps.length->bindArgs (PySem.W.fnOf x qual (zas st) (zar st) (zag st) .none kV doc pm an cdv ct) ⟨us,[]⟩ = pure (ps.zip us)):Binds K fd ps []:=by
  obtain ⟨oc,od,kV,doc,pm,an,cdv,ct,osl,rfl,lk,hcd⟩:=F.ex
  exact .all (h kV doc pm an cdv ct)
theorem zba {x qual:Str} {st:Stmt} {f:Addr} {oc:Value} {od an:Option Addr} {osl:Array (Option Value)} {kV doc pm cdv ct:Value} (l:K.lookup f=some ⟨oc,od,.func (PySem.W.fnOf x qual (zas st) (zar st) (zag st) .none kV doc pm an cdv ct),osl⟩)
    (c:PySem.W.codeIn K cdv qual=true) (k:PySem.W.keepIn K (.ref f)=true):Fun K x qual st f (PySem.W.fnOf x qual (zas st) (zar st) (zag st) .none kV doc pm an cdv ct):=⟨⟨oc,od,kV,doc,pm,an,cdv,ct,osl,rfl,l,c⟩,k⟩
end
theorem hu_of {A:Around} {k:Nat} (hr:Room k A):A.units+1<cLine:=Nat.lt_of_le_of_lt (Nat.add_le_add_left (by decide:1<=64) _) hr.units
section
variable {X:Cx}
theorem pv (i:Nat) {x:Str} {pos:Pos} (hN:X.N[i]? = some x:=by rfl) (hv:Vis X.env.scope x:=by first | exact Or.inl rfl | exact Or.inr (Or.inl rfl) | exact Or.inr (Or.inr rfl)) (hd:(x == ("__debug__" : Str))=false:=by decide)
    (hcd:(x == ("__classdict__" : Str))=false:=by decide):PE X (.Name x pos) (tVar i):=zwa hN hv hd hcd
end
theorem ite2 {c A B:Prop} [Decidable c] (h1:c->A) (h2:¬ c->B):if c then A else B:=by
 by_cases h:c
 ·rw [if_pos h]
  exact h1 h
 ·rw [if_neg h]
  exact h2 h
def Same (H H':Hp):Prop:=∀ b o,H b=some o->H' b=some o
theorem Same.refl (H:Hp):Same H H:=fun _ _ h=>h
theorem Same.trans {H H1 H2:Hp} (a:Same H H1) (b:Same H1 H2):Same H H2:=fun c o h=>b c o (a c o h)
theorem Same.free {H H':Hp} (e:Same H H') {l:Addr} (h:H' l=Option.none):H l=Option.none:=by
 cases q:H l with
 | none=>rfl
 | some o =>
  rw [e l o q] at h
  cases h
theorem Same.seq {K:PySem.W.Frag} {H H':Hp} {a:Addr} {xs:List V} (e:Same H H') (h:SqL K H a xs):SqL K H' a xs:=by
 rcases h with (h | ⟨o,h⟩) | h
 ·exact .inl (.inl (e _ _ h))
 ·exact .inl (.inr ⟨o,e _ _ h⟩)
 ·exact .inr h
end L2
set_option maxHeartbeats 4000000
namespace L2
open PySem PySem.Spec PyProof.Rows
theorem elc {α:Type} {P:List α->Prop} {n:Nat} (h:∀ x r,r.length=n->P (x :: r)):∀ us:List α,us.length=n+1->P us
 | [],e=>absurd e (by simp)
 | x :: r,e=>h x r (by simpa using e)
theorem el0 {α:Type} {P:List α->Prop} (h:P []):∀ us:List α,us.length = 0->P us
 | [],_=>h
 | _ :: _,e=>absurd e (by simp)
theorem el1 {α:Type} {P:List α->Prop} (h:∀ x0,P [x0]):∀ us:List α,us.length = 1->P us:=elc fun x r e=>el0 (P:=fun r=>P (x :: r)) (h x) r e
theorem el2 {α:Type} {P:List α->Prop} (h:∀ x0 x1,P [x0,x1]):∀ us:List α,us.length = 2->P us:=elc fun x r e=>el1 (P:=fun r=>P (x :: r)) (h x) r e
theorem el3 {α:Type} {P:List α->Prop} (h:∀ x0 x1 x2,P [x0,x1,x2]):∀ us:List α,us.length = 3->P us:=elc fun x r e=>el2 (P:=fun r=>P (x :: r)) (h x) r e
theorem el4 {α:Type} {P:List α->Prop} (h:∀ x0 x1 x2 x3,P [x0,x1,x2,x3]):∀ us:List α,us.length = 4->P us:=elc fun x r e=>el3 (P:=fun r=>P (x :: r)) (h x) r e
theorem el5 {α:Type} {P:List α->Prop} (h:∀ x0 x1 x2 x3 x4,P [x0,x1,x2,x3,x4]):∀ us:List α,us.length = 5->P us:=elc fun x r e=>el4 (P:=fun r=>P (x :: r)) (h x) r e
end L2
namespace Sw
def dv (a b:Int):Int:=(Int.gcd a b:Nat)
theorem dv_nn (a b:Int):0<=dv a b:=Int.natCast_nonneg _
theorem dv_l (a b:Int):dv a b ∣ a:=Int.gcd_dvd_left a b
theorem dv_r (a b:Int):dv a b ∣ b:=Int.gcd_dvd_right a b
theorem zua (a b:Int):dv a b=dv b a:=by unfold dv; rw [Int.gcd_comm]
theorem zpm (a b:Int):dv (-a) b=dv a b:=by unfold dv; rw [Int.neg_gcd]
theorem zpn (a b:Int):dv a (-b)=dv a b:=by unfold dv; rw [Int.gcd_neg]
theorem dv_zero (a:Int) (h:0<=a):dv a 0=a:=by
 unfold dv; rw [Int.gcd_zero_right]; omega
theorem zwj {a b:Int} (h:dv a b = 0):a = 0/\b = 0:=by
 unfold dv at h
 exact Int.gcd_eq_zero_iff.mp (by omega)
theorem dv_pos {a b:Int} (h:b≠0):0<dv a b:=by
 have:=dv_nn a b
 rcases Int.lt_or_eq_of_le this with q | q
 ·exact q
 ·exact absurd (zwj q.symm).2 h
theorem zta {a b c:Int} (h1:c ∣ a) (h2:c ∣ b):c ∣ dv a b:=Int.dvd_coe_gcd h1 h2
theorem zwk {a b c d:Int} (h:∀ x:Int,(x ∣ a/\x ∣ b)↔(x ∣ c/\x ∣ d)):dv a b=dv c d:=by
 have h1:dv a b ∣ dv c d:=zta ((h _).mp ⟨dv_l a b,dv_r a b⟩).1 ((h _).mp ⟨dv_l a b,dv_r a b⟩).2
 have h2:dv c d ∣ dv a b:=zta ((h _).mpr ⟨dv_l c d,dv_r c d⟩).1 ((h _).mpr ⟨dv_l c d,dv_r c d⟩).2
 exact Int.dvd_antisymm (dv_nn _ _) (dv_nn _ _) h1 h2
theorem dv_step (a b:Int):dv b (a % b)=dv a b:=by
 refine zwk fun x=>⟨fun ⟨h1,h2⟩=>⟨?_,h1⟩,fun ⟨h1,h2⟩=>⟨h2,?_⟩⟩
 ·have e:=Int.mul_ediv_add_emod a b
  rw [<- e]
  exact Int.dvd_add (Int.dvd_trans h1 (Int.dvd_mul_right b _)) h2
 ·rw [Int.emod_def]
  exact Int.dvd_sub h1 (Int.dvd_trans h2 (Int.dvd_mul_right b _))
theorem dv_abs (a b:Int):dv (if a<0 then -a else a) (if b<0 then -b else b)=dv a b:=by
 split <;> split <;> simp only [zpm,zpn]
theorem zrm (g a b:Int) (h:0<=g):dv (g*a) (g*b)=g*dv a b:=by
 unfold dv; rw [Int.gcd_mul_left]
 have:((g.natAbs*a.gcd b:Nat):Int)=(g.natAbs:Int)*(a.gcd b:Nat):=by simp
 rw [this]; congr 1; omega
theorem zub {a b:Int} (h:dv a b≠0):dv (a / dv a b) (b / dv a b) = 1:=by
 have hp:0<dv a b:=by have:=dv_nn a b; omega
 have e1:a=dv a b*(a / dv a b):=(Int.mul_ediv_cancel' (dv_l a b)).symm
 have e2:b=dv a b*(b / dv a b):=(Int.mul_ediv_cancel' (dv_r a b)).symm
 have e:dv a b=dv a b*dv (a / dv a b) (b / dv a b):=by
  have:=zrm (dv a b) (a / dv a b) (b / dv a b) (Int.le_of_lt hp)
  rw [<- e1,<- e2] at this
  exact this
 have e':dv a b*1=dv a b*dv (a / dv a b) (b / dv a b):=by rw [Int.mul_one]; exact e
 exact (Int.eq_of_mul_eq_mul_left (by omega) e').symm
structure Fr (n d:Int):Prop where
 pos:0<d
 low:dv n d = 1
theorem zkc {n d x:Int} (h:dv n d = 1) (q:d ∣ n*x):d ∣ x:=by
 have h':Nat.Coprime d.natAbs n.natAbs:=by
  unfold dv at h
  have:Int.gcd n d = 1:=by omega
  unfold Nat.Coprime
  rw [Nat.gcd_comm]; exact this
 have q':d.natAbs ∣ n.natAbs*x.natAbs:=by rw [<- Int.natAbs_mul]; exact Int.natAbs_dvd_natAbs.mpr q
 exact Int.natAbs_dvd_natAbs.mp (h'.dvd_of_dvd_mul_left q')
theorem Fr.uniq {n d m e:Int} (h:Fr n d) (k:Fr m e) (q:n*e=m*d):n=m/\d=e:=by
 have h1:d ∣ e:=zkc h.low ⟨m,by rw [q,Int.mul_comm]⟩
 have h2:e ∣ d:=zkc k.low ⟨n,by rw [<- q,Int.mul_comm]⟩
 have e1:d=e:=Int.dvd_antisymm (Int.le_of_lt h.pos) (Int.le_of_lt k.pos) h1 h2
 subst e1
 have:=h.pos
 exact ⟨Int.eq_of_mul_eq_mul_right (by omega) q,rfl⟩
def rN (t b:Int):Int:=if b<0 then t / (-(dv t b)) else t / dv t b
def rD (t b:Int):Int:=if b<0 then b / (-(dv t b)) else b / dv t b
theorem zwl {t b:Int}:rN t b*(if b<0 then -(dv t b) else dv t b)=t:=by
 unfold rN
 split
 ·exact Int.ediv_mul_cancel (Int.neg_dvd.mpr (dv_l t b))
 ·exact Int.ediv_mul_cancel (dv_l t b)
theorem zwm {t b:Int}:rD t b*(if b<0 then -(dv t b) else dv t b)=b:=by
 unfold rD
 split
 ·exact Int.ediv_mul_cancel (Int.neg_dvd.mpr (dv_r t b))
 ·exact Int.ediv_mul_cancel (dv_r t b)
theorem zpo {t b:Int} (h:b≠0):rN t b*b=rD t b*t:=by
 have e1:=zwl (t:=t) (b:=b)
 have e2:=zwm (t:=t) (b:=b)
 generalize (if b<0 then -(dv t b) else dv t b)=c at e1 e2
 calc rN t b*b=rN t b*(rD t b*c):=by rw [e2]
  _=rD t b*(rN t b*c):=by rw [<- Int.mul_assoc,<- Int.mul_assoc,Int.mul_comm (rN t b)]
  _=rD t b*t:=by rw [e1]
theorem zwn {t b:Int} (h:b≠0):Fr (rN t b) (rD t b):=by
 have hp:=dv_pos (a:=t) h
 refine ⟨?_,?_⟩
 ·unfold rD
  by_cases hb:b<0
  ·rw [if_pos hb,Int.ediv_neg]
   obtain ⟨k,hk⟩:=dv_r t b
   have:b / dv t b=k:=Int.ediv_eq_of_eq_mul_right (by omega) hk
   rw [this]
   rcases Int.lt_or_le k 0 with q | q
   ·omega
   ·have:=Int.mul_nonneg (Int.le_of_lt hp) q; omega
  ·rw [if_neg hb]
   obtain ⟨k,hk⟩:=dv_r t b
   have:b / dv t b=k:=Int.ediv_eq_of_eq_mul_right (by omega) hk
   rw [this]
   rcases Int.lt_or_le 0 k with q | q
   ·exact q
   ·have:=Int.mul_nonneg_of_nonpos_of_nonpos (a:=-(dv t b)) (b:=k) (by omega) q
    rw [Int.neg_mul] at this
    omega
 ·have q:=zub (a:=t) (b:=b) (by omega)
  unfold rN rD
  by_cases hb:b<0
  ·rw [if_pos hb,if_pos hb,Int.ediv_neg,Int.ediv_neg,zpm,zpn]; exact q
  ·rw [if_neg hb,if_neg hb]; exact q
def Sz (n:Nat) (x:Int):Prop:=x.natAbs<2 ^ n
theorem Sz.mono {m n:Nat} {x:Int} (h:Sz m x) (hm:m<=n):Sz n x:=Nat.lt_of_lt_of_le h (Nat.pow_le_pow_right (by decide) hm)
theorem Sz.mul {m n:Nat} {x y:Int} (h:Sz m x) (k:Sz n y):Sz (m+n) (x*y):=by
 unfold Sz at *
 rw [Int.natAbs_mul,Nat.pow_add]
 by_cases hy:y.natAbs = 0
 ·rw [hy,Nat.mul_zero]; exact Nat.mul_pos (Nat.two_pow_pos m) (Nat.two_pow_pos n)
 ·exact Nat.mul_lt_mul_of_lt_of_lt h k
theorem Sz.neg {n:Nat} {x:Int} (h:Sz n x):Sz n (-x):=by unfold Sz at *; omega
theorem Sz.le {n:Nat} {x y:Int} (h:Sz n y) (k:x.natAbs<=y.natAbs):Sz n x:=Nat.lt_of_le_of_lt k h
theorem Sz.zero (n:Nat):Sz n 0:=Nat.two_pow_pos n
theorem Sz.dvd {n:Nat} {x y:Int} (h:Sz n y) (d:x ∣ y) (hy:y≠0):Sz n x:=by
 refine h.le ?_
 exact Nat.le_of_dvd (by omega) (Int.natAbs_dvd_natAbs.mpr d)
end Sw
namespace Sw
theorem Sz.lit {x:Int} (h:x.natAbs<1606938044258990275541962092341162602522202993782792835301376):Sz 5000 x:=by
 have e:(2:Nat) ^ 200 = 1606938044258990275541962092341162602522202993782792835301376:=by decide
 exact Nat.lt_of_lt_of_le (by rw [e]; exact h) (Nat.pow_le_pow_right (by decide) (by decide:200<=5000))
end Sw
namespace Sw
theorem Sz.r60 {x:Int} (h1:-1000000000000000000000000000000000000000000000000000000000000<x) (h2:x<1000000000000000000000000000000000000000000000000000000000000):Sz 200 x:=by
 have e:(2:Nat) ^ 200 = 1606938044258990275541962092341162602522202993782792835301376:=by decide
 unfold Sz; rw [e]; omega
end Sw
namespace Sw
theorem Sz.r18 {x:Int} (h1:-100000000000000000000<x) (h2:x<100000000000000000000):Sz 70 x:=by
 have e:(2:Nat) ^ 70 = 1180591620717411303424:=by decide
 unfold Sz; rw [e]; omega
theorem Sz.one (n:Nat):Sz (n+1) 1:=by
 unfold Sz
 exact Nat.lt_of_lt_of_le (by decide:Int.natAbs 1<2 ^ 1) (Nat.pow_le_pow_right (by decide) (by omega))
end Sw
namespace L2
open PySem PySem.Spec PyProof.Rows
theorem zjd {n:Nat} {x:Int} (h:Sw.Sz n x):Builtin.Int.intBits x<=n:=by
 unfold Builtin.Int.intBits
 split
 ·exact Nat.zero_le _
 ·rename_i hx
  have hx':x≠0:=by simpa using hx
  have:x.natAbs.log2<n:=(Nat.log2_lt (by omega)).mpr h
  omega
def CMulL (i j:Int):Prop:=Sw.Sz 5000 i/\Sw.Sz 5000 j
def CDivL (i j:Int):Prop:=0<j/\Sw.Sz 5000 j
def CDivS (i j:Int):Prop:=j≠0/\Sw.Sz 5000 j
theorem zkw {i j:Int} (h0:j≠0) (h:Sw.Sz 5000 j):Builtin.divisionGoesByPylong i j=false:=by
 refine PyProof.noPylong_of_log2 ?_
 have:j.natAbs.log2<5000:=(Nat.log2_lt (by omega)).mpr h
 omega
section
variable {X:Cx}
theorem zdg:OpR X (binaryOp .Mult) (rI CMulL fun i j=>.int (i*j)):=opI fun _ _ _ _ _ _ _ hc q =>
 mul_int q (IntMulOk.of_bits (Nat.le_trans (zjd hc.1) (by decide)) (Nat.le_trans (zjd hc.2) (by decide)))
theorem znd:OpR X (binaryOp .FloorDiv) (rI CDivL fun i j=>.int (i / j)):=opI fun i j _ _ _ _ _ hc q=>by
 have h1:(0:Int)<j:=hc.1
 exact floordiv_int (by omega) (by rw [Int.fdiv_eq_ediv_of_nonneg i (by omega)]; exact q) (.inl (zkw (by omega) hc.2))
theorem zne:OpR X (binaryOp .FloorDiv) (rI CDivS fun i j=>.int (i.fdiv j)):=opI fun _ _ _ _ _ _ _ hc q=>floordiv_int hc.1 q (.inl (zkw hc.1 hc.2))
def clsV:V->Option Value
 | .ty n=>some (.type n)
 | .ref a=>some (.ref a)
 | _=>none
theorem zmd:CallR X (.builtin "isinstance") (fun xs H Q=>∃ x c t cv b,xs = [x,c]/\clsV c=some cv/\TyOf X.K H x t/\PySem.W.kitOne X.K t cv=some b/\Q (.bl b) H):=by
 intro pins s σ H xs us Q I r h
 obtain ⟨x,c,t,cv,b,rfl,hc,ty,e,q⟩:=h
 obtain ⟨u,v,rfl,rx,rc⟩:=Vals.two r
 have ec:v=cv:=by
  cases c with
  | ty n=>cases (show v=Value.type n from rc); exact Option.some.inj hc
  | ref a=>cases (show v=Value.ref a from rc); exact Option.some.inj hc
  | _=>cases hc
 subst ec
 exact zpg I rx ty e fun tk=>⟨.bl b,H,I.tok _,rfl,q⟩
structure Def (P:Program) (w:World) (K:PySem.W.Frag) (mg:Str->Option Value) (base:Heap) (CX:CXT) (k:Nat) (x:Str) (ps:List Str) (sp:Sp):Prop where
 ex:∃ (f:Addr) (fd:FuncData),FnOk P w K mg base CX k f fd ps sp/\Binds K fd ps []/\PySem.W.keepIn K (.ref f)=true/\mg x=some (.ref f)
structure Src (K:PySem.W.Frag) (mg:Str->Option Value) (x:Str) (st:Stmt) (ps:List Str):Prop where
 ex:∃ (f:Addr) (fd:FuncData),Fun K x x st f fd/\Binds K fd ps []/\mg x=some (.ref f)
end
end L2
namespace L2
theorem zkx {c:TT} {tb:TS} {D:Ends} {σ:St} {H:Hp} (Pv:St->Hp->Prop) (μ:St->Hp->Nat) (h0:Pv σ H)
    (hs:∀ σ H,Pv σ H->∃ b:Bool,(∀ Q:Bool->Hp->Prop,Q b H->c σ H Q)/\(b=true->tb { D with nx:=fun σ' H'=>Pv σ' H'/\μ σ' H' < μ σ H,ct:=fun σ' H'=>Pv σ' H'/\μ σ' H' < μ σ H,bk:=D.nx } σ H)/\(b=false->D.nx σ H)):ziz c tb D σ H:=by
  refine ⟨fun m σ H=>m = μ σ H/\Pv σ H,⟨_,rfl,h0⟩,?_⟩
  rintro m σ H ⟨rfl,p⟩
  obtain ⟨b,hc,h1,h2⟩:=hs σ H p
  refine hc _ ?_
  cases b with
  | true=>exact ⟨_,fun σ' H' ⟨p',l⟩=>⟨_,l,rfl,p'⟩,h1 rfl⟩
  | false=>exact h2 rfl
end L2
namespace L2
open PySem PySem.Spec PyProof.Rows
def spLaw (K:PySem.W.Frag):Sp:=fun vs H Q _=>∃ (a:Addr) (ns:List Int),vs = [.ref a]/\SqL K H a (ns.map V.int)/\ns.length<=63/\∀ H',Q (.bl true) H'
end L2
namespace L2
open PySem PySem.Spec PyProof.Rows
def spInt1 (g:Int->Int):Sp:=fun vs H Q _=>∃ a,vs = [.int a]/\Q (.int (g a)) H
def spInt2 (g:Int->Int->Int):Sp:=fun vs H Q _=>∃ a b,vs = [.int a,.int b]/\Q (.int (g a b)) H
def cellI (ns:List Int) (k:Int):Int:=(ns[k.toNat]?).getD 0
def ztb (K:PySem.W.Frag):Sp:=fun vs H Q _=>∃ a ns k,vs = [.ref a,.int k]/\SqL K H a (ns.map V.int)/\0<=k/\Q (.int (cellI ns k)) H
theorem zoe {ns:List Int} {k:Int} (h0:0<=k) (h:k<ns.length):atI (ns.map V.int) k=some (V.int (cellI ns k)):=by
 have e:((k.toNat:Nat):Int)=k:=by omega
 have hl:k.toNat<ns.length:=by omega
 have q:(ns.map V.int)[k.toNat]? = some (V.int (cellI ns k)):=by
  rw [List.getElem?_map]
  unfold cellI
  rw [List.getElem?_eq_getElem hl]
  rfl
 have:=zcc q
 rw [e] at this
 exact this
theorem zme {ns:List Int} {k:Int} (h0:0<=k) (h:¬ k<ns.length):cellI ns k = 0:=by
 unfold cellI
 rw [List.getElem?_eq_none (by omega)]
 rfl
def spWhole:Sp:=fun vs H Q _=>∃ n,vs = [.int n]/\Q (.bl true) H
end L2
namespace L2
theorem zad {t u:TS} {D:Ends} {σ:St} {H:Hp} (h:∀ R:St->Hp->Prop,(∀ σ H,u D σ H->R σ H)->t { D with nx:=R } σ H):tSeq t u D σ H:=h (u D) fun _ _ x=>x
end L2
namespace L2
open PySem PySem.Spec PyProof.Rows
theorem zky {K:PySem.W.Frag} {H:Hp} {a:Addr} {ns:List Int} {k:Int} {Q:VK} {E:XK} (hS:SqL K H a (ns.map V.int)) (h0:0<=k) (q:Q (.int (cellI ns k)) H):ztb K [.ref a,.int k] H Q E:=⟨a,ns,k,rfl,hS,h0,q⟩
end L2
namespace L2
theorem cmulL_lit {a b:Int} (h1:a.natAbs<1606938044258990275541962092341162602522202993782792835301376) (h2:b.natAbs<1606938044258990275541962092341162602522202993782792835301376):CMulL a b:=⟨Sw.Sz.lit h1,Sw.Sz.lit h2⟩
theorem cdivL_lit {a b:Int} (h0:0<b) (h2:b.natAbs<1606938044258990275541962092341162602522202993782792835301376):CDivL a b:=⟨h0,Sw.Sz.lit h2⟩
end L2
namespace L2
open PySem
theorem line_lit {n:Nat} (h:n<=1000):n<=sizeLine:=Nat.le_trans h (by decide)
theorem line_lt {n:Nat} (h:n<1000):n<sizeLine:=Nat.lt_of_lt_of_le h (by decide)
end L2
namespace L2
open PySem
theorem zaq {K:PySem.W.Frag} {H:Hp} {p:Addr} {xs:List V} {i:Int} {v:V} {Q:VK} (hT:SqT K H p xs) (h:atI xs i=some v) (q:Q v H):rIxT K (.ref p) (.int i) H Q:=⟨p,xs,i,v,rfl,rfl,hT,h,q⟩
theorem zcd {K:PySem.W.Frag} {H:Hp} {p:Addr} {xs:List V} {i:Int} {v:V} {Q:VK} (hT:SqL K H p xs) (h:atI xs i=some v) (q:Q v H):rIxL K (.ref p) (.int i) H Q:=⟨p,xs,i,v,rfl,rfl,hT,h,q⟩
end L2
namespace L2
open PySem PySem.Spec PyProof.Rows
end L2
namespace L2
theorem iteN {c A B:Prop} [Decidable c] (hc:¬ c) (h:B):if c then A else B:=by rw [if_neg hc]; exact h
end L2
namespace L2
end L2
namespace L2
open PySem PySem.Spec PyProof.Rows
mutual
inductive Deep (K:PySem.W.Frag) (H:Hp):V->PyData->Prop
 | non:Deep K H .non .none
 | bl (b:Bool):Deep K H (.bl b) (.bool b)
 | int (i:Int):Deep K H (.int i) (.int i)
 | str (x:Str):Deep K H (.str x) (.str x)
 | tup {a:Addr} {xs:List V} {ds:List PyData}:SqT K H a xs->DeepAll K H xs ds->Deep K H (.ref a) (.tuple ds)
 | lst {a:Addr} {xs:List V} {ds:List PyData}:SqL K H a xs->DeepAll K H xs ds->Deep K H (.ref a) (.list ds)
inductive DeepAll (K:PySem.W.Frag) (H:Hp):List V->List PyData->Prop
 | nil:DeepAll K H [] []
 | cons {x:V} {d:PyData} {xs:List V} {ds:List PyData}:Deep K H x d->DeepAll K H xs ds->DeepAll K H (x :: xs) (d :: ds)
end
section
variable {X:Cx} {pins:List (Addr×Obj)} {σ:St} {H:Hp} {s:Shared}
mutual
theorem zck (I:Inv X pins σ H s):∀ {x:V} {d:PyData} {u:Value},Deep X.K H x d->RelV x u->∃ as,Reads s.heap u d as
 | _,_,u,.non,r=>by cases (show u=Value.none from r); exact ⟨_,.none⟩
 | _,_,u,.bl b,r=>by cases (show u=Value.bool b from r); exact ⟨_,.bool b⟩
 | _,_,u,.int i,r=>by obtain ⟨t,rfl⟩:=(show ∃ t,u=Value.int i t from r); exact ⟨_,.int i t⟩
 | _,_,u,.str x,r=>by obtain ⟨t,rfl⟩:=(show ∃ t,u=Value.str x t from r); exact ⟨_,.str x t⟩
 | _,_,u,.tup (a:=a) q h,r=>by
  cases (show u=Value.ref a from r)
  obtain ⟨its,rv,⟨o,e,c,n,d⟩,hz⟩:=I.tuple q
  obtain ⟨as,ra⟩:=zet I h rv
  exact ⟨as,reads_tuple_at e c d (by simpa using ra)⟩
 | _,_,u,.lst (a:=a) q h,r=>by
  cases (show u=Value.ref a from r)
  obtain ⟨its,rv,⟨o,n,e,c,_,d⟩,hz⟩:=I.list q
  obtain ⟨as,ra⟩:=zet I h rv
  exact ⟨_,reads_list_at e c d (by simpa using ra)⟩
theorem zet (I:Inv X pins σ H s):∀ {xs:List V} {ds:List PyData} {us:List Value},DeepAll X.K H xs ds->Vals xs us->∃ as,ReadsAll s.heap us ds as
 | _,_,_,.nil,.nil=>⟨_,.nil⟩
 | _,_,_,.cons d h,.cons r t=>by
  obtain ⟨as,q⟩:=zck I d r
  obtain ⟨bs,p⟩:=zet I h t
  exact ⟨_,.cons q p⟩
end
end
section
variable {X:Cx}
def rNeD (K:PySem.W.Frag):R2:=fun x y H Q=>∃ d e,Deep K H x d/\Deep K H y e/\PySem.SeqAt.shaped d=true/\PySem.SeqAt.shaped e=true/\Q (.bl (!PyData.eqv d e)) H
theorem zwo (hu:X.A.units+64<cLine):OpR X (compareOp .NotEq) (rNeD X.K):=by
 intro pins s σ H x y v u Q I rx ry h
 obtain ⟨d,e,hd,he,sd,se,q⟩:=h
 obtain ⟨as,ra⟩:=zck I hd rx
 obtain ⟨bs,rb⟩:=zck I he ry
 exact ne_dataH ra rb sd se hu ⟨.bl _,H,I,rfl,q⟩
end
theorem Same.seqT {K:PySem.W.Frag} {H H':Hp} {a:Addr} {xs:List V} (e:Same H H') (h:SqT K H a xs):SqT K H' a xs:=by
 rcases h with h | h
 ·refine .inl ?_
  rcases h with h | ⟨o,h⟩
  ·exact .inl (e _ _ h)
  ·exact .inr ⟨o,e _ _ h⟩
 ·exact .inr h
theorem zaf {H:Hp} {a:Addr} {o:HO} (h:H a=none):Same H (upd H a o):=fun b u e=>by rw [zai (zah e h)]; exact e
end L2
namespace L2
open PySem PySem.Spec PyProof.Rows
def Ite (K:PySem.W.Frag) (a:Addr):It :=
  ⟨fun i H=>∃ xs x,SqL K H a xs/\xs[i]? = some x,
   fun i H y H'=>∃ p x,y = .ref p/\H p=none/\(∀ xs,SqL K H a xs->xs[i]? = some x)/\H'=upd H p (.tup [.int i,x]),
   fun i H=>∃ xs,SqL K H a xs/\xs.length<=i⟩
theorem zpp {P:Program} {w:World} {K:PySem.W.Frag} {elts:List Expr} {x1} {pos:Pos} (a e it:Addr) (hei:e≠it) :
    Turn P w K (.Tuple elts x1 pos) (Ite K a) [e,it] e (fun i h=>(∃ old,IsEnum h e it ((i:Nat):Int) old)/\h.IsListIter it a i) where
  mem:=by simp
  obj:=fun i h st b hb=>by
    obtain ⟨⟨old,he⟩,hit⟩:=st
    rcases List.mem_cons.mp hb with rfl | hb
    · exact ⟨_,he,fun v z=>by cases z⟩
    · have e:b=it:=by simpa using hb
      subst e
      obtain ⟨o,e,c,d⟩:=hit
      exact ⟨o,e,fun v z=>by rw [d] at z; cases z⟩
  keep:=fun i h h' st k=>by
    obtain ⟨⟨old,he⟩,hit⟩:=st
    exact ⟨⟨old,k e (by simp) _ he⟩,hit.at fun o q=>k it (by simp) o q⟩
  item:=by
    intro X hP hw hK hc i pins s σ H E I hf st hg
    subst hP hw hK
    obtain ⟨⟨old,he⟩,hit⟩:=st
    obtain ⟨xs,x,hq,hx⟩:=hg
    obtain ⟨its,rv,p,hz⟩:=I.list hq
    obtain ⟨u,hu,ru⟩:=rv.get hx
    obtain ⟨f0,f1,f2,f3,f4,f5⟩:=hf e (by simp)
    obtain ⟨g0,g1,g2,g3,g4,g5⟩:=hf it (by simp)
    have hes:e<s.heap.objs.size:=Heap.lt_size he
    have his:it<s.heap.objs.size:=by obtain ⟨o,q,_⟩:=id hit; exact Heap.lt_size q
    refine wpAny_pyNext_enum_item he hit p.isList (x:=u) (by simpa using hu) hei fun h1 heo hit1 ht1 hz1 hk1=>?_
    refine ⟨.ref s.heap.objs.size,rfl,wpAny_letOwnedTupleGo_enum heo fun h2 he2 hs2=>?_⟩
    have hs2':Heap.SameBut e h1 h2:=hs2
    have hit2:h2.IsListIter it a (i+1):=hit1.at fun o q=>(hs2'.2 it (Ne.symm hei)).trans q
    have fresh:H s.heap.objs.size=none:=I.hok.fresh (Nat.le_refl _)
    have htup:h2.get? s.heap.objs.size=some { cls:=.type "tuple", data:=.seq #[.int i s.toks,u] }:=(hs2'.2 _ (Nat.ne_of_gt hes)).trans ht1
    have nit:∀ b v,H b=some v->b≠e/\b≠it:=fun b v q=>⟨fun z=>(by rw [z,f0] at q; cases q),fun z=>(by rw [z,g0] at q; cases q)⟩
    have k2:∀ b o,b≠e->b≠it->s.heap.get? b=some o->h2.get? b=some o:=fun b o n1 n2 q=>(hs2'.2 b n1).trans (hk1 b o n1 n2 q)
    have up:∀ b o,H b=some o->(upd H s.heap.objs.size (.tup [.int i,x])) b=some o:=fun b o q=>by rw [zai (zah q fresh)]; exact q
    have I2:Inv X pins σ (upd H s.heap.objs.size (.tup [.int i,x])) { s with heap:=h2,toks:=s.toks+1 }:=by
      refine I.step (g':=s.gens) (d':=s.drawn) (ch:=[e,it]) (fun b hb=>?_) (fun b o _ _ hc q _=>k2 b o (fun z=>hc (by simp [z])) (fun z=>hc (by simp [z])) q)
        (fun b o _ _ hc q _=>⟨o.slots,k2 b o (fun z=>hc (by simp [z])) (fun z=>hc (by simp [z])) q⟩) (fun b o _ q n=>by rw [zai (Nat.ne_of_lt (Heap.lt_size q))]; exact n)
        (fun b o hc q=>?_) (fun b ys q=>up b _ q) (fun b ob v q=>up b _ q) (fun b ps q=>⟨#[],by rw [up b _ q]; simp⟩) (fun m hm=>?_) (fun b v q=>?_) I.bare
      · rcases List.mem_cons.mp hb with rfl | hb
        · exact ⟨f3,f1,f4,f5⟩
        · have z:b=it:=by simpa using hb
          subst z
          exact ⟨g3,g1,g4,g5⟩
      · exact ⟨o,k2 b o (fun z=>hc (by simp [z])) (fun z=>hc (by simp [z])) q⟩
      · obtain ⟨o,es,ep,ho,r⟩:=hm
        exact ⟨o,es,ep,k2 _ o (Ne.symm f1) (Ne.symm g1) ho,r⟩
      · by_cases hb:b=s.heap.objs.size
        · subst hb
          rw [zab] at q
          cases q
          exact ⟨by show 2<=sizeLine; decide,[.int i s.toks,u],.cons ⟨_,rfl⟩ (.cons ru .nil),_,htup,rfl,_,rfl⟩
        · rw [zai hb] at q
          refine (I.hok b v q).stay (fun c v' hc q'=>?_) (fun c z=>up c _ z) fun c ys z=>up c _ z
          have hcn:c≠e/\c≠it:=by
            rcases hc with z | z
            · rw [z]; exact nit b v q
            · exact nit c _ z
          exact k2 c v' hcn.1 hcn.2 q'
    refine ⟨.ref s.heap.objs.size,_,I2,rfl,⟨s.heap.objs.size,x,rfl,fresh,fun ys hy=>by rw [I.list_inj hy hq]; exact hx,rfl⟩,⟨⟨u,by simpa using he2⟩,hit2⟩,fun b hb=>?_⟩
    rw [zai]
    · exact (hf b hb).1
    · intro z
      rcases List.mem_cons.mp hb with y | y
      · rw [y] at z; exact absurd z (Nat.ne_of_lt hes)
      · have y:b=it:=by simpa using y
        rw [y] at z; exact absurd z (Nat.ne_of_lt his)
  done:=by
    intro X hP hw hK hc i pins s σ H E I hf st hg
    subst hP hw hK
    obtain ⟨⟨old,he⟩,hit⟩:=st
    obtain ⟨xs,hq,hx⟩:=hg
    obtain ⟨its,rv,p,hz⟩:=I.list hq
    obtain ⟨g0,g1,g2,g3,g4,g5⟩:=hf it (by simp)
    have hl:=rv.length
    exact wpAny_pyNext_enum_end (I.ok.hd hc) he hit p.isList (by simp; omega) fun h' eb=>⟨rfl,I.turned (t':=s.toks) (fun b o hb q=>eb b o hb q) g0 g1 g3 g4 g5⟩
  self:=fun _ _ _ _ _ st h=>by
    obtain ⟨⟨old,he⟩,_⟩:=st
    exact wpAny_pyIter_enum he h
section
variable {X:Cx}
def iEnum (K:PySem.W.Frag) (ta:TA):TI:=fun σ H R=>ta σ H fun vs H1=>∃ a,vs = [.ref a]/\(∃ xs,SqL K H1 a xs)/\R (Ite K a) H1
theorem zuc {l:Expr} {ta:TA} {p pos tpos:Pos} {elts:List Expr} {x1} (hg:Gl X "enumerate") (hm:X.mg "enumerate" = none) (ha:PA X [l] ta) (hs:starEach [l] X.env = [(false,eval l X.env)]:=by rfl) :
    PI X (.Tuple elts x1 tpos) (.Call (.Name "enumerate" p) [l] [] pos) (iEnum X.K ta):=by
  intro pins s σ H R I h
  refine Call_ (zht I hg hm boot_enumerate (PyProof.Rows.callWith_type1 (thn (ha pos pins s σ H _ I h) fun us s1 ⟨vs,H1,I1,r1,q1⟩=>?_) hs rfl))
  obtain ⟨a,rfl,⟨xs,hq⟩,q⟩:=q1
  obtain ⟨u,rfl,r⟩:=Vals.one r1
  cases r
  obtain ⟨its,rv,p,hz⟩:=I1.list hq
  refine call_enumerate_list p.isList fun h' he hit hsz hk=>?_
  refine wpAny_pyIter_enum he ?_
  refine ⟨s1.heap.objs.size+1,[s1.heap.objs.size+1,s1.heap.objs.size],_,_,H1,rfl,I1.kept (t':=s1.toks) hk,zpp a _ _ (Nat.succ_ne_self _),⟨⟨_,he⟩,hit⟩,fun b hb=>?_,q⟩
  rcases List.mem_cons.mp hb with e | e
  · subst e; exact I1.fpOk (Nat.le_succ _) (I1.hok.fresh (Nat.le_succ _))
  · have e:b=s1.heap.objs.size:=by simpa using e
    subst e
    exact I1.fpOk (Nat.le_refl _) (I1.hok.fresh (Nat.le_refl _))
end
theorem zkd {K:PySem.W.Frag} {a:Addr} {xs:List V} {g:TG} {tb:TS} {D:Ends} {σ:St} {H:Hp} (Pv:Nat->St->Hp->Prop) (h0:Pv 0 σ H) (hl:∀ i σ H,i<=xs.length->Pv i σ H->SqL K H a xs)
    (hs:∀ i x σ H p,xs[i]? = some x->Pv i σ H->H p=none->g (.ref p) σ (upd H p (.tup [.int i,x])) fun σ2 H2=>tb { D with nx:=Pv (i+1),ct:=Pv (i+1),bk:=D.nx } σ2 H2) (hd:∀ σ H,Pv xs.length σ H->D.nx σ H) :
    ∃ W:Nat->Nat->St->Hp->Prop,(∃ m,W 0 m σ H)/\∀ i m σ H,W i m σ H ->
      ((Ite K a).stop i H/\D.nx σ H)\/((Ite K a).go i H/\∃ N:St->Hp->Prop,(∀ σ' H',N σ' H'->∃ m',m' < m/\W (i+1) m' σ' H')/\∀ x H',(Ite K a).yld i H x H'->g x σ H' fun σ2 H2=>tb { D with nx:=N,ct:=N,bk:=D.nx } σ2 H2):=by
  refine ⟨fun i m σ H=>m=xs.length-i/\i<=xs.length/\Pv i σ H,⟨xs.length,by simp,Nat.zero_le _,h0⟩,?_⟩
  rintro i m σ H ⟨rfl,hi,p⟩
  have q:=hl i σ H hi p
  by_cases hlt:i<xs.length
  · refine .inr ⟨⟨xs,xs[i],q,by simp [hlt]⟩,Pv (i+1),fun σ' H' p'=>⟨xs.length-(i+1),by omega,rfl,hlt,p'⟩,fun y H' z=>?_⟩
    obtain ⟨b,x,rfl,hb,hx,rfl⟩:=z
    exact hs i x σ H b (hx xs q) p hb
  · have e:i=xs.length:=by omega
    subst e
    exact .inl ⟨⟨xs,q,Nat.le_refl _⟩,hd σ H p⟩
section
variable {prog:Program} {w:World} {A:Around} {R:Result->Shared->Prop} {s:Shared}
theorem zcu {elt target iter:Expr} {ifs:List Expr} {scope:Scope} {pos:Pos} {it acc:Value} {env:Env} (I:Nat->Shared->Prop)
    (turn:∀ n s,I n s->wpAny (model prog w) A (pyNext it) (fun r s₁=>match r with
      | none=>R (.ok .next) s₁
      | some v=>wpAny (model prog w) A (letOwnedTupleGo target it v) (fun _ s₁'=>wpAny (model prog w) A (assign target env v) (fun _ s₂ =>
          wpAny (model prog w) A (forIn ifs true fun c r=>if r=true then do let ok <- isTrue c env (eval c env); pure (ForInStep.yield ok) else pure (ForInStep.yield r)) (fun ok s₃ =>
            if ok=true then wpAny (model prog w) A (eval elt env) (fun x s₄ =>
              wpAny (model prog w) A (call (.builtin "list.append") [acc,x]) (fun _ s₅=>∃ m,m<n/\I m s₅) (notedBy (model prog w) A env fun e s'=>R (.error e) s') s₄) (notedBy (model prog w) A env fun e s'=>R (.error e) s') s₃
            else ∃ m,m<n/\I m s₃) (notedBy (model prog w) A env fun e s'=>R (.error e) s') s₂) (notedBy (model prog w) A env fun e s'=>R (.error e) s') s₁') (notedBy (model prog w) A env fun e s'=>R (.error e) s') s₁) (notedBy (model prog w) A env fun e s'=>R (.error e) s') s)
    (n:Nat) (h:I n s) :
    codeAny (model prog w) A (.compLoop (.ListComp elt [⟨target,iter,ifs,0⟩] scope pos) 0 it acc env) R s:=by
  refine codeAny_loop rfl I (fun n s hI=>?_) n h
  show wpAny _ A ((compTurn (.ListComp elt [⟨target,iter,ifs,0⟩] scope pos) 0 it acc env).onRaise (fun x=>do noteFrame x env; theTreesLotGoes x)) _ _ s
  refine wpAny_noted ?_
  rw [compTurn_list]
  refine wpAny_bind (wpAny_standAt (wpAny_bind (wpAny_mono (turn n s hI) (fun r s₁ h₁=>?_) fun _ _ h'=>h')))
  cases r with
  | none=>exact wpAny_pure h₁
  | some v =>
    refine wpAny_bind (wpAny_mono h₁ (fun _ s₁' h₁'=>?_) fun _ _ h'=>h')
    refine wpAny_bind (wpAny_mono h₁' (fun _ s₂ h₂=>wpAny_bind (wpAny_mono h₂ (fun ok s₃ h₃=>?_) fun _ _ h'=>h')) fun _ _ h'=>h')
    cases ok with
    | false=>exact wpAny_pure ⟨rfl,h₃⟩
    | true =>
      exact wpAny_bind (wpAny_bind (wpAny_mono h₃ (fun x s₄ h₄=>wpAny_bind (wpAny_mono h₄ (fun _ s₅ h₅=>wpAny_pure (wpAny_pure ⟨rfl,h₅⟩)) fun _ _ h'=>h')) fun _ _ h'=>h'))
end
def zbr (X:Cx) (scope:Scope) (cl:List (Str×Addr)) (N:List Str) (fp:List Addr) (s:Shared) (H:Hp):Cx :=
 { X with N:=N,s₀:=s,H₀:=H,env:=compEnvC scope cl s.heap.objs.size X.env,outer:=X.stack,stack:=X.stack,ex:=fp,fn:=fun _=>false,pn:=[],xe:=fun _ _=>False }
def FrOk (X:Cx) (sc:Scope):List (Str×Nat)->Prop
 | []=>True
 | p :: r=>(X.N[p.2]? = some p.1/\sc.names.lookup p.1=some .cell/\X.env.kindOf p.1=some .cell)/\FrOk X sc r
theorem FrOk.mem {X:Cx} {sc:Scope}:∀ {l:List (Str×Nat)},FrOk X sc l->∀ p∈l,X.N[p.2]? = some p.1/\sc.names.lookup p.1=some .cell/\X.env.kindOf p.1=some .cell
 | [],_,p,hp=>nomatch hp
 | q :: r,h,p,hp=>by
  rcases List.mem_cons.mp hp with e | hp
  ·rw [e]; exact h.1
  ·exact FrOk.mem h.2 p hp
def PIfs (X:Cx) (ifs:List Expr) (t:TT):Prop :=
 ∀ (pins:List (Addr×Obj)) (s:Shared) (σ:St) (H:Hp) (Q:Bool->Hp->Prop),Inv X pins σ H s->t σ H Q ->
  wpAny (model X.prog X.w) X.A (forIn ifs true fun c r=>if r=true then do let ok <- isTrue c X.env (eval c X.env); pure (ForInStep.yield ok) else pure (ForInStep.yield r)) (TP X pins σ Q) X.xe s
def tYes:TT:=fun _ H Q=>Q true H
theorem zbs {X:Cx}:PIfs X [] tYes:=fun _ _ _ H _ I h=>wpAny_tests_nil ⟨H,I,h⟩
theorem zga {X:Cx} {c:Expr} {t:TT} (hc:PT X c t):PIfs X [c] t:=fun pins s σ H Q I h=>wpAny_tests_one (hc pins s σ H Q I h)
def tComp (nt:Nat) (fr:List (Str×Nat)) (wi:TI) (g:TG) (tc:TT) (te:TE):TE:=fun σ H Q=>wi σ H fun J H1=>∀ D,H1 D=none->∃ W:Nat->Nat->St->Hp->Prop,
 (∃ m,W 0 m (List.replicate nt none++fr.map fun p=>(σ[p.2]?).join) (upd H1 D (.lst [])))/\∀ i m τ H',W i m τ H' ->
  (J.stop i H'/\Q (.ref D) H')\/(J.go i H'/\∃ N:St->Hp->Prop,(∀ τ' H'',N τ' H''->∃ m',m' < m/\W (i+1) m' τ' H'') /\
   ∀ x H2,J.yld i H' x H2->g x τ H2 fun τ2 H3=>tc τ2 H3 fun b H4=>if b=true then te τ2 H4 fun y H5=>∃ ys,H5 D=some (.lst ys)/\ys.length<sizeLine/\N τ2 (upd H5 D (.lst (ys++[y]))) else N τ2 H4)
section
variable {X:Cx}
theorem znf {scope:Scope} {cl:List (Str×Addr)} {ts:List Str} {fr:List (Str×Nat)} {fp:List Addr} {pins:List (Addr×Obj)} {σ:St} {H:Hp} {s:Shared} {h':Heap} {m:Str->Option Value} {t':Nat} (I:Inv X pins σ H s)
    (hkind:scope.kind = .function) (hcl:∀ x c,cl.lookup x=some c->X.env.cells.lookup x=some c)
    (hhas:∀ x,((relabel scope X.env).names.lookup x=some .cell\/(relabel scope X.env).names.lookup x=some .free)->∃ c,cl.lookup x=some c) (hfr:FrOk X (relabel scope X.env) fr)
    (hfp:∀ b∈fp,FpOk X pins H b/\b<s.heap.objs.size) (hn:h'.Ns s.heap.objs.size m) (hk:∀ b o,s.heap.get? b=some o->h'.get? b=some o) :
    Inv (zbr X scope cl (ts++fr.map (·.1)) fp s H) [] (List.replicate ts.length none++fr.map fun p=>(σ[p.2]?).join) H { s with heap:=h',toks:=t' }:=by
  have cellK:∀ c v,s.heap.IsCell c v->h'.IsCell c v:=fun c v ⟨o,ho,hd⟩=>⟨o,hk c o ho,hd⟩
  refine ⟨⟨I.ok.mod,hkind,I.ok.glob,I.ok.blt,Nat.le_refl _,fun x y c h1 h2=>I.ok.inj x y c (hcl x c h1) (hcl y c h2),hhas,fun x c h=>(by cases h),I.ok.hd,I.ok.frames,.inl rfl,fun b hb=>?_,I.bs,Nat.le_trans I.ok.bsz I.sz,fun b o e hb=>?_,fun b hb z=>?_,I.stack,I.stkFree⟩,
    rfl,I.bare,Un.kept hk,⟨m,hn,fun i x v e1 e2 e3=>?_⟩,fun x c e=>?_,I.hok.fresh (Nat.le_refl _),fun x c e=>I.freeC x c (hcl x c e),fun p hp=>absurd (show p∈([]:List (Addr×Obj)) from hp) (by simp),I.hok.kept hk,?_⟩
  · obtain ⟨f,lt⟩:=hfp b hb
    exact ⟨Nat.ne_of_lt lt,fun x c e=>f.2.2.2.2.1 x c (hcl x c e)⟩
  · obtain ⟨f,lt⟩:=hfp b hb
    rcases f.2.2.2.1 with z | z
    · exact I.ok.noex b o e z
    · exact absurd (Nat.lt_of_lt_of_le (Heap.lt_size e) (Nat.le_trans I.ok.bsz z)) (Nat.lt_irrefl _)
  · obtain ⟨f,lt⟩:=hfp b hb
    rcases List.mem_cons.mp (I.stkSub b z) with y | y
    · exact f.2.1 y
    · exact f.2.2.1 y
  · have hlen:(List.replicate ts.length (none:Option V)).length=ts.length:=by simp
    by_cases hi:i<ts.length
    · rw [List.getElem?_append_left (by rw [hlen]; exact hi),List.getElem?_replicate,if_pos hi] at e2
      cases e2
    · rw [List.getElem?_append_right (by rw [hlen]; omega),hlen,List.getElem?_map] at e2
      have e1':(ts++fr.map (·.1))[i]? = some x:=e1
      rw [List.getElem?_append_right (by omega),List.getElem?_map] at e1'
      cases ep:fr[i-ts.length]? with
      | none=>rw [ep] at e2; cases e2
      | some p =>
        rw [ep] at e1' e2
        have ex:p.1=x:=Option.some.inj e1'
        have ev:(σ[p.2]?).join=some v:=Option.some.inj e2
        obtain ⟨a1,a2,a3⟩:=hfr.mem p (List.mem_of_getElem? ep)
        have ev':σ[p.2]? = some (some v):=by
          cases q:σ[p.2]? with
          | none=>rw [q] at ev; cases ev
          | some o=>rw [q] at ev; cases o with
            | none=>cases ev
            | some v'=>cases ev; rfl
        obtain ⟨m',hn',hl'⟩:=I.loc
        obtain ⟨u,ru,lk⟩:=hl' p.2 p.1 v a1 ev' (.inr (.inl a3))
        subst ex
        refine ⟨u,ru,?_⟩
        rcases lk with ⟨z,_⟩ | ⟨_,c,ec,z⟩
        · rw [z] at a3; cases a3
        · obtain ⟨c',ec'⟩:=hhas p.1 (.inl a2)
          have ecc:c'=c:=Option.some.inj ((hcl _ _ ec').symm.trans ec)
          exact .inr ⟨.inl a2,c',ec',(by rw [ecc]; exact cellK _ _ z)⟩
  · obtain ⟨v,z⟩:=I.cell x c (hcl x c e)
    exact ⟨v,cellK _ _ z⟩
  · show _=(ts++fr.map (·.1)).length
    simp
theorem zud {elt target iter:Expr} {ifs:List Expr} {scope:Scope} {pos:Pos} {cl:List (Str×Addr)} {ts:List Str} {fr:List (Str×Nat)} {wi:TI} {g:TG} {tc:TT} {te:TE} (hcalm:X.calm=true)
    (hclos:closureFor scope X.env=pure cl) (hcell:∀ y∈scope.names,y.2≠.cell) (hkind:scope.kind = .function) (hnames:∀ y∈scope.names,y.2 = .local->scope.names.lookup y.1=some .local)
    (hcl:∀ x c,cl.lookup x=some c->X.env.cells.lookup x=some c)
    (hhas:∀ x,((relabel scope X.env).names.lookup x=some .cell\/(relabel scope X.env).names.lookup x=some .free)->∃ c,cl.lookup x=some c) (hfr:FrOk X (relabel scope X.env) fr)
    (hi:PI X target iter wi) (hg:∀ fp s H,PG (zbr X scope cl (ts++fr.map (·.1)) fp s H) target g) (hc:∀ fp s H,PIfs (zbr X scope cl (ts++fr.map (·.1)) fp s H) ifs tc)
    (he:∀ fp s H,PE (zbr X scope cl (ts++fr.map (·.1)) fp s H) elt te) (hs:∀ x,foldedSetIterable iter X.env x=pure x:=by intro _; rfl) :
    PE X (.ListComp elt [⟨target,iter,ifs,0⟩] scope pos) (tComp ts.length fr wi g tc te):=by
  intro pins s σ H Q I h
  rw [eval_ListComp]
  refine wpAny_comprehension_free (use:=none) rfl hs hclos hkind hnames (thn (hi pins s σ H _ I h) fun xv s1 h1=>thn h1 fun itv s2 h2=>?_)
  obtain ⟨it,fp,tn,J,H2,rfl,I2,T,st2,f2,hR⟩:=h2
  have D0:H2 s2.heap.objs.size=none:=I2.hok.fresh (Nat.le_refl _)
  obtain ⟨W,⟨m0,w0⟩,turn⟩:=hR s2.heap.objs.size D0
  refine wpAny_newObj_type (wpAny_newFunctionEnv hcell (by intro y hy; simp at hy) (fun h₁ hns₁ hsb₁=>?_) hkind)
  dsimp only at hns₁ hsb₁ ⊢
  have I3:Inv X pins σ (upd H2 s2.heap.objs.size (.lst [])) { s2 with heap:=s2.heap.push { cls:=.type "list", dict:=none,data:=.seq ([]:List Value).toArray } } :=
    I2.laid (t':=s2.toks) (fun _ _ q=>Heap.get?_push_of_some _ q) (Nat.le_refl _) ⟨Nat.zero_le _,[],0,.nil,Heap.get?_push_size _ rfl⟩
  have kp3:∀ b o,s2.heap.get? b=some o->(s2.heap.push { cls:=.type "list", dict:=none,data:=.seq ([]:List Value).toArray }).get? b=some o:=fun b o q=>Heap.get?_push_of_some _ q
  have sz3:(s2.heap.push { cls:=.type "list", dict:=none,data:=.seq ([]:List Value).toArray }).objs.size=s2.heap.objs.size+1:=Heap.size_push ..
  generalize s2.heap.push { cls:=.type "list", dict:=none,data:=.seq ([]:List Value).toArray } = hp3 at hns₁ hsb₁ I3 kp3 sz3 ⊢
  have kp:∀ b o,hp3.get? b=some o->h₁.get? b=some o:=fun b o e=>hsb₁.extBut b o (Nat.ne_of_lt (Heap.lt_size e)) (Heap.get?_push_of_some _ e)
  have flt:∀ b∈fp,b<s2.heap.objs.size:=fun b hb=>by
    obtain ⟨o,e,_⟩:=T.obj _ _ st2 b hb
    exact Heap.lt_size e
  have fr3:∀ b∈fp,(upd H2 s2.heap.objs.size (.lst [])) b=none:=fun b hb=>by rw [zai (Nat.ne_of_lt (flt b hb))]; exact (f2 b hb).1
  have f3:∀ b∈fp,FpOk X pins (upd H2 s2.heap.objs.size (.lst [])) b/\b<hp3.objs.size:=fun b hb=>⟨⟨fr3 b hb,(f2 b hb).2⟩,by rw [sz3]; exact Nat.lt_succ_of_lt (flt b hb)⟩
  have I4:=znf (ts:=ts) (t':=s2.toks+([]:List (Str×Value)).length) I3 hkind hcl hhas hfr f3 hns₁ kp
  have st4:tn 0 h₁:=T.keep _ _ _ st2 fun b hb o e=>kp b o (kp3 b o e)
  have loop:codeAny (model X.prog X.w) X.A (.compLoop (.ListComp elt [⟨target,iter,ifs,0⟩] scope pos) 0 (.ref it) (.ref s2.heap.objs.size) (compEnvC scope cl hp3.objs.size X.env))
      (compPost (model X.prog X.w) X.A X.xe none (EP X pins σ Q) (.ref s2.heap.objs.size) hp3.objs.size) { s2 with heap:=h₁,toks:=s2.toks+([]:List (Str×Value)).length }:=by
    refine zcu (fun n s'=>∃ i τ H',Inv (zbr X scope cl (ts++fr.map (·.1)) fp { s2 with heap:=hp3 } (upd H2 s2.heap.objs.size (.lst []))) [] τ H' s'/\tn i s'.heap/\(∀ b∈fp,H' b=none)/\W i n τ H') ?_ m0 ⟨0,_,_,I4,st4,fr3,w0⟩
    rintro n s5 ⟨i,τ,H5,I5,st5,fr5,w5⟩
    have stat:∀ {H':Hp},(∀ b∈fp,H' b=none)->∀ b∈fp,FpOk (zbr X scope cl (ts++fr.map (·.1)) fp { s2 with heap:=hp3 } (upd H2 s2.heap.objs.size (.lst []))) [] H' b :=
      fun hn b hb=>⟨hn b hb,(I5.ok.exf b hb).1,I5.ok.exfs b hb,.inl hb,(I5.ok.exf b hb).2,fun p hp=>absurd (show p∈([]:List (Addr×Obj)) from hp) (by simp)⟩
    rcases turn i n τ H5 w5 with ⟨stop,qn⟩ | ⟨go,Nn,hN,step⟩
    · refine thn (T.done (zbr X scope cl (ts++fr.map (·.1)) fp { s2 with heap:=hp3 } (upd H2 s2.heap.objs.size (.lst []))) rfl rfl rfl hcalm i [] s5 τ H5 _ I5 (stat fr5) st5 stop) fun r s6 ⟨hr,I6⟩=>?_
      subst hr
      obtain ⟨m,hn,_⟩:=I6.loc
      refine ⟨m,hn,fun h' hs'=>⟨.ref s2.heap.objs.size,H5,?_,rfl,qn⟩⟩
      have neC:∀ b o,hp3.get? b=some o->b≠hp3.objs.size:=fun b o e=>Nat.ne_of_lt (Heap.lt_size e)
      have hs'':Heap.SameBut hp3.objs.size s6.heap h':=hs'
      refine I3.call' (s':={ s6 with heap:=h' }) (ch:=fp) I6.os ⟨fun b o e n hb hx=>?_,fun b o e n hb hx=>?_,I6.base.free,fun b o e hx=>?_,I6.base.tups,I6.base.frzs,I6.base.tbls⟩ (fun b ob e=>?_) I6.bare (fun b hb=>?_)
      · exact (hs''.2 b (neC b o e)).trans (I6.base.keep b o e n hb hx)
      · obtain ⟨sl,q⟩:=I6.base.slot b o e n hb hx
        exact ⟨sl,(hs''.2 b (neC b o e)).trans q⟩
      · obtain ⟨o',q⟩:=I6.base.there b o e hx
        exact ⟨o',(hs''.2 b (neC b o e)).trans q⟩
      · refine (I6.hok b ob e).stay (fun c v hc q=>(hs''.2 c ?_).trans q) (fun _ q=>q) fun _ _ q=>q
        intro z
        have fz:H5 hp3.objs.size=none:=I6.free
        rcases hc with y | y
        · rw [<- y,z,fz] at e; cases e
        · rw [z,fz] at y; cases y
      · exact ⟨(f2 b hb).2.2.2.1,(f2 b hb).2.1,(f2 b hb).2.2.2.2.1,(f2 b hb).2.2.2.2.2⟩
    · refine thn (T.item (zbr X scope cl (ts++fr.map (·.1)) fp { s2 with heap:=hp3 } (upd H2 s2.heap.objs.size (.lst []))) rfl rfl rfl hcalm i [] s5 τ H5 _ I5 (stat fr5) st5 go) fun r s6 ⟨u,hr,h6⟩=>?_
      subst hr
      refine thn h6 fun _ s7 ⟨x,H7,I7,r7,y7,st7,fr7⟩=>?_
      have I7':=I7.pinned (stat fr7) (T.obj _ _ st7)
      refine wpAny_mono (hg fp _ _ _ s7 τ H7 x u _ I7' r7 (step x H7 y7)) (fun _ s8 ⟨τ8,H8,I8,q8⟩=>?_) fun _ _ z=>False.elim z
      have again:∀ {τ9:St} {H9:Hp} {s9:Shared},Inv (zbr X scope cl (ts++fr.map (·.1)) fp { s2 with heap:=hp3 } (upd H2 s2.heap.objs.size (.lst []))) ([]++zhv fp s7.heap) τ9 H9 s9->Nn τ9 H9 ->
          ∃ m,m<n/\∃ i τ H',Inv (zbr X scope cl (ts++fr.map (·.1)) fp { s2 with heap:=hp3 } (upd H2 s2.heap.objs.size (.lst []))) [] τ H' s9/\tn i s9.heap/\(∀ b∈fp,H' b=none)/\W i m τ H':=fun {τ9 H9 s9} I9 n9=>by
        obtain ⟨m',hm,w9⟩:=hN τ9 H9 n9
        refine ⟨m',hm,i+1,τ9,H9,I9.unpinned,T.keep _ _ _ st7 fun b hb o e=>(I9.pin (b,o) (List.mem_append_right _ (List.mem_append_right _ (zcz hb e)))).1,fun b hb=>?_,w9⟩
        obtain ⟨o,e,d⟩:=T.obj _ _ st7 b hb
        exact (I9.pin (b,o) (List.mem_append_right _ (List.mem_append_right _ (zcz hb e)))).2.1
      refine wpAny_mono (hc fp _ _ _ s8 τ8 H8 _ I8 q8) (fun ok s9 ⟨H9,I9,q9⟩=>?_) fun _ _ z=>False.elim z
      cases ok with
      | false=>exact again I9 q9
      | true =>
        refine wpAny_mono (he fp _ _ _ s9 τ8 H9 _ I9 q9) (fun y s10 ⟨v,H10,I10,rv,ys,hD,hl,qN⟩=>?_) fun _ _ z=>False.elim z
        refine wpAny_mono (zaz (X:=zbr X scope cl (ts++fr.map (·.1)) fp { s2 with heap:=hp3 } (upd H2 s2.heap.objs.size (.lst []))) _ s10 τ8 H10 (.ref s2.heap.objs.size) [v] (.ref s2.heap.objs.size) [y] (fun _ H=>Nn τ8 H) I10 rfl (.cons rv .nil) ⟨_,ys,v,rfl,rfl,hD,hl,qN⟩) (fun _ s11 ⟨_,H11,I11,_,q11⟩=>again I11 q11) fun _ _ z=>False.elim z
  exact codeAny_compStart_list loop (T.self X.A 0 _ _ _ st4 loop)
end
end L2
namespace L2
open PySem PySem.Spec PyProof.Rows
section
variable {X:Cx} {tg:Expr}
theorem zau (K:PySem.W.Frag) (h:X.K=K):IxR X (rIxL K):=h ▸ zty
theorem zam (K:PySem.W.Frag) (h:X.K=K):IxR X (rIxT K):=h ▸ zwh
theorem zng (K:PySem.W.Frag) (h:X.K=K):SlR X (rSlL K):=h ▸ ztz
def rLen (K:PySem.W.Frag):List V->Hp->VK->Prop:=fun xs H Q=>∃ p ys,xs = [.ref p]/\(SqL K H p ys\/SqT K H p ys)/\Q (.int ys.length) H
theorem zkz (K:PySem.W.Frag) (h:X.K=K):CallR X (.builtin "len") (rLen K):=h ▸ zku
def rLst (K:PySem.W.Frag):List V->Hp->VK->Prop:=fun xs H Q=>∃ p ys,xs = [.ref p]/\(SqL K H p ys\/SqT K H p ys)/\∀ l,H l=none->Q (.ref l) (upd H l (.lst ys))
theorem zje (K:PySem.W.Frag) (h:X.K=K):CallR X (.type "list") (rLst K):=h ▸ zkv
def rInst (K:PySem.W.Frag):List V->Hp->VK->Prop:=fun xs H Q=>∃ x c t cv b,xs = [x,c]/\clsV c=some cv/\TyOf K H x t/\PySem.W.kitOne K t cv=some b/\Q (.bl b) H
theorem zla (K:PySem.W.Frag) (h:X.K=K):CallR X (.builtin "isinstance") (rInst K):=h ▸ zmd
theorem zci (K:PySem.W.Frag) (h:X.K=K) {es:List Expr} {k:Nat} {pos:Pos} {t:TGs} {n:Nat} (hc:X.calm=true) (hq:PGs X es t)
    (hn:(assignEach es X.env).length=n:=by rfl) (hst:(assignEach es X.env).findIdx? (·.1)=none:=by rfl):PG X (.Tuple es k pos) (gTup K n t):=h ▸ zwd hc hq hn hst
theorem zav (K:PySem.W.Frag) (h:X.K=K) {l:Expr} {tl:TE} (hl:PE X l tl):PI X tg l (iList K tl):=h ▸ ztr hl
theorem zke (K:PySem.W.Frag) (h:X.K=K) {l:Expr} {ta:TA} {p pos tpos:Pos} {elts:List Expr} {x1} (hg:Gl X "enumerate") (hm:X.mg "enumerate" = none) (ha:PA X [l] ta) (hs:starEach [l] X.env = [(false,eval l X.env)]:=by rfl) :
    PI X (.Tuple elts x1 tpos) (.Call (.Name "enumerate" p) [l] [] pos) (iEnum K ta):=h ▸ zuc hg hm ha hs
end
def ClOk (env:Env):List (Str×Addr)->Prop
 | []=>True
 | p :: r=>env.cells.lookup p.1=some p.2/\ClOk env r
theorem ClOk.get {env:Env}:∀ {cl:List (Str×Addr)},ClOk env cl->∀ x c,cl.lookup x=some c->env.cells.lookup x=some c
 | [],_,x,c,e=>by cases e
 | p :: r,h,x,c,e=>by
  obtain ⟨k,a⟩:=p
  rw [List.lookup_cons] at e
  by_cases q:x=k
  ·subst q
   rw [beq_self_eq_true] at e
   cases e
   exact h.1
  ·rw [beq_eq_false_iff_ne.mpr q] at e
   exact ClOk.get h.2 x c e
def clAll (ns:List (Str×NameKind)) (cl:List (Str×Addr)):Bool:=ns.all fun y=>match y.2 with
 | .cell=>(cl.lookup y.1).isSome
 | .free=>(cl.lookup y.1).isSome
 | _=>true
theorem zib {ns:List (Str×NameKind)} {cl:List (Str×Addr)} (h:clAll ns cl=true) (x:Str) (q:ns.lookup x=some .cell\/ns.lookup x=some .free):∃ c,cl.lookup x=some c:=by
 unfold clAll at h
 rw [List.all_eq_true] at h
 rcases q with q | q
 ·have:=h _ (PySem.mem_of_lookup q)
  exact Option.isSome_iff_exists.mp this
 ·have:=h _ (PySem.mem_of_lookup q)
  exact Option.isSome_iff_exists.mp this
theorem pe_lc {X:Cx} {elt target iter:Expr} {ifs:List Expr} {scope:Scope} {pos:Pos} {cl:List (Str×Addr)} (ts:List Str) (fr:List (Str×Nat)) {wi:TI} {g:TG} {tc:TT} {te:TE} (hcalm:X.calm=true)
    (hclos:closureFor scope X.env=pure cl) (hcell:∀ y∈scope.names,y.2≠.cell) (hkind:scope.kind = .function) (hnames:∀ y∈scope.names,y.2 = .local->scope.names.lookup y.1=some .local)
    (hcl:ClOk X.env cl) (hhas:clAll (relabel scope X.env).names cl=true) (hfr:FrOk X (relabel scope X.env) fr)
    (hi:PI X target iter wi) (hg:∀ fp s H,PG (zbr X scope cl (ts++fr.map (·.1)) fp s H) target g) (hc:∀ fp s H,PIfs (zbr X scope cl (ts++fr.map (·.1)) fp s H) ifs tc)
    (he:∀ fp s H,PE (zbr X scope cl (ts++fr.map (·.1)) fp s H) elt te) (hs:∀ x,foldedSetIterable iter X.env x=pure x:=by intro _; rfl) :
    PE X (.ListComp elt [⟨target,iter,ifs,0⟩] scope pos) (tComp ts.length fr wi g tc te) :=
  zud hcalm hclos hcell hkind hnames hcl.get (fun x q=>zib hhas x q) hfr hi hg hc he hs
end L2
namespace L2
open PySem PySem.Spec PyProof.Rows
def rSum (K:PySem.W.Frag):List V->Hp->VK->Prop:=fun xs H Q=>∃ (p:Addr) (ns:List Int),xs = [.ref p]/\SqL K H p (ns.map V.int)/\Q (.int ns.sum) H
section
variable {X:Cx}
theorem zgb (K:PySem.W.Frag) (h:X.K=K) (hc:X.calm=true):CallR X (.builtin "sum") (rSum K):=by
 subst h
 intro pins s σ H xs us Q I r h
 obtain ⟨p,ns,rfl,hq,q⟩:=h
 obtain ⟨u,rfl,ru⟩:=vals1 r
 cases (show u=Value.ref p from ru)
 obtain ⟨its,rv,hp,hz⟩:=I.list hq
 have hi:=zgt rv
 obtain ⟨zs,e⟩:=hi.allInts.items
 have hl:=hp.isList
 rw [e] at hl
 refine sum_intListG (I.ok.hd hc) hl fun h' tk t' hk=>⟨.int ns.sum,H,I.kept (t':=tk) hk,⟨t',?_⟩,q⟩
 rw [preSum_eq,List.take_of_length_le (by simp)]
 have:=hi.numsOf
 rw [show its=its.toArray.toList from rfl,e,nums_intItems] at this
 rw [<- this]
end
end L2
namespace L2
open PySem PySem.Spec PyProof.Rows
def CompG (J:It) (g:TG) (tc:TT) (te:TE) (D:Addr) (τ:St) (H:Hp) (Q:VK):Prop :=
 ∃ W:Nat->Nat->St->Hp->Prop,(∃ m,W 0 m τ H)/\∀ i m τ H',W i m τ H' ->
  (J.stop i H'/\Q (.ref D) H')\/(J.go i H'/\∃ N:St->Hp->Prop,(∀ τ' H'',N τ' H''->∃ m',m' < m/\W (i+1) m' τ' H'') /\
   ∀ x H2,J.yld i H' x H2->g x τ H2 fun τ2 H3=>tc τ2 H3 fun b H4=>if b=true then te τ2 H4 fun y H5=>∃ ys,H5 D=some (.lst ys)/\ys.length<sizeLine/\N τ2 (upd H5 D (.lst (ys++[y]))) else N τ2 H4)
theorem tComp_eq {nt:Nat} {fr:List (Str×Nat)} {wi:TI} {g:TG} {tc:TT} {te:TE} {σ:St} {H:Hp} {Q:VK} :
    tComp nt fr wi g tc te σ H Q=wi σ H fun J H1=>∀ D,H1 D=none->CompG J g tc te D (List.replicate nt none++fr.map fun p=>(σ[p.2]?).join) (upd H1 D (.lst [])) Q:=rfl
theorem zbb {K:PySem.W.Frag} {a:Addr} {xs:List V} {g:TG} {tc:TT} {te:TE} {D:Addr} {τ:St} {H:Hp} {Q:VK} (Pv:Nat->St->Hp->Prop) (h0:Pv 0 τ H) (hl:∀ i τ H,i<=xs.length->Pv i τ H->SqL K H a xs)
    (hs:∀ i x τ H,xs[i]? = some x->Pv i τ H->g x τ H fun τ2 H3=>tc τ2 H3 fun b H4=>if b=true then te τ2 H4 fun y H5=>∃ ys,H5 D=some (.lst ys)/\ys.length<sizeLine/\Pv (i+1) τ2 (upd H5 D (.lst (ys++[y]))) else Pv (i+1) τ2 H4)
    (hd:∀ τ H,Pv xs.length τ H->Q (.ref D) H) :
    CompG (Itl K a) g tc te D τ H Q:=by
  refine ⟨fun i m τ H=>m=xs.length-i/\i<=xs.length/\Pv i τ H,⟨xs.length,by simp,Nat.zero_le _,h0⟩,?_⟩
  rintro i m τ H ⟨rfl,hi,p⟩
  have q:=hl i τ H hi p
  by_cases hlt:i<xs.length
  · refine .inr ⟨⟨xs,xs[i],q,by simp [hlt]⟩,Pv (i+1),fun τ' H' p'=>⟨xs.length-(i+1),by omega,rfl,hlt,p'⟩,fun x H2 z=>?_⟩
    obtain ⟨rfl,hx⟩:=z
    exact hs i x τ H2 (hx xs q) p
  · have e:i=xs.length:=by omega
    subst e
    exact .inl ⟨⟨xs,q,Nat.le_refl _⟩,hd τ H p⟩
theorem zlb {α:Type} {xs:List α} {i:Nat} {x:α} (h:xs[i]? = some x):xs.take (i+1)=xs.take i++[x]:=by
 rw [List.take_add_one,h]; rfl
theorem zpq {K:PySem.W.Frag} {a:Addr} {xs:List V} {g:TG} {tc:TT} {te:TE} {D:Addr} {v0:Option V} {caps:St} {H:Hp} {Q:VK} (F:V->Option V) (hD:H D=none) (hS:SqL K H a xs) (hlen:xs.length<=1000)
    (hs:∀ x∈xs,∀ (v:Option V) (H':Hp) (C:V->St->Hp->Prop) (N:St->Hp->Prop),Same H H'->(∀ y,F x=some y->C y (some x :: caps) H')->(F x=none->N (some x :: caps) H') ->
      g x (v :: caps) H' fun τ2 H3=>tc τ2 H3 fun b H4=>if b=true then te τ2 H4 fun y H5=>C y τ2 H5 else N τ2 H4)
    (hd:Q (.ref D) (upd H D (.lst (xs.filterMap F)))) :
    CompG (Itl K a) g tc te D (v0 :: caps) (upd H D (.lst [])) Q:=by
  refine zbb (xs:=xs) (fun i τ H'=>(∃ v,τ = v :: caps)/\H'=upd H D (.lst ((xs.take i).filterMap F))) ⟨⟨_,rfl⟩,by simp⟩ (fun i τ H' _ ⟨_,e⟩=>by rw [e]; exact (zaf hD).seq hS) ?_ ?_
  · rintro i x τ H' hx ⟨⟨v,rfl⟩,rfl⟩
    have hi:i<xs.length:=(List.getElem?_eq_some_iff.mp hx).1
    refine hs x (List.mem_of_getElem? hx) v _ (fun y τ2 H5=>∃ ys,H5 D=some (.lst ys)/\ys.length<sizeLine/\(∃ v,τ2=v :: caps)/\upd H5 D (.lst (ys++[y]))=upd H D (.lst ((xs.take (i+1)).filterMap F)))
      (fun τ2 H4=>(∃ v,τ2=v :: caps)/\H4=upd H D (.lst ((xs.take (i+1)).filterMap F))) (zaf hD) (fun y e=>?_) fun e=>?_
    · refine ⟨_,zab,line_lt ?_,⟨_,rfl⟩,?_⟩
      · have:=List.length_filterMap_le F (xs.take i)
        rw [List.length_take] at this
        omega
      · rw [zjw,zlb hx,List.filterMap_append]; simp [e]
    · refine ⟨⟨_,rfl⟩,?_⟩
      rw [zlb hx,List.filterMap_append]; simp [e]
  · rintro τ H' ⟨_,rfl⟩
    rw [List.take_length]; exact hd
abbrev Q4:=Int×Int×Int×Int
def q4 (q:Q4):List V:=[.int q.1,.int q.2.1,.int q.2.2.1,.int q.2.2.2]
def q4D (q:Q4):PyData:=.tuple [.int q.1,.int q.2.1,.int q.2.2.1,.int q.2.2.2]
abbrev Tups (H:Hp):List Addr->List Q4->Prop:=Paired fun p q=>H p=some (.tup (q4 q))
theorem Tups.len {H:Hp} {ps:List Addr} {qs:List Q4} (h:Tups H ps qs):ps.length=qs.length:=Paired.length h
theorem Tups.nil {H:Hp}:Tups H [] []:=Paired.nil
theorem Tups.same {H H':Hp} {ps:List Addr} {qs:List Q4} (h:Tups H ps qs) (e:Same H H'):Tups H' ps qs:=Paired.mapP h fun _ _ q=>e _ _ q
theorem Tups.keep {H H':Hp} {ps:List Addr} {qs:List Q4} (h:Tups H ps qs) (e:∀ p xs,H p=some (.tup xs)->H' p=some (.tup xs)):Tups H' ps qs:=Paired.mapP h fun _ _ q=>e _ _ q
theorem Tups.snoc {H:Hp} {t:Addr} {q:Q4} (ht:H t=some (.tup (q4 q))):∀ {ps:List Addr} {qs:List Q4},Tups H ps qs->Tups H (ps++[t]) (qs++[q])
 | _,_,Paired.nil=>.cons ht .nil
 | _,_,Paired.cons a b=>.cons a (Tups.snoc ht b)
theorem Tups.get {H:Hp}:∀ {ps:List Addr} {qs:List Q4} {i:Nat} {p:Addr},Tups H ps qs->ps[i]? = some p->∃ q,qs[i]? = some q/\H p=some (.tup (q4 q))
 | _,_,_,_,Paired.nil,e=>by simp at e
 | _,_,0,_,Paired.cons a _,e=>by simp at e; subst e; exact ⟨_,rfl,a⟩
 | _,_,i+1,_,Paired.cons _ b,e=>by
  obtain ⟨q,h1,h2⟩:=Tups.get (i:=i) b (by simpa using e)
  exact ⟨q,by simpa using h1,h2⟩
theorem Tups.deep {K:PySem.W.Frag} {H:Hp}:∀ {ps:List Addr} {qs:List Q4},Tups H ps qs->DeepAll K H (ps.map V.ref) (qs.map q4D)
 | _,_,Paired.nil=>.nil
 | _,_,Paired.cons a b=>.cons (.tup (.of a) (.cons (.int _) (.cons (.int _) (.cons (.int _) (.cons (.int _) .nil))))) (Tups.deep b)
structure Row (H:Hp) (l:Addr) (ps:List Addr) (qs:List Q4):Prop where
 hl:H l=some (.lst (ps.map V.ref))
 r:Tups H ps qs
theorem Row.same {H H':Hp} {l:Addr} {ps:List Addr} {qs:List Q4} (R:Row H l ps qs) (e:Same H H'):Row H' l ps qs:=⟨e _ _ R.hl,R.r.same e⟩
theorem zpr (ns:List Int) (lo hi:Option Int):∃ ms:List Int,cutV (ns.map V.int) lo hi=ms.map V.int/\ms.length<=ns.length:=by
 refine ⟨(ns.drop (HT.sIx (ns.map V.int).length 0 lo)).take (HT.sIx (ns.map V.int).length (ns.map V.int).length hi-HT.sIx (ns.map V.int).length 0 lo),?_,?_⟩
 ·unfold cutV; rw [List.map_take,List.map_drop]
 ·rw [List.length_take,List.length_drop]; omega
def spRow (K:PySem.W.Frag):Sp:=fun vs H Q _=>∃ (a:Addr) (ns:List Int) (few:Int),vs = [.ref a,.int few]/\SqL K H a (ns.map V.int)/\0<few/\ns.length<=63 /\
 ∀ H' l ps qs,Same H H'->H l=none->H' l=some (.lst (ps.map V.ref))->Tups H' ps qs->qs.length<=63->Q (.ref l) H'
mutual
theorem zhn:∀ d:PyData,d.canLay0=true->PyData.eqv d d=true
 | .none,_=>rfl
 | .bool b,_=>by simp [PyData.eqv]
 | .int i,_=>by simp [PyData.eqv]
 | .str x,_=>by simp [PyData.eqv]
 | .list xs,h=>by
  have h:PyData.canLayAll0 xs=true:=by simpa only [PyData.canLay0] using h
  simpa only [PyData.eqv] using zfu xs h
 | .tuple xs,h=>by
  have h:PyData.canLayAll0 xs=true:=by simpa only [PyData.canLay0] using h
  simpa only [PyData.eqv] using zfu xs h
 | .dict _,h=>by simp [PyData.canLay0] at h
theorem zfu:∀ ds:List PyData,PyData.canLayAll0 ds=true->PyData.eqvAll ds ds=true
 | [],_=>rfl
 | d :: r,h=>by
  simp only [PyData.canLayAll0,Bool.and_eq_true] at h
  simp only [PyData.eqvAll,Bool.and_eq_true]
  exact ⟨zhn d h.1,zfu r h.2⟩
end
theorem zjf {α:Type} {f:α->PyData} (h:∀ a,(f a).canLay0=true):∀ l:List α,PyData.canLayAll0 (l.map f)=true
 | []=>rfl
 | a :: r=>by simp only [List.map_cons,PyData.canLayAll0,h a,zjf h r,Bool.and_self]
theorem zlc {α:Type} {f:α->PyData} {n:Nat} (h:∀ a,(f a).depth<=n):∀ l:List α,PyData.depthAll (l.map f)<=n
 | []=>Nat.zero_le _
 | a :: r=>by
  have h1:=h a
  have h2:=zlc h r
  simp only [List.map_cons,PyData.depthAll]
  omega
theorem zmf {α:Type} {f:α->PyData} {n:Nat} (h:∀ a,(f a).canLay0=true) (hd:∀ a,(f a).depth<=n) (hn:n<64) (l:List α):PySem.SeqAt.shaped (.list (l.map f))=true:=by
 unfold PySem.SeqAt.shaped
 rw [Bool.and_eq_true,decide_eq_true_eq]
 refine ⟨by simpa only [PyData.canLay0] using zjf h l,?_⟩
 have:=zlc hd l
 simp only [PyData.depth]
 omega
theorem zue (q:Q4):(q4D q).canLay0=true:=rfl
theorem zps (q:Q4):(q4D q).depth<=1:=by simp [q4D,PyData.depth,PyData.depthAll]
theorem zof (qs:List Q4):PySem.SeqAt.shaped (.list (qs.map q4D))=true:=zmf zue zps (by decide) qs
end L2
namespace L2
open PySem PySem.Spec PyProof.Rows
end L2
namespace L2
open PySem PySem.Spec PyProof.Rows
section
variable {X:Cx}
theorem zuf (K:PySem.W.Frag) (h:X.K=K) (hu:X.A.units+64<cLine):OpR X (compareOp .NotEq) (rNeD K):=h ▸ zwo hu
end
theorem ne_at {K:PySem.W.Frag} {H:Hp} {x y:V} {d e:PyData} {Q:VK} (hx:Deep K H x d) (hy:Deep K H y e) (sd:PySem.SeqAt.shaped d=true) (se:PySem.SeqAt.shaped e=true) (q:Q (.bl (!PyData.eqv d e)) H):rNeD K x y H Q:=⟨d,e,hx,hy,sd,se,q⟩
theorem zug {K:PySem.W.Frag} {H:Hp} {x y:V} {d:PyData} {Q:VK} (hx:Deep K H x d) (hy:Deep K H y d) (sd:PySem.SeqAt.shaped d=true) (q:Q (.bl false) H):rNeD K x y H Q:=by
 refine ne_at hx hy sd sd ?_
 rw [zhn d (PySem.SeqAt.canLay_of_shaped sd)]; exact q
theorem zwp {K:PySem.W.Frag} {H:Hp} {p:Addr} {ys:List V} {Q:VK} (h:SqL K H p ys) (q:∀ l,H l=none->Q (.ref l) (upd H l (.lst ys))):rLst K [.ref p] H Q:=⟨p,ys,rfl,.inl h,q⟩
theorem zuh {K:PySem.W.Frag} {H:Hp} {p:Addr} {ys:List V} {Q:VK} (h:SqT K H p ys) (q:Q (.int ys.length) H):rLen K [.ref p] H Q:=⟨p,ys,rfl,.inr h,q⟩
theorem ztc {K:PySem.W.Frag} {H:Hp} {p:Addr} {xs:List V} {lo hi:Option Int} {Q:VK} (h:SqL K H p xs) (q:∀ l,H l=none->Q (.ref l) (upd H l (.lst (cutV xs lo hi)))):rSlL K (.ref p) lo hi H Q:=⟨p,xs,rfl,h,q⟩
theorem Row.copy {H:Hp} {l l':Addr} {ps:List Addr} {qs:List Q4} (R:Row H l ps qs) (h:H l'=none):Row (upd H l' (.lst (ps.map V.ref))) l' ps qs:=⟨zab,R.r.same (zaf h)⟩
end L2
namespace L2
open PySem PySem.Spec PyProof.Rows
section
variable {prog:Program} {w:World} {A:Around} {R:Result->Shared->Prop}
end
end L2
namespace L2
open PySem PySem.Spec PyProof.Rows
def XTr (B:Heap) (e:Addr) (h:Heap) (vs:Array Value):Option Value->Prop
 | none=>vs[1]? = some Value.none
 | some f=>∃ T oT ts,vs[1]? = some (.ref T)/\B.get? T=none/\T≠e/\h.get? T=some oT/\oT.data = .fields ts/\ts[3]? = some f
structure XAt (B:Heap) (e:Addr) (cls:Value) (dct:Option Addr) (fl:Option Value) (h:Heap):Prop where
 stay:B.StaysIn h
 new:B.get? e=none
 ex:∃ oe vs,h.get? e=some oe/\oe.cls=cls/\oe.dict=dct/\oe.data = .fields vs/\1<vs.size/\XTr B e h vs fl
structure UpS (h h':Heap):Prop where
 sl:∀ b o,h.get? b=some o->(∀ vs,o.data≠.fields vs)->∃ sl,h'.get? b=some { o with slots:=sl }
 th:∀ b o,h.get? b=some o->∃ o',h'.get? b=some o'
theorem UpS.trans {h h1 h2:Heap} (a:UpS h h1) (b:UpS h1 h2):UpS h h2:=by
 refine ⟨fun c o e n=>?_,fun c o e=>?_⟩
 ·obtain ⟨s1,e1⟩:=a.sl c o e n
  obtain ⟨s2,e2⟩:=b.sl c _ e1 n
  exact ⟨s2,e2⟩
 ·obtain ⟨o1,e1⟩:=a.th c o e
  exact b.th c o1 e1
theorem UpS.funs {h h' B:Heap} {l:List Env} (u:UpS h h') (f:h.FunFrames B l):h'.FunFrames B l:=f.of_keeps fun b o e n=>by
 obtain ⟨sl,q⟩:=u.sl b o e n
 exact ⟨_,q,rfl⟩
section
variable {M:Model} {A:Around} {E:Value->Shared->Prop} {s:Shared} {B:Heap} {env:Env} {outer:List Env} {L e:Addr} {cls:Value} {dct:Option Addr}
theorem znh {fl:Option Value} {head:Value} {b1:Bool} {Q:Unit->Shared->Prop} (fr:A.frames=some (env :: outer)) (ff:s.heap.FunFrames B (env :: outer)) (hf:env.frame=some L) (x:XAt B e cls dct fl s.heap)
    (h:∀ h',XAt B e cls dct (some (rawInt L)) h'->UpS s.heap h'->Q () { s with heap:=h' }) :
    wpAny M A (do let a <- frameOf env; let pl <- entryPlaceOf L b1; let b <- EntryCells.newEntry head a .none (rawInt L) .none pl; setField (.ref e) 1 b) Q E s:=by
  obtain ⟨stay,new,oe,vs,oe1,oe2,oe3,oe4,oe5,_⟩:=x
  have nf:e ∉ (env :: outer).filterMap (·.frame):=fun z=>by
    obtain ⟨_,o,q,n⟩:=ff.mem z
    rw [oe1] at q
    cases q
    exact n vs oe4
  refine wpAny_bind (wpAny_frameOf_fun fr ff hf fun h1 sl=>wpAny_bind (wpAny_entryPlaceOf fun pl ip=>?_))
  have e1:h1.get? e=some oe:=(sl.2.1 e nf).trans oe1
  have st1:B.StaysIn h1:=fun b o q=>(sl.2.1 b fun z=>by rw [(ff.mem z).1] at q; cases q).trans (stay b o q)
  unfold EntryCells.newEntry newFields
  refine wpAny_bind (wpAny_newObj_type ?_ (ip.sizeOk5 _ _ _ _ _))
  generalize hT:({ cls:=.type "traceback", dict:=none,data:=.fields ([head,.ref L,.none,rawInt L,.none]++(if pl.isEmpty then List.replicate 6 Value.none else pl)).toArray }:Obj)=oT
  have e2:(h1.push oT).get? e=some oe:=Heap.get?_push_of_some _ e1
  have ne:h1.objs.size≠e:=Nat.ne_of_gt (Heap.lt_size e1)
  refine wpAny_setField e2 oe4 oe5 (h _ ⟨fun b o q=>?_,new,_,_,Heap.get?_update_self _ e2 (Obj.isFreed_of_fields (Obj.data_mapFields oe4 _)),(Obj.cls_mapFields _ _).trans oe2,?_,Obj.data_mapFields oe4 _,by simpa using oe5,h1.objs.size,oT,_,by simp [oe5],st1.fresh,ne,?_,by rw [<- hT],?_⟩ ⟨fun b o q n=>?_,fun b o q=>?_⟩)
  · rw [Heap.get?_update_other _ _ fun z=>by rw [<- z,new] at q; cases q]
    exact Heap.get?_push_of_some _ (st1 b o q)
  · rw [<- oe3]; cases oe with | mk c d da sl=>cases da <;> rfl
  · rw [Heap.get?_update_other _ _ (Ne.symm ne)]
    exact Heap.get?_push_size _ (by rw [<- hT]; rfl)
  · rcases ip with rfl | ⟨_,_,_,_,_,_,_,rfl⟩ <;> simp
  · obtain ⟨s1,q1⟩:=sl.2.2 b o q
    refine ⟨s1,?_⟩
    rw [Heap.get?_update_other _ _ fun z=>by rw [<- z,oe1] at q; cases q; exact n vs oe4]
    exact Heap.get?_push_of_some _ q1
  · by_cases z:b=e
    · rw [z]; exact ⟨_,Heap.get?_update_self _ e2 (Obj.isFreed_of_fields (Obj.data_mapFields oe4 _))⟩
    · obtain ⟨s1,q1⟩:=sl.2.2 b o q
      exact ⟨_,(Heap.get?_update_other _ _ (Ne.symm z)).trans (Heap.get?_push_of_some _ q1)⟩
theorem zui {f:Value} {Q:Unit->Shared->Prop} (x:XAt B e cls dct (some f) s.heap) (h:∀ h',XAt B e cls dct (some .none) h'->UpS s.heap h'->Q () { s with heap:=h' }):wpAny M A (setFlight (.ref e) none) Q E s:=by
 obtain ⟨stay,new,oe,vs,oe1,oe2,oe3,oe4,oe5,T,oT,ts,t1,t2,t3,t4,t5,t6⟩:=x
 unfold setFlight
 refine wpAny_bind (wpAny_field oe1 oe4 t1 ?_)
 rw [if_pos (show (Value.ref T != Value.none)=true by simp)]
 have h3:3<ts.size:=(Array.getElem?_eq_some_iff.mp t6).1
 have oth:∀ (g:Obj->Obj) b,b≠T->(s.heap.update T g).get? b=s.heap.get? b:=fun g b z=>Heap.get?_update_other _ _ (Ne.symm z)
 refine wpAny_setField t4 t5 h3 (h _ ⟨fun b o q=>?_,new,oe,vs,by rw [oth _ _ (Ne.symm t3)]; exact oe1,oe2,oe3,oe4,oe5,T,_,_,t1,t2,t3,Heap.get?_update_self _ t4 (Obj.isFreed_of_fields (Obj.data_mapFields t5 _)),Obj.data_mapFields t5 _,by simp [h3]⟩ ⟨fun b o q n=>⟨o.slots,?_⟩,fun b o q=>?_⟩)
 ·rw [oth _ _ fun z=>by rw [z,t2] at q; cases q]
  exact stay b o q
 ·rw [oth _ _ fun z=>by rw [z,t4] at q; cases q; exact n ts t5]
  exact q
 ·by_cases z:b=T
  ·rw [z]; exact ⟨_,Heap.get?_update_self _ t4 (Obj.isFreed_of_fields (Obj.data_mapFields t5 _))⟩
  ·exact ⟨o,(oth _ _ z).trans q⟩
theorem zuj {fl:Option Value} {Q:Unit->Shared->Prop} (fr:A.frames=some (env :: outer)) (ff:s.heap.FunFrames B (env :: outer)) (hf:env.frame=some L) (x:XAt B e cls dct fl s.heap) (hfl:fl=none\/fl=some .none)
    (h:∀ h',XAt B e cls dct (some (rawInt L)) h'->UpS s.heap h'->Q () { s with heap:=h' }):wpAny M A (noteFrame (.ref e) env) Q E s:=by
  have x0:=x
  obtain ⟨stay,new,oe,vs,oe1,oe2,oe3,oe4,oe5,tr⟩:=x
  unfold noteFrame
  simp only [hf]
  rcases hfl with rfl | rfl
  · refine wpAny_bind (wpAny_field oe1 oe4 tr ?_)
    rw [if_neg (by decide)]
    exact znh fr ff hf x0 h
  · obtain ⟨T,oT,ts,t1,t2,t3,t4,t5,t6⟩:=tr
    refine wpAny_bind (wpAny_field oe1 oe4 t1 ?_)
    rw [if_pos (show (Value.ref T != Value.none)=true by simp)]
    refine wpAny_bind (wpAny_field t4 t5 t6 ?_)
    rw [if_neg (show ¬ ((Value.none == rawInt L)=true) by simp [rawInt])]
    have h3:3<ts.size:=(Array.getElem?_eq_some_iff.mp t6).1
    have oth:∀ (g:Obj->Obj) b,b≠T->(s.heap.update T g).get? b=s.heap.get? b:=fun g b z=>Heap.get?_update_other _ _ (Ne.symm z)
    have up:∀ g,UpS s.heap (s.heap.update T (Obj.mapFields g)):=fun g=>⟨fun b o q n=>⟨o.slots,by
      rw [oth _ _ fun z=>by rw [z,t4] at q; cases q; exact n ts t5]; exact q⟩,fun b o q=>by
      by_cases z:b=T
      · rw [z]; exact ⟨_,Heap.get?_update_self _ t4 (Obj.isFreed_of_fields (Obj.data_mapFields t5 _))⟩
      · exact ⟨o,(oth _ _ z).trans q⟩⟩
    refine wpAny_bind (wpAny_setField t4 t5 h3 ?_)
    refine znh (fl:=some .none) fr ((up _).funs ff) hf ⟨fun b o q=>?_,new,oe,vs,by rw [oth _ _ (Ne.symm t3)]; exact oe1,oe2,oe3,oe4,oe5,T,_,_,t1,t2,t3,Heap.get?_update_self _ t4 (Obj.isFreed_of_fields (Obj.data_mapFields t5 _)),Obj.data_mapFields t5 _,by simp [h3]⟩ fun h' a b=>h h' a ((up _).trans b)
    rw [oth _ _ fun z=>by rw [z,t2] at q; cases q]
    exact stay b o q
theorem zni {fl:Option Value} {Q:Unit->Shared->Prop} (fr:A.frames=some (env :: outer)) (ff:s.heap.FunFrames B (env :: outer)) (hf:env.frame=some L) (x:XAt B e cls dct fl s.heap) (hfl:fl=none\/fl=some .none)
    (h:∀ h',XAt B e cls dct (some .none) h'->UpS s.heap h'->Q () { s with heap:=h' }):wpAny M A (leaving env (.ref e)) Q E s:=by
  unfold leaving
  exact wpAny_bind (zuj fr ff hf x hfl fun h1 x1 u1=>zui (s:={ s with heap:=h1 }) x1 fun h2 x2 u2=>h h2 x2 (u1.trans u2))
end
end L2
namespace L2
open PySem PySem.Spec PyProof.Rows
abbrev bmV:List Value:=[.type "ValueError", .type "Exception", .type "BaseException", .type "object"]
structure XC (K:PySem.W.Frag) (C:Addr):Prop where
 hd:PySem.W.hasDictIn K C=true
 ga:PySem.W.findIn K (.ref C) "__getattribute__" = some (some (.builtin "BaseException.__getattribute__"))
 gn:PySem.W.findIn K (.ref C) "__getattr__" = some none
 sa:PySem.W.findIn K (.ref C) "__setattr__" = some (some (.builtin "object.__setattr__"))
 cl:PySem.W.findIn K (.ref C) "__class__" = some (some (.builtin "object.__class__"))
 kg:PySem.W.specialIn K (.builtin "object.__class__") "__get__" = some (some (.builtin "getset_descriptor.__get__"))
 kt:PySem.W.takesIn K (.builtin "object.__class__")=some true
 be:PySem.W.mroIn K C (.type "BaseException")=some true
 ob:PySem.W.mroIn K C (.type "object")=some true
 ex:∃ nm q N bs bm hdct sn sub ab col dd k0 k1 k2 k3 k5,K.lookup C=some (excClassObj nm q C N bs bm hdct sn sub ab col dd k0 k1 k2 k3 k5 "ValueError.__new__")/\PySem.W.tailIn K bmV bm=true
theorem XC.plain {K:PySem.W.Frag} {C:Addr} (q:PySem.W.excIn K C bmV "ValueError.__new__" = true) :
    ∃ nm q N bs bm hdct sn sub ab col dd k0 k1 k2 k3 k5,K.lookup C=some (excClassObj nm q C N bs bm hdct sn sub ab col dd k0 k1 k2 k3 k5 "ValueError.__new__")/\PySem.W.tailIn K bmV bm=true/\PySem.W.nsOkIn K N=true/\PySem.W.nsIn K N "__init__" = some none:=by
  unfold PySem.W.excIn at q
  split at q
  · rename_i dd cd sl ho
    split at q
    · rename_i C' bm k0 k1 k2 k3 n k5 hm hs
      simp only [Bool.and_eq_true,beq_iff_eq,Bool.not_eq_true'] at q
      obtain ⟨⟨⟨⟨⟨rfl,rfl⟩,d1⟩,ht⟩,hok⟩,hni⟩:=q
      obtain ⟨nm,bs,mro,ns,qn,hd,sn,sub,ab,col,del⟩:=cd
      dsimp only at hm d1 hok hni
      subst hm d1
      obtain ⟨l⟩:=sl
      simp only at hs
      subst hs
      exact ⟨nm,qn,ns,bs,bm,hd,sn,sub,ab,col,dd,k0,k1,k2,k3,k5,ho,ht,hok,hni⟩
    · cases q
  · cases q
section
variable {prog:Program} {w:World} {A:Around} {E:Value->Shared->Prop} {s:Shared} {K:PySem.W.Frag} {x C:Addr} {ox:Obj} {od:Option Obj}
theorem zwq {us:List Value} {Q:Value->Shared->Prop} (X:K.In s.heap) (q:PySem.W.excIn K C bmV "ValueError.__new__" = true) (hl:us.length<=sizeLine)
    (h:∀ h' e,Heap.MadeExcOf s.heap h' e (.ref C) us->Q (.ref e) { s with heap:=h' }):wpAny (model prog w) A (call (.ref C) us) Q E s:=by
  obtain ⟨nm,qn,N,bs,bm,hdct,sn,sub,ab,col,dd,k0,k1,k2,k3,k5,lk,tl,nk,ni⟩:=XC.plain q
  obtain ⟨hp,g,d,t,os⟩:=s
  exact wpAny_call_exc_subU PySem.F.excBase_ValueError rfl PySem.F.excBase_ValueError (PySem.W.tail_of_in X tl) (X _ _ lk) (.of_isNs (PySem.W.isNs_of_in X nk)) (PySem.W.nsMap_none_of_in X nk ni) (fun h' e m=>h h' e m) hl
theorem zwr {env:Env} {y:Sem Value} {Q:Flow->Shared->Prop} (hh:A.handled=none)
    (h:wpAny (model prog w) A y (fun v s1=>∃ C e oe vs,XC K C/\v = .ref e/\K.In s1.heap/\s1.heap.get? e=some oe/\oe.cls = .ref C/\oe.data = .fields vs/\vs[1]? = some Value.none/\E (.ref e) s1) E s) :
    wpAny (model prog w) A (raiseStmt env (some y) none) Q E s:=by
  unfold raiseStmt
  refine wpAny_bind (wpAny_mono h (fun v s1 z=>?_) fun _ _ z=>z)
  obtain ⟨C,e,oe,vs,c,rfl,X,e1,e2,e3,e4,fin⟩:=z
  obtain ⟨nm,qn,N,bs,bm,hdct,sn,sub,ab,col,dd,k0,k1,k2,k3,k5,lk,tl⟩:=c.ex
  obtain ⟨hp,g,d,t,os⟩:=s1
  have cl:=X _ _ lk
  have hcB:(Value.ref C :: bm).contains (.type "BaseException")=true:=by rw [List.contains_cons,(PySem.W.tail_of_in X tl).hasType (show bmV.contains (.type "BaseException")=true from rfl),Bool.or_true]
  obtain ⟨oc,od,oda,osl⟩:=oe
  dsimp only at e2 e3
  subst e2 e3
  have fl:∀ {α:Type} {QQ:Value->Shared->Prop},QQ .none ⟨hp,g,d,t,os⟩->wpAny (model prog w) A (field (.ref e) 1) QQ E ⟨hp,g,d,t,os⟩:=fun {_ _} z=>wpAny_field e1 rfl e4 z
  repeat (first | (with_reducible refine wpAny_isSubtype_exc cl ?_; rw [hcB]) | with_reducible refine wpAny_loadPart_at e1 ?_ | with_reducible refine wpAny_loadPart_at cl ?_ | with_reducible refine wpAny_field e1 rfl e4 ?_ | wp_step)
  exact wpAny_raiseNew_none hh fin
end
end L2
namespace L2
open PySem PySem.Spec PyProof.Rows
def XOb (e C:Addr) (dct:Option Addr) (fr:Bool) (h:Heap):Prop:=∃ oe vs,h.get? e=some oe/\oe.cls = .ref C/\oe.dict=dct/\oe.data = .fields vs/\1<vs.size/\(fr=true->vs[1]? = some Value.none)
def excO (e C:Addr) (dct:Option Addr) (fr:Bool):HO:=.ext (XOb e C dct fr)
section
variable {P:Program} {w:World} {H:Hp} {h:Heap}
theorem zmg {e C:Addr} {dct:Option Addr} {fr:Bool} (x:XOb e C dct fr h):ObjOk P w H h e (excO e C dct fr):=by
 refine ⟨x,?_,fun h1 h2 y k=>?_⟩
 ·obtain ⟨oe,vs,e1,_⟩:=x
  exact ⟨oe,e1⟩
 ·obtain ⟨oe,vs,e1,r⟩:=y
  exact ⟨oe,vs,k _ e1,r⟩
theorem ObjOk.there {a:Addr} {o:HO} (x:ObjOk P w H h a o):∃ ob,h.get? a=some ob:=by
 cases o with
 | lst xs=>obtain ⟨_,_,_,_,e⟩:=x; exact ⟨_,e⟩
 | tup xs=>obtain ⟨_,_,_,_,e,_⟩:=x; exact ⟨_,e⟩
 | dK kvs=>obtain ⟨_,_,_,_,o,_,_,e,_⟩:=x; exact ⟨_,e⟩
 | dT kvs=>obtain ⟨_,_,_,_,o,_,_,e,_⟩:=x; exact ⟨_,e⟩
 | set S n=>obtain ⟨o,_,_,_,e,_⟩:=x; exact ⟨_,e⟩
 | ins C dx fs=>obtain ⟨_,_,_,e,_⟩:=x; exact ⟨_,e⟩
 | own y=>exact x
 | xd fs=>obtain ⟨_,⟨_,_,_,e,_⟩,_⟩:=x; exact ⟨_,e⟩
 | rng lo hi=>obtain ⟨_,_,_,e⟩:=x; exact ⟨_,e⟩
 | frz ob u=>obtain ⟨e,_⟩:=x; exact ⟨_,e⟩
 | tbl ps=>exact ⟨_,show h.get? a=some _ from x⟩
 | met f y=>exact ⟨_,show h.get? a=some _ from x⟩
 | ext φ=>exact x.2.1
theorem HOk.exc (x:HOk P w H h) {e C:Addr} {dct:Option Addr} {fr:Bool} (q:H e=some (excO e C dct fr)):XOb e C dct fr h:=(show ObjOk P w H h e (excO e C dct fr) from x e _ q).1
end
structure Fly (P:Program) (w:World) (B:Heap) (l:List Env) (e C:Addr) (dct:Option Addr) (H:Hp) (h:Heap):Prop where
 at_:∃ fl,(fl=none\/fl=some Value.none)/\XAt B e (.ref C) dct fl h
 ff:h.FunFrames B l
 hok:HOk P w H h
 he:H e=some (excO e C dct false)
 cov:∀ a o,H a=some o->a≠e->∃ ob,B.get? a=some ob
def CXX (P:Program) (w:World):CXT:=fun outer H s E e s'=>∃ B ea C dct H',e = .ref ea/\s'.os=s.os/\AllBare s'.gens/\Fly P w B outer ea C dct H' s'.heap/\Un (frs outer) [] H H' s.heap s'.heap /\
 (∀ b o,s.heap.get? b=some o->H b=none->b ∉ frs outer->B.get? b=some o)/\E (.ref ea) dct H'
theorem znj {P:Program} {w:World} {B:Heap} {e C:Addr} {dct:Option Addr} {fl:Option Value} {H:Hp} {h h':Heap} (x:HOk P w H h) (he:H e=some (excO e C dct false)) (cov:∀ a o,H a=some o->a≠e->∃ ob,B.get? a=some ob) (st:B.StaysIn h)
    (y:XAt B e (.ref C) dct fl h'):HOk P w H h':=fun a o q=>by
  by_cases z:a=e
  · subst z
    rw [he] at q
    cases q
    obtain ⟨oe,vs,e1,e2,e3,e4,e5,_⟩:=y.ex
    exact zmg ⟨oe,vs,e1,e2,e3,e4,e5,fun z=>by cases z⟩
  · refine (x a o q).stay (fun b u hb g=>?_) (fun _ q=>q) fun _ _ q=>q
    have hbe:∃ o',H b=some o'/\b≠e:=by
      rcases hb with rfl | hb
      · exact ⟨_,q,z⟩
      · refine ⟨_,hb,fun y=>?_⟩
        rw [y,he] at hb
        cases hb
    obtain ⟨o',h1,h2⟩:=hbe
    obtain ⟨ob,h3⟩:=cov b o' h1 h2
    have h4:=st b ob h3
    rw [g] at h4
    cases h4
    exact y.stay b _ h3
section
variable {X:Cx} {pins:List (Addr×Obj)} {σ:St} {H H':Hp} {s:Shared} {h':Heap}
theorem Inv.out (I:Inv X pins σ H s) (hex:X.ex = []) (u:Un (frs X.stack) [] H H' s.heap h'):Un X.fs [] X.H₀ H' X.s₀.heap h':=by
 have nl:∀ b o,X.s₀.heap.get? b=some o->b≠X.env.locals:=fun b o q z=>absurd (Nat.lt_of_lt_of_le (Heap.lt_size q) (by rw [z]; exact I.ok.above)) (Nat.lt_irrefl _)
 have nx:∀ b:Addr,b ∉ X.ex:=fun b=>by rw [hex]; simp
 have ns:∀ b o,X.s₀.heap.get? b=some o->b ∉ X.fs->b ∉ frs X.stack:=fun b o q n z=>by
  rcases List.mem_cons.mp (I.stkSub b z) with y | y
  ·exact nl b o q y
  ·exact n y
 refine ⟨fun b o q n hb _=>u.keep b o (I.base.keep b o q n hb (nx b)) (I.base.free b o q n (nx b)) (ns b o q hb) (by simp),fun b o q n hb _=>?_,fun b o q n _=>?_,fun b o q _=>?_,fun b xs q=>u.tups b xs (I.base.tups b xs q),fun b o v q=>u.frzs b o v (I.base.frzs b o v q),fun b ps q=>?_⟩
 ·obtain ⟨sl,e⟩:=I.base.slot b o q n hb (nx b)
  have fr:=I.base.free b o q n (nx b)
  by_cases hs:b∈frs X.stack
  ·obtain ⟨sl2,e2⟩:=u.slot b _ e fr hs (by simp)
   exact ⟨sl2,e2⟩
  ·exact ⟨sl,u.keep b _ e fr hs (by simp)⟩
 ·obtain ⟨o1,e⟩:=I.base.there b o q (nx b)
  exact u.free b o1 e (I.base.free b o q n (nx b)) (by simp)
 ·obtain ⟨o1,e⟩:=I.base.there b o q (nx b)
  exact u.there b o1 e (by simp)
 ·obtain ⟨m1,e1⟩:=I.base.tbls b ps q
  obtain ⟨m2,e2⟩:=u.tbls b _ e1
  exact ⟨m1++m2,by rw [e2,Array.append_assoc]⟩
def bOf (X:Cx) (e:Addr) (h:Heap):Heap:=PySem.W.hideAll h (e :: frs X.stack)
theorem Inv.flyB (I:Inv X pins σ H s) {e C:Addr} {dct:Option Addr} (he:H e=some (excO e C dct true)) :
    XAt (bOf X e s.heap) e (.ref C) dct none s.heap/\s.heap.FunFrames (bOf X e s.heap) X.stack/\(∀ b o,s.heap.get? b=some o->b≠e->b ∉ frs X.stack->(bOf X e s.heap).get? b=some o):=by
  obtain ⟨oe,vs,e1,e2,e3,e4,e5,e6⟩:=I.hok.exc he
  refine ⟨⟨fun b o q=>PySem.W.of_hideAll _ q,PySem.W.hideAll_none _ (.head _),oe,vs,e1,e2,e3,e4,e5,e6 rfl⟩,PySem.W.funFrames_hide I.stack fun env hm a ha=>.tail _ (List.mem_filterMap.mpr ⟨env,hm,ha⟩),fun b o q n1 n2=>PySem.W.hideAll_get _ q fun z=>?_⟩
  rcases List.mem_cons.mp z with y | y
  · exact n1 y
  · exact n2 y
theorem Inv.flyUn (I:Inv X pins σ H s) {e C:Addr} {dct:Option Addr} {fl:Option Value} (he:H e=some (excO e C dct true)) (x:XAt (bOf X e s.heap) e (.ref C) dct fl h') (u:UpS s.heap h') :
    Un (frs X.stack) [] H (upd H e (excO e C dct false)) s.heap h'/\HOk X.prog X.w (upd H e (excO e C dct false)) h'/\∀ a o,upd H e (excO e C dct false) a=some o->a≠e->∃ ob,(bOf X e s.heap).get? a=some ob:=by
  obtain ⟨x0,ff,big⟩:=I.flyB he
  have cov:∀ a o,upd H e (excO e C dct false) a=some o->a≠e->∃ ob,(bOf X e s.heap).get? a=some ob:=fun a o q n=>by
    rw [zai n] at q
    obtain ⟨ob,g⟩:=(I.hok a o q).there
    exact ⟨ob,big a ob g n fun z=>by rw [I.stkFree a z] at q; cases q⟩
  have ne:∀ b,H b=none->b≠e:=fun b n z=>by rw [z,he] at n; cases n
  refine ⟨⟨fun b o q n hb _=>x.stay b o (big b o q (ne b n) hb),fun b o q n hb _=>?_,fun b o q n _=>by rw [zai (ne b n)]; exact n,fun b o q _=>u.th b o q,fun b xs q=>?_,fun b o v q=>?_,fun b ps q=>⟨#[],?_⟩⟩,?_,cov⟩
  · obtain ⟨_,o1,g,nf⟩:=ff.mem (show b∈X.stack.filterMap (·.frame) from hb)
    rw [q] at g
    cases g
    exact u.sl b o q nf
  · rw [zai fun z=>by rw [z,he] at q; cases q]; exact q
  · rw [zai fun z=>by rw [z,he] at q; cases q]; exact q
  · rw [zai fun z=>by rw [z,he] at q; cases q]; simpa using q
  · have h0:HOk X.prog X.w (upd H e (excO e C dct false)) s.heap:=fun a o q=>by
      by_cases z:a=e
      · subst z
        rw [zab] at q
        cases q
        obtain ⟨oe,vs,e1,e2,e3,e4,e5,_⟩:=I.hok.exc he
        exact zmg ⟨oe,vs,e1,e2,e3,e4,e5,fun z=>by cases z⟩
      · rw [zai z] at q
        refine (I.hok a o q).stay (fun _ _ _ g=>g) (fun b g=>?_) fun b xs g=>?_
        · rw [zai fun z=>by rw [z,he] at g; cases g]; exact g
        · rw [zai fun z=>by rw [z,he] at g; cases g]; exact g
    exact znj h0 zab cov x0.stay x
end
end L2
namespace L2
open PySem PySem.Spec PyProof.Rows
abbrev XH:=Value->Option Addr->St->Hp->Prop
def zeu (CX:CXT) (X:Cx) (Ek:XH):Prop:=∀ (pins:List (Addr×Obj)) (σ:St) (H:Hp) (s:Shared) (e:Value) (s':Shared),Inv X pins σ H s->CX X.stack H s (fun v d H'=>Ek v d σ H') e s'->X.xe e s'
def zpt (X:Cx) (Ek:XH):Prop:=∀ (pins:List (Addr×Obj)) (σ:St) (H:Hp) (s:Shared) (e C:Addr) (dct:Option Addr),Inv X pins σ H s->H e=some (excO e C dct true)->Ek (.ref e) dct σ (upd H e (excO e C dct false))->X.xe (.ref e) s
abbrev EX0:XH:=fun _ _ _ _=>False
theorem passN {P:Program} {w:World} {X:Cx}:zeu (CXX P w) X EX0:=fun _ _ _ _ _ _ _ ⟨_,_,_,_,_,_,_,_,_,_,_,h⟩=>h.elim
section
variable {X:Cx} {pins:List (Addr×Obj)} {σ:St} {H H':Hp} {s s':Shared} {B h':Heap} {e C:Addr} {dct:Option Addr} {fl:Option Value}
theorem zws (F:Fly X.prog X.w B X.stack e C dct H' s'.heap) (un:Un (frs X.stack) [] H H' s.heap s'.heap) (cv:∀ b o,s.heap.get? b=some o->H b=none->b ∉ frs X.stack->B.get? b=some o)
    (x:XAt B e (.ref C) dct fl h') (u:UpS s'.heap h'):Un (frs X.stack) [] H H' s.heap h'/\HOk X.prog X.w H' h':=by
  obtain ⟨fl0,_,x0⟩:=F.at_
  refine ⟨⟨fun b o q n hb _=>x.stay b o (cv b o q n hb),fun b o q n hb _=>?_,un.free,fun b o q hx=>?_,un.tups,un.frzs,un.tbls⟩,znj F.hok F.he F.cov x0.stay x⟩
  · obtain ⟨sl,e1⟩:=un.slot b o q n hb (by simp)
    obtain ⟨_,o1,g,nf⟩:=F.ff.mem (show b∈X.stack.filterMap (·.frame) from hb)
    rw [e1] at g
    cases g
    obtain ⟨sl2,e2⟩:=u.sl b _ e1 nf
    exact ⟨sl2,e2⟩
  · obtain ⟨o1,e1⟩:=un.there b o q hx
    exact u.th b o1 e1
end
section
variable {P:Program} {w:World} {K:PySem.W.Frag} {mg:Str->Option Value} {base:Heap} {N:List Str} {qual:Str} {sc:Scope} {f:Addr} {cd:Value} {A:Around} {outer:List Env} {s₀:Shared} {H₀:Hp} {E:XK}
theorem zwt:zpt (cxOf (CXX P w) P w K mg base N qual sc f cd A outer s₀ H₀ E) (fun v d _ H=>E v d H):=by
 intro pins σ H s e C dct I he hE
 obtain ⟨x,ff,big⟩:=I.flyB he
 refine zni (outer:=outer) (L:=s₀.heap.objs.size) I.ok.frames ff rfl x (.inl rfl) fun h' x' u=>?_
 obtain ⟨un,ok,cov⟩:=I.flyUn he x' u
 refine ⟨_,e,C,dct,_,rfl,I.os,I.bare,⟨⟨_,.inr rfl,x'⟩,(u.funs ff).2.2,ok,zab,cov⟩,I.out rfl un,fun b o q n hb=>?_,hE⟩
 have fr:=I.base.free b o q n (by show b ∉ ([]:List Addr); simp)
 refine big b o (I.base.keep b o q n hb (by show b ∉ ([]:List Addr); simp)) (fun z=>by rw [z,he] at fr; cases fr) fun z=>?_
 rcases List.mem_cons.mp (I.stkSub b z) with y | y
 ·exact absurd (Nat.lt_of_lt_of_le (Heap.lt_size q) (by rw [y]; exact I.ok.above)) (Nat.lt_irrefl _)
 ·exact hb y
theorem passF:zeu (CXX P w) (cxOf (CXX P w) P w K mg base N qual sc f cd A outer s₀ H₀ E) (fun v d _ H=>E v d H):=by
 intro pins σ H s e s' I q
 obtain ⟨B,ea,C,dct,H',rfl,hos,hb,F,un,cv,hE⟩:=q
 obtain ⟨fl0,hfl,x0⟩:=F.at_
 refine zni (outer:=outer) (L:=s₀.heap.objs.size) I.ok.frames F.ff rfl x0 hfl fun h' x' u=>?_
 obtain ⟨u2,ok⟩:=zws (X:=cxOf (CXX P w) P w K mg base N qual sc f cd A outer s₀ H₀ E) F un cv x' u
 refine ⟨B,ea,C,dct,H',rfl,hos.trans I.os,hb,⟨⟨_,.inr rfl,x'⟩,(u.funs F.ff).2.2,ok,F.he,F.cov⟩,I.out rfl u2,fun b o q n hb=>?_,hE⟩
 refine cv b o (I.base.keep b o q n hb (by show b ∉ ([]:List Addr); simp)) (I.base.free b o q n (by show b ∉ ([]:List Addr); simp)) fun z=>?_
 rcases List.mem_cons.mp (I.stkSub b z) with y | y
 ·exact absurd (Nat.lt_of_lt_of_le (Heap.lt_size q) (by rw [y]; exact I.ok.above)) (Nat.lt_irrefl _)
 ·exact hb y
end
section
variable {P:Program} {w:World} {X:Cx} {pins pins':List (Addr×Obj)} {Hk:XH} {σ:St} {H:Hp} {s:Shared}
end
section
variable {X:Cx} {pins:List (Addr×Obj)} {σ:St} {H:Hp} {s:Shared} {e:Addr}
end
def tCallX (sp:Sp) (Ek:XH) (t:TA):TE:=fun σ H Q=>t σ H fun vs H1=>sp vs H1 Q (fun v d H'=>Ek v d σ H')
section
variable {X:Cx} {CX:CXT} {k:Nat} {x:Str} {ps:List Str} {sp:Sp} {Ek:XH} {p pos:Pos} {e:Expr} {es:List Expr} {t:TA}
theorem zao (D:Def X.prog X.w X.K X.mg X.base CX k x ps sp) (hr:Room k X.A) (hg:Gl X x) (hx:zeu CX X Ek) (ha:PA X (e :: es) t)
    (hdb:(x == ("__debug__" : Str))=false:=by decide) (he:starEach (e :: es) X.env=(false,eval e X.env) :: starEach es X.env:=by rfl) (hpl:(backTo pos (starEach es X.env)).any (·.1)=false:=by rfl) :
    PE X (.Call (.Name x p) (e :: es) [] pos) (tCallX sp Ek t):=by
  obtain ⟨f,fd,F,hb,hk,hm⟩:=D.ex
  intro pins s σ H Q I h
  refine wpAny_Call_Name_kw (zhs I hg hm ?_ hdb)
  refine PySem.W.callWith_K (h₀:=X.base) I.ok.mod.kin hk (thn (ha pos pins s σ H _ I h) fun us s1 ⟨vs,H1,I1,r,q⟩=>⟨I1.kIn,?_⟩) he hpl
  have hl:(us++[]).length=ps.length:=by rw [List.append_nil,<- r.length]; exact F.len _ _ _ _ q
  have hbb:=hb s1 us I1.kIn hl
  rw [List.append_nil] at hbb
  refine wpAny_call (codeAny_mono (F.run X.A X.stack s1 H1 ⟨us,[]⟩ us vs Q _ hr I1.env0 hbb r q) fun r s' hq=>?_)
  cases r with
  | error e=>exact hx pins σ H1 s1 e s' I1 hq
  | ok fl =>
    cases fl with
    | ret u=>exact I1.after hq
    | next=>exact False.elim hq
    | brk=>exact False.elim hq
    | cont=>exact False.elim hq
end
theorem Src.okN {P:Program} {w:World} {K:PySem.W.Frag} {mg:Str->Option Value} {base:Heap} {CX:CXT} {x:Str} {st:Stmt} {N ps:List Str} {k:Nat} {sp:Sp} (F:Src K mg x st ps) (S:FnScope N ps (zag st)) (len:∀ vs H Q E,sp vs H Q E->vs.length=ps.length)
    (hbody:∀ (f:Addr) (cdv:Value) (A:Around) (outer:List Env) (s:Shared) (H:Hp) (vs:List V) (Q:VK) (E:XK),Room k (A.deeper (envOfC x (zag st) s.heap.objs.size f cdv))->sp vs H Q E ->
      ∃ t,PSs (cxOf CX P w K mg base N x (zag st) f cdv A outer s H E).nox (zar st) t/\t { nx:=fun _ H'=>Q .non H',rt:=Q } (start N vs) H):Def P w K mg base CX (k+1) x ps sp:=by
  obtain ⟨f,fd,F,b,m⟩:=F.ex
  obtain ⟨oc,od,kV,doc,pm,an,cdv,ct,osl,rfl,lk,hcd⟩:=F.ex
  exact ⟨f,_,fn_of lk hcd S len fun A outer s H vs Q E hr hsp=>by
    obtain ⟨t,h,q⟩:=hbody f cdv A outer s H vs Q E hr hsp
    exact ⟨t,h.nox,q⟩,b,F.kp,m⟩
theorem Src.okX {P:Program} {w:World} {K:PySem.W.Frag} {mg:Str->Option Value} {base:Heap} {x:Str} {st:Stmt} {N ps:List Str} {k:Nat} {sp:Sp} (F:Src K mg x st ps) (S:FnScope N ps (zag st)) (len:∀ vs H Q E,sp vs H Q E->vs.length=ps.length)
    (hbody:∀ (f:Addr) (cdv:Value) (A:Around) (outer:List Env) (s:Shared) (H:Hp) (vs:List V) (Q:VK) (E:XK),Room k (A.deeper (envOfC x (zag st) s.heap.objs.size f cdv))->sp vs H Q E ->
      ∃ t,PSs (cxOf (CXX P w) P w K mg base N x (zag st) f cdv A outer s H E) (zar st) t/\t { nx:=fun _ H'=>Q .non H',rt:=Q } (start N vs) H):Def P w K mg base (CXX P w) (k+1) x ps sp:=by
  obtain ⟨f,fd,F,b,m⟩:=F.ex
  obtain ⟨oc,od,kV,doc,pm,an,cdv,ct,osl,rfl,lk,hcd⟩:=F.ex
  exact ⟨f,_,fn_of lk hcd S len fun A outer s H vs Q E hr hsp=>hbody f cdv A outer s H vs Q E hr hsp,b,F.kp,m⟩
theorem zpu {P:Program} {w:World} {H:Hp} {h:Heap} {a:Addr} (x:HOk P w H h) (e:h.get? a=none):H a=none:=by
 cases q:H a with
 | none=>rfl
 | some o =>
  obtain ⟨ob,g⟩:=(x a o q).there
  rw [e] at g
  cases g
theorem Inv.laidN {X:Cx} {pins:List (Addr×Obj)} {σ:St} {H:Hp} {s:Shared} {h':Heap} {a:Addr} {o:HO} {t':Nat} (I:Inv X pins σ H s) (k:∀ b u,s.heap.get? b=some u->h'.get? b=some u) (hn:s.heap.get? a=none) (new:ObjOk X.prog X.w (upd H a o) h' a o) :
    Inv X pins σ (upd H a o) { s with heap:=h',toks:=t' }:=by
  have fr:=zpu I.hok hn
  refine I.un (t':=t') ⟨fun b ob q _ _ _=>k b ob q,fun b ob q _ _ _=>⟨ob.slots,k b ob q⟩,fun b ob q n _=>?_,fun b ob q _=>⟨ob,k b ob q⟩,fun b xs q=>?_,fun b ob v q=>?_,fun b ps q=>⟨#[],?_⟩⟩ fun b ob q=>?_
  · rw [zai fun z=>by rw [z,hn] at q; cases q]; exact n
  · rw [zai (zah q fr)]; exact q
  · rw [zai (zah q fr)]; exact q
  · rw [zai (zah q fr)]; simpa using q
  · by_cases z:b=a
    · subst z
      rw [zab] at q
      cases q
      exact new
    · rw [zai z] at q
      exact (I.hok b ob q).stay (fun c u _ g=>k c u g) (fun c g=>by rw [zai (zah g fr)]; exact g) fun c xs g=>by rw [zai (zah g fr)]; exact g
def tXmk (C:Addr) (t:TA):TE:=fun σ H Q=>t σ H fun vs H1=>vs.length<=1000/\∀ e,H1 e=none->Q (.ref e) (upd H1 e (excO e C none true))
def tRaise (K:PySem.W.Frag) (Ek:XH) (te:TE):TS:=fun _ σ H=>te σ H fun v H1=>∃ e C dct,v = .ref e/\H1 e=some (excO e C dct true)/\XC K C/\Ek (.ref e) dct σ (upd H1 e (excO e C dct false))
section
variable {X:Cx} {C:Addr} {x:Str} {p pos:Pos} {e:Expr} {es:List Expr} {t:TA}
theorem zwu (q:PySem.W.excIn X.K C bmV "ValueError.__new__" = true) (kp:PySem.W.keepIn X.K (.ref C)=true) (hg:Gl X x) (hm:X.mg x=some (.ref C)) (ha:PA X (e :: es) t)
    (hdb:(x == ("__debug__" : Str))=false:=by decide) (he:starEach (e :: es) X.env=(false,eval e X.env) :: starEach es X.env:=by rfl) (hpl:(backTo pos (starEach es X.env)).any (·.1)=false:=by rfl) :
    PE X (.Call (.Name x p) (e :: es) [] pos) (tXmk C t):=by
  intro pins s σ H Q I h
  refine wpAny_Call_Name_kw (zhs I hg hm ?_ hdb)
  refine PySem.W.callWith_K (h₀:=X.base) I.ok.mod.kin kp (thn (ha pos pins s σ H _ I h) fun us s1 ⟨vs,H1,I1,r,hl,q1⟩=>⟨I1.kIn,?_⟩) he hpl
  refine zwq I1.kIn q (by rw [List.nil_append,<- r.length]; exact line_lit hl) fun h' ea m=>?_
  obtain ⟨tt,g1,g2,g3⟩:=m.there
  exact ⟨.ref ea,_,I1.laidN (t':=s1.toks) m.keeps m.new (zmg ⟨_,_,g1,rfl,rfl,rfl,Nat.lt_of_lt_of_le (by decide) (Nat.le_refl 6),fun _=>rfl⟩),rfl,q1 ea (zpu I1.hok m.new)⟩
theorem zrn {Ek:XH} {te:TE} (K:PySem.W.Frag) (hK:X.K=K) (hc:X.calm=true) (hx:zpt X Ek) (he:PE X e te):PS X (.Raise (some e) none pos) (tRaise K Ek te):=by
 subst hK
 intro pins s σ H D I h
 rw [arm_exec_Raise]
 refine wpAny_bind (wpAny_standAt ?_)
 show wpAny _ _ (raiseStmt X.env (some (do let v <- eval e X.env; standAt pos; pure v)) none) _ _ _
 refine zwr (K:=X.K) (I.ok.hd hc) (wpAny_bind (thn (he pins s σ H _ I h) fun u s1 ⟨v,H1,I1,r,ea,C,dct,hv,hh,c,q⟩=>wpAny_bind (wpAny_standAt (wpAny_pure ?_))))
 subst hv
 cases (show u=Value.ref ea from r)
 obtain ⟨oe,vs,e1,e2,e3,e4,e5,e6⟩:=I1.hok.exc hh
 exact ⟨C,ea,oe,vs,c,rfl,I1.kIn,e1,e2,e4,e6 rfl,hx pins σ H1 s1 ea C dct I1 hh q⟩
end
section
variable {prog:Program} {w:World} {A:Around} {E:Value->Shared->Prop} {s:Shared} {K:PySem.W.Frag} {e C C':Addr}
end
def hkOf (K:PySem.W.Frag) (C':Addr) (th:Addr->TS) (D:Ends):XH:=fun v d σ H=>∃ e C,v = .ref e/\H e=some (excO e C d false)/\PySem.W.subIn K (.ref C) (.ref C')=some true/\th e D σ H
def tTry (K:PySem.W.Frag) (C':Addr) (tb:XH->TS) (th:TS):TS:=fun D σ H=>tb (hkOf K C' (fun _=>th) D) D σ H
def tTryAs (K:PySem.W.Frag) (C':Addr) (i:Nat) (tb:XH->TS) (th:TS):TS:=fun D σ H =>
 tb (hkOf K C' (fun e D σ H=>th { nx:=fun σ H=>D.nx (σ.set i none) H,rt:=D.rt,bk:=fun σ H=>D.bk (σ.set i none) H,ct:=fun σ H=>D.ct (σ.set i none) H } (σ.set i (some (.ref e))) H) D) D σ H
section
variable {P:Program} {w:World} {X:Cx} {C':Addr} {x:Str} {np hpos pos:Pos} {body suite:List Stmt} {b0:Stmt} {tb:XH->TS} {th:TS}
end
end L2
namespace L2
open PySem PySem.Spec PyProof.Rows
section
variable {X:Cx}
end
end L2
namespace L2
open PySem PySem.Spec PyProof.Rows
section
variable {K:PySem.W.Frag} {C C':Addr}
theorem zro (q:PySem.W.excIn K C bmV "ValueError.__new__" = true):∃ nm q N bs bm hdct sn sub ab col dd k0 k1 k2 k3 k5,K.lookup C=some (excClassObj nm q C N bs bm hdct sn sub ab col dd k0 k1 k2 k3 k5 "ValueError.__new__")/\PySem.W.tailIn K bmV bm=true:=by
 obtain ⟨nm,q,N,bs,bm,hdct,sn,sub,ab,col,dd,k0,k1,k2,k3,k5,l,t,_⟩:=XC.plain q
 exact ⟨nm,q,N,bs,bm,hdct,sn,sub,ab,col,dd,k0,k1,k2,k3,k5,l,t⟩
theorem zrp:PySem.W.kitOne K (.ref C) (.ref C)=some true:=by
 unfold PySem.W.kitOne
 rw [if_pos (by simp)]
theorem zwv {b:Bool} (hs:PySem.W.subIn K (.ref C) (.type "ValueError")=some b):PySem.W.kitOne K (.ref C) (.type "ValueError")=some b:=by
 unfold PySem.W.kitOne
 rw [if_neg (by simp)]
 unfold PySem.W.kitCls
 dsimp only
 rw [if_pos (by decide +kernel)]
 exact hs
end
end L2
namespace L2
open PySem PySem.Spec PyProof.Rows
end L2
namespace L2
open PySem PySem.Spec PyProof.Rows
abbrev TupsF {α:Type} (enc:α->List V) (H:Hp):List Addr->List α->Prop:=Paired fun p q=>H p=some (.tup (enc q))
section
variable {α:Type} {enc:α->List V} {H H':Hp} {ps:List Addr} {qs:List α}
theorem zfe (h:TupsF enc H ps qs):ps.length=qs.length:=Paired.length h
theorem zcl (h:TupsF enc H ps qs) (e:Same H H'):TupsF enc H' ps qs:=Paired.mapP h fun _ _ q=>e _ _ q
theorem zcm (h:TupsF enc H ps qs) (e:∀ p xs,H p=some (.tup xs)->H' p=some (.tup xs)):TupsF enc H' ps qs:=Paired.mapP h fun _ _ q=>e _ _ q
theorem zdw {t:Addr} {q:α} (ht:H t=some (.tup (enc q))):∀ {ps:List Addr} {qs:List α},TupsF enc H ps qs->TupsF enc H (ps++[t]) (qs++[q])
 | _,_,Paired.nil=>.cons ht .nil
 | _,_,Paired.cons a b=>.cons a (zdw ht b)
theorem zen:∀ {ps:List Addr} {qs:List α} {i:Nat} {p:Addr},TupsF enc H ps qs->ps[i]? = some p->∃ q,qs[i]? = some q/\H p=some (.tup (enc q))
 | _,_,_,_,Paired.nil,e=>by simp at e
 | _,_,0,_,Paired.cons a _,e=>by simp at e; subst e; exact ⟨_,rfl,a⟩
 | _,_,i+1,_,Paired.cons _ b,e=>by
  obtain ⟨q,h1,h2⟩:=zen (i:=i) b (by simpa using e)
  exact ⟨q,by simpa using h1,h2⟩
structure Lst (enc:α->List V) (H:Hp) (l:Addr) (ps:List Addr) (qs:List α):Prop where
 hl:H l=some (.lst (ps.map V.ref))
 r:TupsF enc H ps qs
end
abbrev F2:=Int×Int
def f2 (q:F2):List V:=[.int q.1,.int q.2]
end L2
namespace Sw
open L2
def nrm (q:F2):F2:=(rN q.1 q.2,rD q.1 q.2)
theorem nrm_fr {q:F2} (h:q.2≠0):Fr (nrm q).1 (nrm q).2:=zwn h
theorem nrm_cross {q:F2} (h:q.2≠0):(nrm q).1*q.2=(nrm q).2*q.1:=zpo h
end Sw
namespace L2
open PySem PySem.Spec PyProof.Rows
theorem zgc {H:Hp} {l:Addr} {xs:List V} {y:V} {Q:VK} (h:H l=some (.lst xs)) (hz:xs.length<1000) (q:Q .non (upd H l (.lst (xs++[y])))):zkb (.ref l) [y] H Q:=⟨l,xs,y,rfl,rfl,h,line_lt hz,q⟩
theorem zdk {K:PySem.W.Frag} {H:Hp} {l:Addr} {xs:List V} (h:H l=some (.lst xs)):tyV K "list" (.ref l) H:=.inl ⟨rfl,_,.of h⟩
end L2
namespace L2
open PySem PySem.Spec PyProof.Rows
def tCallN (sp:Sp) (t:TA):TE:=fun σ H Q=>t σ H fun vs H1=>sp vs H1 Q E0
section
variable {P:Program} {w:World} {X:Cx} {k:Nat} {x:Str} {ps:List Str} {sp:Sp} {p pos:Pos} {e:Expr} {es:List Expr} {t:TA}
end
end L2
namespace L2
open PySem PySem.Spec PyProof.Rows
end L2
namespace L2
open PySem PySem.Spec PyProof.Rows
end L2
namespace L2
open PySem PySem.Spec PyProof.Rows
section
variable {X:Cx} {o value:Expr} {f:Str} {pos pos':Pos} {ta tv:TE}
end
def tXmk1 (C:Addr) (sp:Sp) (t:TA):TE:=fun σ H Q=>t σ H fun vs H1=>vs.length<=1000/\∀ e,H1 e=none->sp (.ref e :: vs) (upd H1 e (excO e C none true)) (fun v H2=>v = .non/\Q (.ref e) H2) E0
end L2
namespace L2
open PySem PySem.Spec PyProof.Rows
end L2
namespace L2
open PySem PySem.Spec PyProof.Rows
section
variable {X:Cx}
end
end L2
namespace Sw
open L2
def Fine (i:Nat) (b:Int) (q:Q4):Prop:=i<60/\0<=q.1/\q.1<=1000000000000/\0<=q.2.1/\q.2.1<=11/\1<=q.2.2.1/\q.2.2.1<=1000000/\1<=q.2.2.2/\q.2.2.2<=1000000/\b<=q.1
instance (i:Nat) (b:Int) (q:Q4):Decidable (Fine i b q):=by unfold Fine; infer_instance
end Sw
namespace L2
open PySem PySem.Spec PyProof.Rows
def BindsV (K:PySem.W.Frag) (fd:FuncData) (ps:List Str) (dvs:List V):Prop:=∃ ds,Vals dvs ds/\Binds K fd ps ds
theorem BindsV.nil {K:PySem.W.Frag} {fd:FuncData} {ps:List Str} (h:Binds K fd ps []):BindsV K fd ps []:=⟨[],.nil,h⟩
structure FunE (K:PySem.W.Frag) (x qual:Str) (st:Stmt) (f:Addr) (fd:FuncData):Prop where
 ex:∃ (oc:Value) (od:Option Addr) (dV kV doc pm:Value) (an:Option Addr) (cdv ct:Value) (osl:Array (Option Value)),
  fd=PySem.W.fnOf x qual (zas st) (zar st) (zag st) dV kV doc pm an cdv ct/\K.lookup f=some ⟨oc,od,.func fd,osl⟩/\PySem.W.codeIn K cdv qual=true
theorem zdl {K:PySem.W.Frag} {x qual:Str} {st:Stmt} {f:Addr} {oc:Value} {od an:Option Addr} {osl:Array (Option Value)} {dV kV doc pm cdv ct:Value} (l:K.lookup f=some ⟨oc,od,.func (PySem.W.fnOf x qual (zas st) (zar st) (zag st) dV kV doc pm an cdv ct),osl⟩)
    (c:PySem.W.codeIn K cdv qual=true):FunE K x qual st f (PySem.W.fnOf x qual (zas st) (zar st) (zag st) dV kV doc pm an cdv ct):=⟨⟨oc,od,dV,kV,doc,pm,an,cdv,ct,osl,rfl,l,c⟩⟩
theorem zfl {K:PySem.W.Frag} {fd:FuncData} {ps:List Str} {ds:List Value} {T:Addr} {oc:Value} {od:Option Addr} {n:Nat} {osl:Array (Option Value)} {items:Array Value} (hd:fd.defaults = .ref T) (lk:K.lookup T=some ⟨oc,od,.seq items n,osl⟩)
    (h:∀ us:List Value,(us++ds).length=ps.length->∃ k:Option (Array Value)->Sem (List (Str×Value)),bindArgs fd ⟨us,[]⟩ = seqItems? fd.defaults >>= k/\k (some items)=pure (ps.zip (us++ds))):Binds K fd ps ds:=fun s us kx hl=>by
  obtain ⟨k,h1,h2⟩:=h us hl
  exact BindsTo.of_defaults hd (kx _ _ lk) rfl h1 h2
structure MethD (P:Program) (w:World) (K:PySem.W.Frag) (mg:Str->Option Value) (base:Heap) (CX:CXT) (k:Nat) (C:Addr) (m:Str) (ps:List Str) (dss:List (List V)) (sp:Sp):Prop where
 ex:∃ (f:Addr) (fd:FuncData),FnOk P w K mg base CX k f fd ps sp/\Meth K C m f/\∀ dvs∈dss,BindsV K fd ps dvs
structure MkD (P:Program) (w:World) (K:PySem.W.Frag) (mg:Str->Option Value) (base:Heap) (CX:CXT) (k:Nat) (C:Addr) (ps:List Str) (dss:List (List V)) (sp:Sp):Prop where
 ex:∃ (f:Addr) (fd:FuncData),FnOk P w K mg base CX k f fd ps sp/\Mk K C f/\∀ dvs∈dss,BindsV K fd ps dvs
structure SrcM (K:PySem.W.Frag) (C:Addr) (m qual:Str) (st:Stmt) (ps:List Str) (dss:List (List V)):Prop where
 ex:∃ (f:Addr) (fd:FuncData),FunE K m qual st f fd/\Meth K C m f/\∀ dvs∈dss,BindsV K fd ps dvs
structure SrcK (K:PySem.W.Frag) (C:Addr) (qual:Str) (st:Stmt) (ps:List Str) (dss:List (List V)):Prop where
 ex:∃ (f:Addr) (fd:FuncData),FunE K "__init__" qual st f fd/\Mk K C f/\∀ dvs∈dss,BindsV K fd ps dvs
section
variable {P:Program} {w:World} {K:PySem.W.Frag} {mg:Str->Option Value} {base:Heap} {CX:CXT} {C:Addr} {m qual:Str} {st:Stmt} {N ps:List Str} {dss:List (List V)} {k:Nat} {sp:Sp}
theorem SrcM.okN (F:SrcM K C m qual st ps dss) (S:FnScope N ps (zag st)) (len:∀ vs H Q E,sp vs H Q E->vs.length=ps.length)
    (hbody:∀ (f:Addr) (cdv:Value) (A:Around) (outer:List Env) (s:Shared) (H:Hp) (vs:List V) (Q:VK) (E:XK),Room k (A.deeper (envOfC qual (zag st) s.heap.objs.size f cdv))->sp vs H Q E ->
      ∃ t,PSs (cxOf CX P w K mg base N qual (zag st) f cdv A outer s H E).nox (zar st) t/\t { nx:=fun _ H'=>Q .non H',rt:=Q } (start N vs) H):MethD P w K mg base CX (k+1) C m ps dss sp:=by
  obtain ⟨f,fd,F,me,b⟩:=F.ex
  obtain ⟨oc,od,dV,kV,doc,pm,an,cdv,ct,osl,rfl,lk,hcd⟩:=F.ex
  exact ⟨f,_,fn_of lk hcd S len fun A outer s H vs Q E hr hsp=>by
    obtain ⟨t,h,q⟩:=hbody f cdv A outer s H vs Q E hr hsp
    exact ⟨t,h.nox,q⟩,me,b⟩
theorem SrcK.okN (F:SrcK K C qual st ps dss) (S:FnScope N ps (zag st)) (len:∀ vs H Q E,sp vs H Q E->vs.length=ps.length)
    (hbody:∀ (f:Addr) (cdv:Value) (A:Around) (outer:List Env) (s:Shared) (H:Hp) (vs:List V) (Q:VK) (E:XK),Room k (A.deeper (envOfC qual (zag st) s.heap.objs.size f cdv))->sp vs H Q E ->
      ∃ t,PSs (cxOf CX P w K mg base N qual (zag st) f cdv A outer s H E).nox (zar st) t/\t { nx:=fun _ H'=>Q .non H',rt:=Q } (start N vs) H):MkD P w K mg base CX (k+1) C ps dss sp:=by
  obtain ⟨f,fd,F,me,b⟩:=F.ex
  obtain ⟨oc,od,dV,kV,doc,pm,an,cdv,ct,osl,rfl,lk,hcd⟩:=F.ex
  exact ⟨f,_,fn_of lk hcd S len fun A outer s H vs Q E hr hsp=>by
    obtain ⟨t,h,q⟩:=hbody f cdv A outer s H vs Q E hr hsp
    exact ⟨t,h.nox,q⟩,me,b⟩
end
def znk (C:Addr) (m:Str) (sp:Sp) (dvs:List V) (Ek:XH) (ta:TE) (t:TA):TE:=fun σ H Q=>ta σ H fun x H1=>∃ a dx fs,x = .ref a/\H1 a=some (.ins C dx fs)/\fs.lookup m=none /\
 t σ H1 fun vs H2=>sp (x :: (vs++dvs)) H2 Q (fun v d H'=>Ek v d σ H')
def tMakeX (C:Addr) (sp:Sp) (dvs:List V) (Ek:XH) (t:TA):TE:=fun σ H Q=>t σ H fun vs H1=>∀ x dx,H1 x=none->H1 dx=none->dx≠x ->
 sp (.ref x :: (vs++dvs)) (upd (upd H1 dx (.own x)) x (.ins C dx [])) (fun v H2=>v = .non/\Q (.ref x) H2) (fun v d H'=>Ek v d σ H')
section
variable {X:Cx} {CX:CXT} {k:Nat} {f C:Addr} {fd:FuncData} {ps:List Str} {sp:Sp} {dvs:List V} {dss:List (List V)} {Ek:XH} {x m:Str} {p pos apos:Pos} {e o:Expr} {es:List Expr} {ta:TE} {t:TA}
theorem zmh {pins:List (Addr×Obj)} {σ:St} {H:Hp} {s:Shared} {Q:VK} {us:List Value} {vs:List V} (F:FnOk X.prog X.w X.K X.mg X.base CX k f fd ps sp) (hr:Room k X.A) (hb:BindsV X.K fd ps dvs) (hx:zeu CX X Ek)
    (I:Inv X pins σ H s) (r:Vals vs us) (h:sp (vs++dvs) H Q (fun v d H'=>Ek v d σ H')):wpAny (model X.prog X.w) X.A (call (.ref f) us) (EP X pins σ Q) X.xe s:=by
  obtain ⟨ds,hd,hb⟩:=hb
  have r2:Vals (vs++dvs) (us++ds):=r.append hd
  have hl:(us++ds).length=ps.length:=by rw [<- r2.length]; exact F.len _ _ _ _ h
  refine wpAny_call (codeAny_mono (F.run X.A X.stack s H ⟨us,[]⟩ (us++ds) (vs++dvs) Q _ hr I.env0 (hb s us I.kIn hl) r2 h) fun r s' hq=>?_)
  cases r with
  | error e=>exact hx pins σ H s e s' I hq
  | ok fl =>
    cases fl with
    | ret u=>exact I.after hq
    | next=>exact False.elim hq
    | brk=>exact False.elim hq
    | cont=>exact False.elim hq
theorem zeh {pl:Sem Bool} (D:MethD X.prog X.w X.K X.mg X.base CX k C m ps dss sp) (hin:dvs∈dss) (c:Cls X.K C) (hr:Room k X.A) (hx:zeu CX X Ek) (he:PE X o ta) (ha:PA X (e :: es) t)
    (hst:starEach (e :: es) X.env=(false,eval e X.env) :: starEach es X.env:=by rfl) (hpl:(backTo pos (starEach es X.env)).any (·.1)=false:=by rfl)
    (ht:eval (.Call (.Attribute o m apos) (e :: es) [] pos) X.env=(do
      let ov <- eval o X.env
      standAt apos.atName
      let (f,first) <- holding [ov] (getMethod ov m pl)
      callWith pos f first (backTo pos (starEach (e :: es) X.env)) (backToKw pos (keywordEach [] X.env))):=by rfl) :
    PE X (.Call (.Attribute o m apos) (e :: es) [] pos) (znk C m sp dvs Ek ta t):=by
  obtain ⟨f,fd,F,hm,hb⟩:=D.ex
  intro pins s σ H Q I h
  refine PySem.W.methodCall_KW (pl:=pl) (thn (he pins s σ H _ I h) fun u s1 ⟨x,H1,I1,rx,a,dx,fs,ex,ea,l,q⟩=>?_) ht
  subst ex
  obtain rfl:u=Value.ref a:=rx
  refine zjc I1 ea c hm l ?_
  refine PySem.W.callWith_K (first:=[.ref a]) (h₀:=X.base) I.ok.mod.kin hm.kp (thn (ha pos pins s1 σ H1 _ I1 q) fun us s2 ⟨vs,H2,I2,r,q2⟩=>⟨I2.kIn,?_⟩) hst hpl
  exact zmh (us:=.ref a :: us) (vs:=.ref a :: vs) F hr (hb _ hin) hx I2 (.cons rfl r) q2
theorem zff {pl:Sem Bool} (D:MethD X.prog X.w X.K X.mg X.base CX k C m ps dss sp) (hin:dvs∈dss) (c:Cls X.K C) (hr:Room k X.A) (hx:zeu CX X Ek) (he:PE X o ta)
    (ht:eval (.Call (.Attribute o m apos) [] [] pos) X.env=(do
      let ov <- eval o X.env
      standAt apos.atName
      let (f,first) <- holding [ov] (getMethod ov m pl)
      callWith pos f first (backTo pos (starEach [] X.env)) (backToKw pos (keywordEach [] X.env))):=by rfl) :
    PE X (.Call (.Attribute o m apos) [] [] pos) (znk C m sp dvs Ek ta tNil):=by
  obtain ⟨f,fd,F,hm,hb⟩:=D.ex
  intro pins s σ H Q I h
  refine PySem.W.methodCall_KW (pl:=pl) (thn (he pins s σ H _ I h) fun u s1 ⟨x,H1,I1,rx,a,dx,fs,ex,ea,l,q⟩=>?_) ht
  subst ex
  obtain rfl:u=Value.ref a:=rx
  refine zjc I1 ea c hm l ?_
  exact PySem.W.callWith_K0 (first:=[.ref a]) I1.kIn hm.kp (zmh (us:=[.ref a]) (vs:=[.ref a]) F hr (hb _ hin) hx I1 (.cons rfl .nil) q)
theorem zpv {pins:List (Addr×Obj)} {σ:St} {H:Hp} {s:Shared} {Q:VK} {us:List Value} {vs:List V} (M:Mk X.K C f) (F:FnOk X.prog X.w X.K X.mg X.base CX k f fd ps sp) (hr:Room (k+1) X.A) (hb:BindsV X.K fd ps dvs)
    (hx:zeu CX X Ek) (I:Inv X pins σ H s) (r:Vals vs us)
    (h:∀ x dx,H x=none->H dx=none->dx≠x->sp (.ref x :: (vs++dvs)) (upd (upd H dx (.own x)) x (.ins C dx [])) (fun v H2=>v = .non/\Q (.ref x) H2) (fun v d H'=>Ek v d σ H')) :
    wpAny (model X.prog X.w) X.A (call (.ref C) us) (EP X pins σ Q) X.xe s:=by
  obtain ⟨ds,hd,hb⟩:=hb
  have hq:=h (s.heap.objs.size+1) s.heap.objs.size (I.hok.fresh (Nat.le_succ _)) (I.hok.fresh (Nat.le_refl _)) (Nat.ne_of_lt (Nat.lt_succ_self _))
  have I2:=Inv.made (C:=C) I
  have r2:Vals (V.ref (s.heap.objs.size+1) :: (vs++dvs)) (Value.ref (s.heap.objs.size+1) :: (us++ds)):=.cons rfl (r.append hd)
  have hl:(Value.ref (s.heap.objs.size+1) :: us++ds).length=ps.length:=by
    have e:=r2.length
    rw [F.len _ _ _ _ hq] at e
    exact e.symm
  refine wpAny_call (zrl (f:=f) I.kIn M.makes M.init (beq_iff_eq.mp M.fn) (codeAny_mono (F.run _ X.stack _ _ ⟨Value.ref (s.heap.objs.size+1) :: us,[]⟩ (Value.ref (s.heap.objs.size+1) :: (us++ds)) _ _ _ (hr.make C us [])
    (I2.env0.make C us []) (hb _ (Value.ref (s.heap.objs.size+1) :: us) I2.kIn hl) r2 hq) fun r s' hq'=>?_))
  cases r with
  | error e=>exact hx pins σ _ _ e s' I2 hq'
  | ok fl =>
    cases fl with
    | ret u =>
      obtain ⟨v,H',I3,rv,ev,q3⟩:=I2.after hq'
      subst ev
      exact ⟨rv,⟨V.ref (s.heap.objs.size+1),H',I3,rfl,q3⟩⟩
    | next=>exact False.elim hq'
    | brk=>exact False.elim hq'
    | cont=>exact False.elim hq'
theorem zic (D:MkD X.prog X.w X.K X.mg X.base CX k C ps dss sp) (hin:dvs∈dss) (hr:Room (k+1) X.A) (hx:zeu CX X Ek) (hg:Gl X x) (hm:X.mg x=some (.ref C))
    (hdb:(x == ("__debug__" : Str))=false:=by decide):PE X (.Call (.Name x p) [] [] pos) (tMakeX C sp dvs Ek tNil):=by
  obtain ⟨f,fd,F,M,hb⟩:=D.ex
  intro pins s σ H Q I h
  refine wpAny_Call_Name_kw (zhs I hg hm ?_ hdb)
  exact PySem.W.callWith_K0 I.kIn M.kp (zpv (us:=[]) M F hr (hb _ hin) hx I .nil h)
end
section
variable {X:Cx}
end
end L2
namespace L2
open PySem PySem.Spec PyProof.Rows
def Itrs (lo c:Int) (n:Nat):It:=⟨fun i _=>i<n,fun i H x H'=>H'=H/\x = .int (lo+i*c),fun i _=>n<=i⟩
structure RngOk (i j c:Int) (n:Nat):Prop where
 nz:c≠0
 np:Builtin.divisionGoesByPylong (j-i) c=false
 sm:Builtin.Range.small i j c=true
 eq:(n:Int)=Builtin.Range.rangeSize i j c
def iRng3 (ta:TA):TI:=fun σ H R=>ta σ H fun vs H1=>∃ i j c n,vs = [.int i,.int j,.int c]/\RngOk i j c n/\R (Itrs i c n) H1
section
variable {X:Cx} {tg:Expr}
end
theorem zbo {wi:TI} {g:TG} {tb:TS} {D:Ends} {σ:St} {H:Hp} (h:∀ Z:It->Hp->Prop,(∀ J H1,(∃ W:Nat->Nat->St->Hp->Prop,(∃ m,W 0 m σ H1)/\∀ i m σ H,W i m σ H ->
 (J.stop i H/\D.nx σ H)\/(J.go i H/\∃ N:St->Hp->Prop,(∀ σ' H',N σ' H'->∃ m',m' < m/\W (i+1) m' σ' H')/\∀ x H',J.yld i H x H'->g x σ H' fun σ2 H2=>tb { D with nx:=N,ct:=N,bk:=D.nx } σ2 H2))->Z J H1)->wi σ H Z):tFor wi g tb D σ H:=h _ fun _ _ x=>x
section
variable {X:Cx}
end
end L2
namespace Sw
theorem q_cast_ne {d:Int} (h:d≠0):(d:Rat)≠0:=by
 intro z
 exact h (Rat.intCast_inj.mp (by rw [z]; rfl))
theorem zbd {d:Int} (h:0<d):(0:Rat)<(d:Rat):=by
 have:((0:Int):Rat)<(d:Rat):=Rat.intCast_lt_intCast.mpr h
 exact this
theorem zww (q:Rat):(q.num:Rat) / ((q.den:Int):Rat)=q:=by
 rw [<- Rat.divInt_eq_div]; exact Rat.num_divInt_den q
theorem zpw (q:Rat):0<(q.den:Int):=by
 have:=q.den_nz
 omega
theorem q_den_ne (q:Rat):(q.den:Int)≠0:=by
 have:=q.den_nz
 omega
theorem q_num (q:Rat):(q.num:Rat)=q*((q.den:Int):Rat):=by
 have h:=zww q
 have d:=q_cast_ne (q_den_ne q)
 grind
theorem q_low (q:Rat):dv q.num q.den = 1:=by
 unfold dv
 have:=q.reduced
 unfold Nat.Coprime at this
 show ((Nat.gcd q.num.natAbs (q.den:Int).natAbs:Nat):Int) = 1
 rw [Int.natAbs_natCast,this]
 rfl
theorem q_fr (q:Rat):Fr q.num q.den:=⟨zpw q,q_low q⟩
theorem fr_q {n d:Int} (f:Fr n d):((n:Rat) / (d:Rat)).num=n/\((((n:Rat) / (d:Rat)).den:Nat):Int)=d:=by
 have hd:d≠0:=by have:=f.pos; omega
 refine Fr.uniq (q_fr _) f ?_
 have h:=q_num ((n:Rat) / (d:Rat))
 generalize hq:(n:Rat) / (d:Rat)=q at h ⊢
 have e:(n:Rat)=q*d:=by have:=q_cast_ne hd; grind
 have:((q.num*d:Int):Rat)=((n*(q.den:Int):Int):Rat):=by
  rw [Rat.intCast_mul,Rat.intCast_mul]
  grind
 exact Rat.intCast_inj.mp this
theorem zuk {q:Rat} {n d:Int} (hd:d≠0) (h:q=(n:Rat) / (d:Rat)):q.num*d=(q.den:Int)*n:=by
 have h1:=q_cast_ne hd
 have:((q.num*d:Int):Rat)=(((q.den:Int)*n:Int):Rat):=by
  rw [Rat.intCast_mul,Rat.intCast_mul,q_num]
  grind
 exact Rat.intCast_inj.mp this
theorem q_lt {a b:Rat}:a.num*(b.den:Int)<b.num*(a.den:Int)↔a<b:=(Rat.lt_iff a b).symm
structure SzQ (z:Nat) (q:Rat):Prop where
 n:Sz z q.num
 d:Sz z (q.den:Int)
theorem SzQ.mono {m n:Nat} {q:Rat} (h:SzQ m q) (k:m<=n):SzQ n q:=⟨h.n.mono k,h.d.mono k⟩
theorem zrr {n d x:Int} (h:dv n d = 1) (q:n ∣ d*x):n ∣ x:=zkc (by rw [zua]; exact h) q
theorem SzQ.of {z:Nat} {q:Rat} {n d:Int} (hd:d≠0) (h:q=(n:Rat) / (d:Rat)) (s1:Sz z n) (s2:Sz z d):SzQ z q:=by
 have c:=zuk hd h
 refine ⟨?_,?_⟩
 ·by_cases hn:n = 0
  ·subst hn
   rw [Int.mul_zero] at c
   have:q.num = 0:=by
    rcases Int.mul_eq_zero.mp c with z | z
    ·exact z
    ·exact absurd z hd
   rw [this]; exact Sz.zero z
  ·exact s1.dvd (zrr (q_low q) ⟨d,c.symm⟩) hn
 ·exact s2.dvd (zkc (q_low q) ⟨n,c⟩) hd
theorem SzQ.int {z:Nat} {n:Int} (h:Sz (z+1) n):SzQ (z+1) (n:Rat):=⟨by rw [Rat.num_intCast]; exact h,by rw [Rat.den_intCast]; exact Sz.one z⟩
theorem add_q (a b:Rat):((a.num*(b.den:Int)+b.num*(a.den:Int):Int):Rat) / (((a.den:Int)*(b.den:Int):Int):Rat)=a+b:=by
 rw [Rat.intCast_add,Rat.intCast_mul,Rat.intCast_mul,Rat.intCast_mul,q_num a,q_num b]
 have h1:=q_cast_ne (q_den_ne a)
 have h2:=q_cast_ne (q_den_ne b)
 grind
theorem sub_q (a b:Rat):((a.num*(b.den:Int)-b.num*(a.den:Int):Int):Rat) / (((a.den:Int)*(b.den:Int):Int):Rat)=a-b:=by
 rw [Rat.intCast_sub,Rat.intCast_mul,Rat.intCast_mul,Rat.intCast_mul,q_num a,q_num b]
 have h1:=q_cast_ne (q_den_ne a)
 have h2:=q_cast_ne (q_den_ne b)
 grind
theorem mul_q (a b:Rat):((a.num*b.num:Int):Rat) / (((a.den:Int)*(b.den:Int):Int):Rat)=a*b:=by
 rw [Rat.intCast_mul,Rat.intCast_mul,q_num a,q_num b]
 have h1:=q_cast_ne (q_den_ne a)
 have h2:=q_cast_ne (q_den_ne b)
 grind
theorem div_q (a b:Rat) (hb:b.num≠0):((a.num*(b.den:Int):Int):Rat) / (((a.den:Int)*b.num:Int):Rat)=a / b:=by
 rw [Rat.intCast_mul,Rat.intCast_mul,q_num a,q_num b]
 have h1:=q_cast_ne (q_den_ne a)
 have h2:=q_cast_ne (q_den_ne b)
 have h3:=q_cast_ne hb
 rw [q_num b] at h3
 grind
theorem SzQ.div {m n:Nat} {a b:Rat} (hb:b.num≠0) (h:SzQ m a) (k:SzQ n b):SzQ (m+n) (a / b) :=
 .of (Int.mul_ne_zero (q_den_ne a) hb) (div_q a b hb).symm (h.n.mul k.d) (h.d.mul k.n)
theorem q_num_ne {q:Rat} (h:q≠0):q.num≠0:=by
 intro z
 have:=q_num q
 rw [z] at this
 have d:=q_cast_ne (q_den_ne q)
 apply h
 have:(0:Rat)=q*((q.den:Int):Rat):=this
 grind
end Sw
namespace L2
def fq (q:Rat):List V:=[.int q.num,.int (q.den:Int)]
theorem zwx {t b:Int} (hb:b≠0):f2 (Sw.nrm (t,b))=fq ((t:Rat) / (b:Rat)):=by
 have f:=Sw.nrm_fr (q:=(t,b)) hb
 have c:=Sw.nrm_cross (q:=(t,b)) hb
 have e:((Sw.nrm (t,b)).1:Rat) / ((Sw.nrm (t,b)).2:Rat)=(t:Rat) / (b:Rat):=by
  have h1:=Sw.q_cast_ne hb
  have h2:(((Sw.nrm (t,b)).2:Int):Rat)≠0:=Sw.q_cast_ne (by have:=f.pos; omega)
  have c':(((Sw.nrm (t,b)).1*b:Int):Rat)=(((Sw.nrm (t,b)).2*t:Int):Rat):=by rw [c]
  rw [Rat.intCast_mul,Rat.intCast_mul] at c'
  grind
 have g:=Sw.fr_q f
 rw [e] at g
 unfold f2 fq
 rw [g.1,g.2]
theorem zwy (n:Int):[V.int n,V.int 1] = fq (n:Rat):=by
 unfold fq
 rw [Rat.num_intCast,Rat.den_intCast]
 rfl
end L2
namespace Sw
theorem SzQ.min {z:Nat} {a b:Rat} (ha:SzQ z a) (hb:SzQ z b):SzQ z (min a b):=by
 rw [Rat.min_def]
 split
 ·exact ha
 ·exact hb
end Sw
namespace L2
open PySem PySem.Spec PyProof.Rows
def But (p:Addr) (H H':Hp):Prop:=∀ b o,b≠p->H b=some o->H' b=some o
theorem zkf {p:Addr} {H:Hp} {o:HO}:But p H (upd H p o):=fun b u n e=>by rw [zai n]; exact e
theorem zgd:∀ {fs:List (Str×V)} {f:Str} {v w:V},fs.lookup f=some w->(putF f v fs).length=fs.length
 | [],f,v,w,h=>by cases h
 | (g,x) :: r,f,v,w,h=>by
  unfold putF
  by_cases e:g=f
  ·rw [if_pos e]; rfl
  ·rw [if_neg e]
   have hb:(f == g)=false:=beq_eq_false_iff_ne.mpr fun z=>e z.symm
   simp only [List.lookup,hb] at h
   show (putF f v r).length+1=r.length+1
   rw [zgd h]
theorem zbk:∀ {fs:List (Str×V)} {f:Str} {v:V},(putF f v fs).length<=fs.length+1
 | [],f,v=>Nat.le_refl _
 | (g,x) :: r,f,v=>by
  unfold putF
  by_cases e:g=f
  ·rw [if_pos e]; exact Nat.le_succ _
  ·rw [if_neg e]
   show (putF f v r).length+1<=r.length+1+1
   have:=zbk (fs:=r) (f:=f) (v:=v)
   omega
end L2
namespace L2
open PySem PySem.Spec PyProof.Rows
def rFld (K:PySem.W.Frag) (f:Str) (x:V) (H:Hp) (Q:VK):Prop:=∃ a C dx fs v,x = .ref a/\H a=some (.ins C dx fs)/\Cls K C/\NoAttr K C f/\fs.lookup f=some v/\Q v H
theorem tFld_eq {K:PySem.W.Frag} {ta:TE} {f:Str} {σ:St} {H:Hp} {Q:VK}:tFld K ta f σ H Q=ta σ H fun x H1=>rFld K f x H1 Q:=rfl
theorem zbt {K:PySem.W.Frag} {f:Str} {a C dx:Addr} {fs:List (Str×V)} {v:V} {H:Hp} {Q:VK} (h:H a=some (.ins C dx fs)) (c:Cls K C) (n:NoAttr K C f) (l:fs.lookup f=some v) (q:Q v H):rFld K f (.ref a) H Q:=⟨a,C,dx,fs,v,rfl,h,c,n,l,q⟩
def rSet (K:PySem.W.Frag) (f:Str) (y x:V) (H:Hp) (Z:Hp->Prop):Prop:=∃ a C dx fs,x = .ref a/\H a=some (.ins C dx fs)/\Cls K C/\NoAttr K C f/\fs.length<1000/\Z (upd H a (.ins C dx (putF f y fs)))
theorem sFld_eq {K:PySem.W.Frag} {ta tv:TE} {f:Str} {D:Ends} {σ:St} {H:Hp}:sFld K ta tv f D σ H=tv σ H fun y H1=>ta σ H1 fun x H2=>rSet K f y x H2 (D.nx σ):=rfl
theorem zfb {K:PySem.W.Frag} {f:Str} {y:V} {a C dx:Addr} {fs:List (Str×V)} {H:Hp} {Z:Hp->Prop} (h:H a=some (.ins C dx fs)) (c:Cls K C) (n:NoAttr K C f) (l:fs.length<1000) (q:Z (upd H a (.ins C dx (putF f y fs)))):rSet K f y (.ref a) H Z:=⟨a,C,dx,fs,rfl,h,c,n,l,q⟩
def rMeth (C:Addr) (m:Str) (x:V) (H:Hp) (Z:Prop):Prop:=∃ a dx fs,x = .ref a/\H a=some (.ins C dx fs)/\fs.lookup m=none/\Z
theorem tMethX_eq {C:Addr} {m:Str} {sp:Sp} {dvs:List V} {Ek:XH} {ta:TE} {t:TA} {σ:St} {H:Hp} {Q:VK} :
    znk C m sp dvs Ek ta t σ H Q=ta σ H fun x H1=>rMeth C m x H1 (t σ H1 fun vs H2=>sp (x :: (vs++dvs)) H2 Q (fun v d H'=>Ek v d σ H')):=by
  unfold znk rMeth
  rfl
theorem zdh {C:Addr} {m:Str} {a dx:Addr} {fs:List (Str×V)} {H:Hp} {Z:Prop} (h:H a=some (.ins C dx fs)) (l:fs.lookup m=none) (z:Z):rMeth C m (.ref a) H Z:=⟨a,dx,fs,rfl,h,l,z⟩
theorem zge {H:Hp} {x dx C:Addr} (h1:H x=none) (h2:H dx=none):Same H (upd (upd H dx (.own x)) x (.ins C dx [])):=fun b o e=>by
 rw [zai (zah e h1),zai (zah e h2)]
 exact e
theorem But.same {x:Addr} {H H1 H':Hp} (b:But x H1 H') (s:Same H H1) (h:H x=none):Same H H':=fun c o e=>b c o (zah e h) (s c o e)
theorem zfs {H:Hp} {p:Addr} {n:Int}:upd H p (.tup [.int n,.int 1]) p=some (.tup (fq (n:Rat))):=by rw [zab,zwy]
end L2
namespace L2
open PySem PySem.Spec PyProof.Rows
theorem zby {t:TS} {D:Ends} {σ:St} {H:Hp} (h:∀ R:St->Hp->Prop,(∀ σ H,D.nx σ H->R σ H)->t { D with nx:=R } σ H):t D σ H:=h D.nx fun _ _ x=>x
theorem zpx {K:PySem.W.Frag} {H:Hp} {p:Addr} {q:Rat} (h:H p=some (.tup (fq q))):Deep K H (.ref p) (.tuple [.int q.num,.int (q.den:Int)]):=.tup (.of h) (.cons (.int _) (.cons (.int _) .nil))
end L2
namespace L2
open PySem PySem.Spec PyProof.Rows
end L2
namespace Sw
end Sw
namespace L2
open PySem PySem.Spec PyProof.Rows
end L2
namespace L2
open PySem PySem.Spec PyProof.Rows
section
variable {κ:Type} [DecidableEq κ]
def valV (kvs:List (κ×V)) (k:κ):Option V:=(kvs.find? fun kv=>decide (kv.1=k)).map (·.2)
def putK (kvs:List (κ×V)) (k:κ) (v:V):List (κ×V) :=
 if (kvs.any fun kv=>decide (kv.1=k))=true then kvs.map (fun kv=>if kv.1=k then (kv.1,v) else kv) else kvs++[(k,v)]
theorem zcr {p:κ×V} {r:List (κ×V)} {k:κ} (e:p.1=k):valV (p :: r) k=some p.2:=by simp [valV,List.find?_cons,e]
theorem zcs {p:κ×V} {r:List (κ×V)} {k:κ} (e:¬ p.1=k):valV (p :: r) k=valV r k:=by simp [valV,List.find?_cons,e]
theorem zho (k:κ):∀ kvs:List (κ×V),(kvs.any fun kv=>decide (kv.1=k))=(valV kvs k).isSome
 | []=>rfl
 | p :: r=>by
  rw [List.any_cons]
  by_cases e:p.1=k
  ·simp only [zcr e,decide_eq_true e,Bool.true_or,Option.isSome_some]
  ·rw [zcs e,decide_eq_false e,Bool.false_or]; exact zho k r
theorem znl (k j:κ) (y:V):∀ kvs:List (κ×V),valV (kvs.map fun kv=>if kv.1=k then (kv.1,y) else kv) j=(valV kvs j).map fun x=>if j=k then y else x
 | []=>rfl
 | p :: r=>by
  have ih:=znl k j y r
  rw [List.map_cons]
  by_cases h:p.1=k
  ·rw [if_pos h]
   by_cases e:p.1=j
   ·rw [zcr (p:=(p.1,y)) e,zcr e,Option.map_some,if_pos (e.symm.trans h)]
   ·rw [zcs (p:=(p.1,y)) e,zcs e,ih]
  ·rw [if_neg h]
   by_cases e:p.1=j
   ·rw [zcr (p:=p) e,zcr e,Option.map_some,if_neg (fun z=>h (e.trans z))]
   ·rw [zcs (p:=p) e,zcs e,ih]
theorem zld (k j:κ) (y:V):∀ kvs:List (κ×V),valV kvs k=none->valV (kvs++[(k,y)]) j=if j=k then some y else valV kvs j
 | [],_=>by
  by_cases e:k=j
  ·rw [if_pos e.symm]; exact zcr (p:=(k,y)) e
  ·rw [if_neg (fun z=>e z.symm)]; exact zcs (p:=(k,y)) e
 | p :: r,hn=>by
  rw [List.cons_append]
  have hk:¬ p.1=k:=fun z=>by rw [zcr z] at hn; cases hn
  rw [zcs hk] at hn
  have ih:=zld k j y r hn
  by_cases e:p.1=j
  ·rw [zcr e,zcr e,if_neg (fun z=>hk (e.trans z))]
  ·rw [zcs e,zcs e,ih]
theorem zkg (kvs:List (κ×V)) (k j:κ) (y:V):valV (putK kvs k y) j=if j=k then some y else valV kvs j:=by
 unfold putK
 by_cases a:(kvs.any fun kv=>decide (kv.1=k))=true
 ·rw [if_pos a,znl]
  rw [zho] at a
  by_cases e:j=k
  ·obtain ⟨x,hx⟩:=Option.isSome_iff_exists.mp a
   rw [if_pos e,e,hx,Option.map_some,if_pos rfl]
  ·rw [if_neg e]
   cases valV kvs j with
   | none=>rfl
   | some x=>rw [Option.map_some,if_neg e]
 ·rw [if_neg a]
  refine zld k j y kvs ?_
  rw [zho] at a
  cases q:valV kvs k with
  | none=>rfl
  | some x=>rw [q] at a; exact (a rfl).elim
theorem zew (kvs:List (κ×V)) (k:κ) (v:V):(putK kvs k v).length<=kvs.length+1:=by
 unfold putK
 split
 ·rw [List.length_map]; omega
 ·rw [List.length_append,List.length_cons,List.length_nil]; omega
theorem RelO.isSome_eq {o:Option V} {u:Option Value} (r:RelO o u):o.isSome=u.isSome:=by
 cases o with
 | none=>cases u with
  | none=>rfl
  | some _=>exact (show False from r).elim
 | some _=>cases u with
  | none=>exact (show False from r).elim
  | some _=>rfl
theorem RelO.getD {o:Option V} {u:Option Value} {d:V} {d':Value} (r:RelO o u) (rd:RelV d d'):RelV (o.getD d) (u.getD d'):=by
 cases o with
 | none=>cases u with
  | none=>exact rd
  | some _=>exact (show False from r).elim
 | some _=>cases u with
  | none=>exact (show False from r).elim
  | some _=>exact r
theorem KV.val {kvs:List (κ×V)} {vs:List (κ×Value)} (r:KV kvs vs) (k:κ):RelO (valV kvs k) (valueAt vs k):=by
 unfold KV at r
 induction r with
 | nil=>exact True.intro
 | @cons p q ps qs h t ih =>
  obtain ⟨h1,h2⟩:=h
  by_cases e:p.1=k
  ·have e':q.1=k:=h1.symm.trans e
   have b:valueAt (q :: qs) k=some q.2:=by simp [valueAt,List.find?_cons,e']
   rw [zcr e,b]; exact h2
  ·have e':¬ q.1=k:=fun z=>e (h1.trans z)
   have b:valueAt (q :: qs) k=valueAt qs k:=by simp [valueAt,List.find?_cons,e']
   rw [zcs e,b]; exact ih
theorem KV.any {kvs:List (κ×V)} {vs:List (κ×Value)} (r:KV kvs vs) (k:κ):(kvs.any fun kv=>decide (kv.1=k))=vs.any fun kv=>decide (kv.1=k):=by
 unfold KV at r
 induction r with
 | nil=>rfl
 | cons h t ih=>rw [List.any_cons,List.any_cons,ih,h.1]
theorem KV.repl {kvs:List (κ×V)} {vs:List (κ×Value)} (r:KV kvs vs) (k:κ) {y:V} {u:Value} (ry:RelV y u) :
    KV (kvs.map fun kv=>if kv.1=k then (kv.1,y) else kv) (vs.map fun kv=>if kv.1=k then (kv.1,u) else kv):=by
  unfold KV at r ⊢
  induction r with
  | nil=>exact .nil
  | @cons p q ps qs h t ih =>
    rw [List.map_cons,List.map_cons]
    refine .cons ?_ ih
    obtain ⟨h1,h2⟩:=h
    by_cases e:p.1=k
    · rw [if_pos e,if_pos (h1.symm.trans e)]; exact ⟨h1,ry⟩
    · rw [if_neg e,if_neg (fun z=>e (h1.trans z))]; exact ⟨h1,h2⟩
theorem KV.put {kvs:List (κ×V)} {vs:List (κ×Value)} (r:KV kvs vs) (k:κ) {y:V} {u:Value} (ry:RelV y u):KV (putK kvs k y) (stored vs k u):=by
 unfold putK stored
 rw [r.any k]
 by_cases e:(vs.any fun kv=>decide (kv.1=k))=true
 ·rw [if_pos e,if_pos e]; exact r.repl k ry
 ·rw [if_neg e,if_neg e]; exact Paired.snoc r ⟨rfl,ry⟩
theorem KV.length {kvs:List (κ×V)} {vs:List (κ×Value)} (r:KV kvs vs):kvs.length=vs.length:=Paired.length r
end
theorem kV_is {P:Program} {w:World} {k:Key} {u:Value} (r:RelV (kV k) u):(zca P w).is k u=true:=by
 cases k with
 | inl i=>obtain ⟨t,e⟩:=(show ∃ t,u=Value.int i t from r); subst e; exact zly P w i t
 | inr x=>obtain ⟨t,e⟩:=(show ∃ t,u=Value.str x t from r); subst e; exact zlz P w x t
theorem zle {P:Program} {w:World}:∀ {ks:List Key} {us:List Value},Vals (ks.map kV) us->ItemsAre (zca P w) ks us
 | [],_,r=>by rw [List.map_nil] at r; cases r; exact .nil
 | k :: ks,_,r=>by
  rw [List.map_cons] at r
  cases r with
  | cons h t=>exact .cons (kV_is h) (zle t)
abbrev KT (H:Hp):List (List Key×V)->List (List Key×Addr×Value)->Prop:=Paired fun p q=>p.1=q.1/\H q.2.1=some (.tup (p.1.map kV))/\RelV p.2 q.2.2
theorem KT.val {H:Hp} {kvs:List (List Key×V)} {xs:List (List Key×Addr×Value)} (r:KT H kvs xs) (k:List Key):RelO (valV kvs k) ((atKey xs k).map (·.2)):=by
 induction r with
 | nil=>exact True.intro
 | @cons p q ps qs h t ih =>
  obtain ⟨h1,_,h2⟩:=h
  by_cases e:p.1=k
  ·have e':q.1=k:=h1.symm.trans e
   have b:atKey (q :: qs) k=some q.2:=by simp [atKey,List.find?_cons,e']
   rw [zcr e,b]; exact h2
  ·have e':¬ q.1=k:=fun z=>e (h1.trans z)
   have b:atKey (q :: qs) k=atKey qs k:=by simp [atKey,List.find?_cons,e']
   rw [zcs e,b]; exact ih
theorem KT.repl {H:Hp} {kvs:List (List Key×V)} {xs:List (List Key×Addr×Value)} (r:KT H kvs xs) (k:List Key) {y:V} {u:Value} (ry:RelV y u) :
    KT H (kvs.map fun kv=>if kv.1=k then (kv.1,y) else kv) (xs.map (putAt k u)):=by
  induction r with
  | nil=>exact .nil
  | @cons p q ps qs h t ih =>
    rw [List.map_cons,List.map_cons]
    refine .cons ?_ ih
    obtain ⟨h1,h2,h3⟩:=h
    unfold putAt
    by_cases e:p.1=k
    · rw [if_pos e,if_pos (h1.symm.trans e)]; exact ⟨h1,h2,ry⟩
    · rw [if_neg e,if_neg (fun z=>e (h1.trans z))]; exact ⟨h1,h2,h3⟩
theorem KT.put {H:Hp} {kvs:List (List Key×V)} {xs:List (List Key×Addr×Value)} (r:KT H kvs xs) (k:List Key) {b:Addr} {y:V} {u:Value} (hb:H b=some (.tup (k.map kV))) (ry:RelV y u) :
    KT H (putK kvs k y) (storedH xs k b u):=by
  have e:(kvs.any fun kv=>decide (kv.1=k))=(atKey xs k).isSome:=by
    rw [zho,(r.val k).isSome_eq,Option.isSome_map]
  unfold putK storedH
  rw [e]
  by_cases q:(atKey xs k).isSome=true
  · rw [if_pos q,if_pos q]; exact r.repl k ry
  · rw [if_neg q,if_neg q]; exact Paired.snoc r ⟨rfl,hb,ry⟩
theorem KT.keeps {H H':Hp} {kvs:List (List Key×V)} {xs:List (List Key×Addr×Value)} (r:KT H kvs xs) (ht:∀ b ys,H b=some (.tup ys)->H' b=some (.tup ys)):KT H' kvs xs :=
 Paired.mapP r fun _ _ z=>⟨z.1,ht _ _ z.2.1,z.2.2⟩
section
variable {P:Program} {w:World} {H:Hp} {h:Heap} {a:Addr}
theorem rd_of {u:HO} (ok:HOk P w H h) (e:Rd H a u):ObjOk P w H h a u:=e.ok ok
theorem dk_rd {kvs:List (Key×V)} (ok:HOk P w H h) (e:Rd H a (.dK kvs)):kvs.length<=sizeLine/\(a == sysModules)=false/\∃ vs,KV kvs vs/\h.DictOf (zca P w) a vs :=
 show ObjOk P w H h a (.dK kvs) from rd_of ok e
theorem dk_of {kvs:List (Key×V)} (ok:HOk P w H h) (e:H a=some (.dK kvs)):kvs.length<=sizeLine/\(a == sysModules)=false/\∃ vs,KV kvs vs/\h.DictOf (zca P w) a vs:=dk_rd ok (.inl e)
theorem zlf {ks:List Key} (ok:HOk P w H h) (e:H a=some (.tup (ks.map kV))):(tupleKind (zca P w)).is h ks a:=by
 obtain ⟨_,its,r,o,h1,h2,n,h3⟩:=(show ObjOk P w H h a (.tup (ks.map kV)) from ok a _ e)
 exact ⟨o,its.toArray,n,h1,h2,h3,by simpa using zle r⟩
theorem dt_rd {kvs:List (List Key×V)} (ok:HOk P w H h) (e:Rd H a (.dT kvs)):kvs.length<=sizeLine/\(a == sysModules)=false /\
    ∃ xs,KT H kvs xs/\h.DictOfH (tupleKind (zca P w)) a xs:=by
  obtain ⟨z,y,xs,r,o,es,ep,h1,h2,h3,h4,h5⟩:=(show ObjOk P w H h a (.dT kvs) from rd_of ok e)
  refine ⟨z,y,xs,r,o,es,ep,h1,h2,h3,h4,fun x hx=>?_,h5⟩
  have all:∀ {l:List (List Key×V)} {m:List (List Key×Addr×Value)},KT H l m->∀ x∈m,(tupleKind (zca P w)).is h x.1 x.2.1:=by
    intro l m q
    induction q with
    | nil=>intro x hx; exact nomatch hx
    | @cons p q ps qs hq t ih =>
      intro x hx
      rcases List.mem_cons.mp hx with e | hx
      · subst e
        exact zlf ok (by rw [<- hq.1]; exact hq.2.1)
      · exact ih x hx
  exact all r x hx
theorem dt_of {kvs:List (List Key×V)} (ok:HOk P w H h) (e:H a=some (.dT kvs)):kvs.length<=sizeLine/\(a == sysModules)=false /\
    ∃ xs,KT H kvs xs/\h.DictOfH (tupleKind (zca P w)) a xs:=dt_rd ok (.inl e)
end
def DGet (H:Hp) (a:Addr) (y:V) (r:Option V):Prop :=
 (∃ kvs k,Rd H a (.dK kvs)/\y=kV k/\r=valV kvs k)\/∃ kvs k b,Rd H a (.dT kvs)/\y = .ref b/\H b=some (.tup (k.map kV))/\r=valV kvs k
def DPut (H:Hp) (a:Addr) (y v:V) (H':Hp):Prop :=
 (∃ kvs k,H a=some (.dK kvs)/\y=kV k/\kvs.length<sizeLine/\H'=upd H a (.dK (putK kvs k v))) \/
 ∃ kvs k b,H a=some (.dT kvs)/\y = .ref b/\H b=some (.tup (k.map kV))/\kvs.length<sizeLine/\H'=upd H a (.dT (putK kvs k v))
theorem DGet.k {H:Hp} {a:Addr} {kvs:List (Key×V)} {k:Key} (e:H a=some (.dK kvs)):DGet H a (kV k) (valV kvs k):=.inl ⟨kvs,k,.inl e,rfl,rfl⟩
theorem DPut.k {H:Hp} {a:Addr} {kvs:List (Key×V)} {k:Key} {v:V} (e:H a=some (.dK kvs)) (hl:kvs.length<sizeLine):DPut H a (kV k) v (upd H a (.dK (putK kvs k v))):=.inl ⟨kvs,k,e,rfl,hl,rfl⟩
section
variable {X:Cx} {pins:List (Addr×Obj)} {σ:St} {H:Hp} {s:Shared} {a:Addr} {y v:V} {u r:Value} {o:Option V} {A:Around} {E:Value->Shared->Prop}
theorem Inv.big (I:Inv X pins σ H s):sysModules<s.heap.objs.size:=by
 have h:mainGlobals<s.heap.objs.size:=(I.mod.glob.keeps I.bk).lt
 exact Nat.lt_trans (by decide) h
theorem zpy {Q:Value->Shared->Prop} (hu:A.units+1<cLine) (I:Inv X pins σ H s) (g:DGet H a y (some v)) (ry:RelV y u) (h:∀ w' s',Inv X pins σ H s'->RelV v w'->Q w' s') :
    wpAny (model X.prog X.w) A (getItem (.ref a) u) Q E s:=by
  rcases g with ⟨kvs,k,e,ey,l⟩ | ⟨kvs,k,b,e,ey,eb,l⟩
  · subst ey
    obtain ⟨z,hd,vs,rel,dd⟩:=dk_rd I.hok e
    obtain ⟨w',hw,rw'⟩:=RelO.some_of (v:=v) (o:=valueAt vs k) (by rw [l]; exact rel.val k)
    exact wpAny_getItem_of (kV_is ry) dd.mapOf hw (h w' _ (I.tok _) rw')
  · subst ey
    cases (show u=Value.ref b from ry)
    obtain ⟨z,hd,xs,rel,dd⟩:=dt_rd I.hok e
    obtain ⟨w',hw,rw'⟩:=RelO.some_of (v:=v) (o:=(atKey xs k).map (·.2)) (by rw [l]; exact rel.val k)
    obtain ⟨p,hp,hp2⟩:=Option.map_eq_some_iff.mp hw
    refine wpAny_getItem_heap (tupleKind_room_in1 hu) (zlf I.hok eb) dd hp ?_
    rw [hp2]
    exact h w' _ (I.tok _) rw'
theorem zpz {h':Heap} {t':Nat} {ob:HO} (I:Inv X pins σ H s) (mu:Mut (H a)) (hs:Heap.SameBut a s.heap h') (he:∃ q,h'.get? a=some q) (new:ObjOk X.prog X.w (upd H a ob) h' a ob) :
    Inv X pins σ (upd H a ob) { s with heap:=h',toks:=t' } :=
  I.write (x:=a) (e:=a) mu (.inl rfl) (fun b q hb z=>(hs.2 b hb).trans z) he new
theorem ztd {P:Program} {w:World} {H':Hp} {h':Heap} {kvs:List (Key×V)} {vs:List (Key×Value)} (z:kvs.length<=sizeLine) (hd:(a == sysModules)=false) (rel:KV kvs vs) (dd:h'.DictOf (zca P w) a vs) :
    ObjOk P w H' h' a (.dK kvs):=⟨z,hd,vs,rel,dd⟩
theorem zqa {H':Hp} {Q:Unit->Shared->Prop} (hu:A.units+1<cLine) (I:Inv X pins σ H s) (g:DPut H a y v H') (ry:RelV y u) (rv:RelV v r) (h:∀ s',Inv X pins σ H' s'->Q () s') :
    wpAny (model X.prog X.w) A (setItem (.ref a) u r) Q E s:=by
  rcases g with ⟨kvs,k,e,ey,l,eH⟩ | ⟨kvs,k,b,e,ey,eb,l,eH⟩
  · subst ey eH
    obtain ⟨z,hd,vs,rel,dd⟩:=dk_of I.hok e
    have hz:vs.length<=sizeLine:=by rw [<- rel.length]; exact z
    have hl:(putK kvs k v).length<=sizeLine:=by have:=zew kvs k v; omega
    refine wpAny_setItem_pairs (hsz:=hz) (kV_is ry) dd fun h' dd' hs=>h _ ?_
    have he:∃ q,h'.get? a=some q:=let ⟨q,_,_,hq,_⟩:=dd'; ⟨q,hq⟩
    exact zpz I (by rw [e]; exact True.intro) hs he (ztd hl hd (rel.put k rv) dd')
  · subst ey eH
    cases (show u=Value.ref b from ry)
    obtain ⟨z,hd,xs,rel,dd⟩:=dt_of I.hok e
    have hz:xs.length<=sizeLine:=by rw [<- Paired.length rel]; exact z
    have hl:(putK kvs k v).length<=sizeLine:=by have:=zew kvs k v; omega
    refine wpAny_setItem_heap (hsz:=hz) (tupleKind_room_in1 hu) (zlf I.hok eb) dd fun h' dd' hs=>h _ ?_
    obtain ⟨q,es,ep,hq,h2,h3,h4,_,h5⟩:=dd'
    refine zpz I (by rw [e]; exact True.intro) hs ⟨q,hq⟩ ⟨hl,hd,_,(rel.put k eb rv).keeps fun c ys ec=>?_,q,es,ep,hq,h2,h3,h4,h5⟩
    rw [zai (ne_of ec e (fun z=>nomatch z))]
    exact ec
end
section
variable {X:Cx} {pins:List (Addr×Obj)} {σ:St} {H:Hp} {s:Shared} {a:Addr} {kvs:List (Key×V)} {k:Key} {u:Value} {A:Around} {E:Value->Shared->Prop}
end
def NoSl (i:Expr):Prop:=∀ ov iv,subscripted i false ov iv=operate [ov,iv] (getItem ov iv)
theorem zul {prog:Program} {w:World} {A:Around} {E:Value->Shared->Prop} {s:Shared} {env:Env} {value slice:Expr} {pos:Pos} {T id:String} {Q:Value->Shared->Prop}
    (hl:typeLookup (.type T) "__getitem__" = pure (some (.builtin id))) (hs:NoSl slice)
    (h:wpAny (model prog w) A (eval value env) (fun o s₁=>wpAny (model prog w) A (eval slice env) (fun i s₂=>s₂.TypeIs o T/\wpAny (model prog w) A (getItem o i) Q E s₂) E s₁) E s) :
    wpAny (model prog w) A (eval (.Subscript value slice pos) env) Q E s:=by
  refine Subscript_ (wpAny_mono h (fun o s₁ h₁=>wpAny_mono h₁ (fun i s₂ h₂=>?_) fun _ _ x=>x) fun _ _ x=>x)
  obtain ⟨hT,h₂⟩:=h₂
  unfold subscriptTail
  refine wpAny_bind ?_
  rw [getitemInPython_of_ne hT.not_modules]
  refine wpAny_bind (wpAny_specialOf hT hl ?_)
  have fin:wpAny (model prog w) A (subscripted slice false o i) (fun r s₃=>wpAny (model prog w) A (letTemporaryGo value o r >>= fun _=>pure r) Q E s₃) E s₂:=by
    rw [hs o i]
    exact wpAny_operating (wpAny_mono h₂ (fun r s₃ h₃=>wpAny_bind (wpAny_letTemporaryGo (wpAny_pure h₃))) fun _ _ x=>x)
  first
    | exact wpAny_pure (wpAny_bind fin)
    | exact wpAny_bind (wpAny_pure (wpAny_bind fin))
    | exact wpAny_bind fin
theorem zmi {X:Cx} {pins:List (Addr×Obj)} {σ:St} {H:Hp} {s:Shared} {a:Addr} {y:V} {o:Option V} (I:Inv X pins σ H s) (g:DGet H a y o):s.TypeIs (.ref a) "dict" := by
 rcases g with ⟨kvs,k,e,_,_⟩ | ⟨kvs,k,b,e,_,_,_⟩
 ·obtain ⟨_,_,vs,_,dd⟩:=dk_rd I.hok e
  exact dd.typeIs
 ·obtain ⟨_,_,xs,_,dd⟩:=dt_rd I.hok e
  exact dd.typeIs
def tDGet (td ty:TE):TE:=fun σ H Q=>td σ H fun x H1=>ty σ H1 fun y H2=>∃ a v,x = .ref a/\DGet H2 a y (some v)/\Q v H2
def tDIn (ty td:TE):TE:=fun σ H Q=>ty σ H fun y H1=>td σ H1 fun x H2=>∃ a o,x = .ref a/\DGet H2 a y o/\Q (.bl o.isSome) H2
def tDNotIn (ty td:TE):TE:=fun σ H Q=>ty σ H fun y H1=>td σ H1 fun x H2=>∃ a o,x = .ref a/\DGet H2 a y o/\Q (.bl (!o.isSome)) H2
def sDPut (td ty tv:TE):TS:=fun D σ H=>tv σ H fun v H1=>td σ H1 fun x H2=>ty σ H2 fun y H3=>∃ a H4,x = .ref a/\DPut H3 a y v H4/\D.nx σ H4
section
variable {X:Cx} {o i e value:Expr} {pos pos' tpos:Pos} {td ty tv:TE}
theorem zum (hu:X.A.units+1<cLine) (ho:PE X o td) (hi:PE X i ty) (hs:NoSl i):PE X (.Subscript o i pos) (tDGet td ty):=by
 intro pins s σ H Q I h
 refine zul PySem.F.slot_dict_getitem.lookup hs (thn (ho pins s σ H _ I h) fun u s1 ⟨x,H1,I1,rx,q1⟩=>thn (hi pins s1 σ H1 _ I1 q1) fun iv s2 ⟨y,H2,I2,ry,a,v,ex,g,q2⟩=>?_)
 subst ex
 obtain rfl:u=Value.ref a:=rx
 exact ⟨zmi I2 g,zpy hu I2 g ry fun w' s3 I3 rw'=>⟨v,H2,I3,rw',q2⟩⟩
theorem zid (hu:X.A.units+1<cLine) (ho:PE X o td) (hi:PE X i ty) (hv:PE X value tv) (hs:swapsWith value (some (.Subscript o i pos')) pos.line X.env=pure false) :
    PS X (.Assign [.Subscript o i pos'] value pos) (sDPut td ty tv):=by
  intro pins s σ H D I h
  refine wpAny_Assign_Subscript (thn (hv pins s σ H _ I h) fun r s1 ⟨v,H1,I1,rv,q1⟩=>thn (ho pins s1 σ H1 _ I1 q1) fun u s2 ⟨x,H2,I2,rx,q2⟩=>thn (hi pins s2 σ H2 _ I2 q2) fun iv s3 ⟨y,H3,I3,ry,a,H4,ex,g,q3⟩=>?_) hs
  subst ex
  obtain rfl:u=Value.ref a:=rx
  exact zqa hu I3 g ry rv fun s4 I4=>⟨σ,H4,I4,q3⟩
end
theorem zrs {P:Program} {w:World} {H:Hp} (h:Heap) (hb:sysModules<h.objs.size):ObjOk P w H (h.push { cls:=.type "dict", data:=.dict #[] }) h.objs.size (.dK []) :=
 ⟨Nat.zero_le _,beq_eq_false_iff_ne.mpr (Ne.symm (Nat.ne_of_lt hb)),[],.nil,Heap.DictOf.new h⟩
def tDNewK:TE:=fun _ H Q=>∀ p,H p=none->Q (.ref p) (upd H p (.dK []))
section
variable {X:Cx} {pos:Pos}
theorem zgf:PE X (.Dict [] [] pos) tDNewK:=fun pins s σ H Q I h =>
 wpAny_Dict_empty ⟨.ref s.heap.objs.size,_,I.laid (a:=s.heap.objs.size) (o:=.dK []) (t':=s.toks) (fun _ _ q=>Heap.get?_push_of_some _ q) (Nat.le_refl _) (zrs s.heap I.big),rfl,h _ (I.hok.fresh (Nat.le_refl _))⟩
end
structure M1 (X:Cx) (o:Expr) (m:Str) (apos:Pos) (e:Expr) (cpos:Pos):Prop where
 base:attributeBase o m X.env (eval o X.env)=eval o X.env
 few:((backTo cpos (starEach [e] X.env)).all (fun x=>!x.1) && (backToKw cpos (keywordEach [] X.env)).all (fun x=>x.1.isSome)
  && decide (([e]:List Expr).length+([]:List Keyword).length+(if ([]:List Keyword).isEmpty then 0 else 1)<30))=true
 line:(apos.endLine == cpos.line)=true
 trees:backTo cpos (starEach [e] X.env) = [(false,eval e X.env)]
structure M2 (X:Cx) (o:Expr) (m:Str) (apos:Pos) (e f:Expr) (cpos:Pos):Prop where
 base:attributeBase o m X.env (eval o X.env)=eval o X.env
 few:((backTo cpos (starEach [e,f] X.env)).all (fun x=>!x.1) && (backToKw cpos (keywordEach [] X.env)).all (fun x=>x.1.isSome)
  && decide (([e,f]:List Expr).length+([]:List Keyword).length+(if ([]:List Keyword).isEmpty then 0 else 1)<30))=true
 line:(apos.endLine == cpos.line)=true
 trees:backTo cpos (starEach [e,f] X.env) = [(false,eval e X.env),(false,eval f X.env)]
def IsD (H:Hp) (a:Addr):Prop:=(∃ kvs,Rd H a (.dK kvs))\/∃ kvs,Rd H a (.dT kvs)
theorem zte {X:Cx} {pins:List (Addr×Obj)} {σ:St} {H:Hp} {s:Shared} {a:Addr} (I:Inv X pins σ H s) (d:IsD H a) :
    s.TypeIs (.ref a) "dict" /\ (∀ b,Value.ref a = .ref b->∃ ob,s.heap.get? b=some ob/\ob.dict=none)/\(a == sysModules)=false:=by
  rcases d with ⟨kvs,e⟩ | ⟨kvs,e⟩
  · obtain ⟨_,hd,vs,_,dd⟩:=dk_rd I.hok e
    refine ⟨dd.typeIs,fun b q=>?_,hd⟩
    cases q
    obtain ⟨ob,_,_,h1,h2,_⟩:=dd
    exact ⟨ob,h1,h2.2.1⟩
  · obtain ⟨_,hd,xs,_,dd⟩:=dt_rd I.hok e
    refine ⟨dd.typeIs,fun b q=>?_,hd⟩
    cases q
    obtain ⟨ob,_,_,h1,h2,_⟩:=dd
    exact ⟨ob,h1,h2.2.1⟩
section
variable {X:Cx} {pins:List (Addr×Obj)} {σ:St} {H:Hp} {s:Shared} {a:Addr} {y d:V} {u r:Value} {o:Option V} {A:Around} {E:Value->Shared->Prop}
theorem zwz {Q:Value->Shared->Prop} (hu:A.units+1<cLine) (I:Inv X pins σ H s) (g:DGet H a y o) (ry:RelV y u) (h:∀ w' s',Inv X pins σ H s'->RelV (o.getD .non) w'->Q w' s') :
    wpAny (model X.prog X.w) A (call (.builtin "dict.get") [.ref a,u]) Q E s:=by
  rcases g with ⟨kvs,k,e,ey,l⟩ | ⟨kvs,k,b,e,ey,eb,l⟩
  · subst ey
    obtain ⟨z,hd,vs,rel,dd⟩:=dk_rd I.hok e
    refine call_meetsIn PySem.F.slot_dict_get dd.typeIs PySem.F.entry_dict_get (PySem.F.args_dict_get_2 _ _) (meets_dict_get (zca X.prog X.w) a (kV_is ry) hd) ⟨_,dd.mapOf,h _ _ (I.tok _) ?_⟩
    rw [l]
    exact (rel.val k).getD rfl
  · subst ey
    cases (show u=Value.ref b from ry)
    obtain ⟨z,hd,xs,rel,dd⟩:=dt_rd I.hok e
    refine call_meetsIn PySem.F.slot_dict_get dd.typeIs PySem.F.entry_dict_get (PySem.F.args_dict_get_2 _ _) (meetsH_dict_get (tupleKind (zca X.prog X.w)) a b hd) ⟨tupleKind_room_in1 hu,k,xs,zlf I.hok eb,dd,h _ _ (I.tok _) ?_⟩
    rw [l]
    exact (rel.val k).getD rfl
theorem zxa {Q:Value->Shared->Prop} (hu:A.units+1<cLine) (I:Inv X pins σ H s) (g:DGet H a y o) (ry:RelV y u) (rd:RelV d r) (h:∀ w' s',Inv X pins σ H s'->RelV (o.getD d) w'->Q w' s') :
    wpAny (model X.prog X.w) A (call (.builtin "dict.get") [.ref a,u,r]) Q E s:=by
  rcases g with ⟨kvs,k,e,ey,l⟩ | ⟨kvs,k,b,e,ey,eb,l⟩
  · subst ey
    obtain ⟨z,hd,vs,rel,dd⟩:=dk_rd I.hok e
    refine call_meetsIn PySem.F.slot_dict_get dd.typeIs PySem.F.entry_dict_get (PySem.F.args_dict_get_3 _ _ _) (meets_dict_get_default (zca X.prog X.w) a (kV_is ry) hd r) ⟨_,dd.mapOf,h _ _ (I.tok _) ?_⟩
    rw [l]
    exact (rel.val k).getD rd
  · subst ey
    cases (show u=Value.ref b from ry)
    obtain ⟨z,hd,xs,rel,dd⟩:=dt_rd I.hok e
    refine call_meetsIn PySem.F.slot_dict_get dd.typeIs PySem.F.entry_dict_get (PySem.F.args_dict_get_3 _ _ _) (meetsH_dict_get_default (tupleKind (zca X.prog X.w)) a b hd r) ⟨tupleKind_room_in1 hu,k,xs,zlf I.hok eb,dd,h _ _ (I.tok _) ?_⟩
    rw [l]
    exact (rel.val k).getD rd
end
def tDGet1 (td ty:TE):TE:=fun σ H Q=>td σ H fun x H1=>∃ a,x = .ref a/\IsD H1 a/\ty σ H1 fun y H2=>∃ o,DGet H2 a y o/\Q (o.getD .non) H2
def tDGet2 (td ty tx:TE):TE:=fun σ H Q=>td σ H fun x H1=>∃ a,x = .ref a/\IsD H1 a/\ty σ H1 fun y H2=>tx σ H2 fun z H3=>∃ o,DGet H3 a y o/\Q (o.getD z) H3
section
variable {X:Cx} {o e f:Expr} {apos cpos:Pos} {td ty tx:TE}
theorem zrt (hu:X.A.units+1<cLine) (ho:PE X o td) (he:PE X e ty) (m:M1 X o "get" apos e cpos):PE X (.Call (.Attribute o "get" apos) [e] [] cpos) (tDGet1 td ty):=by
 intro pins s σ H Q I h
 refine wpAny_Call_method m.base m.few m.line PySem.F.plainAttrs_dict PySem.F.slot_dict_get PySem.F.type_dict_get (thn (ho pins s σ H _ I h) fun u s1 ⟨x,H1,I1,rx,a,ex,d,q1⟩=>?_)
 subst ex
 obtain rfl:u=Value.ref a:=rx
 obtain ⟨t1,t2,_⟩:=zte I1 d
 refine ⟨t1,t2,?_⟩
 rw [m.trees]
 refine Calls.callWith_builtin rfl (Calls.evalArgs_plain (Calls.spliced_cons (thn (he pins s1 σ H1 _ I1 q1) fun iv s2 ⟨y,H2,I2,ry,ov,g,q2⟩=>Calls.spliced_nil ?_)))
 exact zwz hu I2 g ry fun w' s3 I3 rw'=>⟨_,H2,I3,rw',q2⟩
theorem zkh (hu:X.A.units+1<cLine) (ho:PE X o td) (he:PE X e ty) (hf:PE X f tx) (m:M2 X o "get" apos e f cpos):PE X (.Call (.Attribute o "get" apos) [e,f] [] cpos) (tDGet2 td ty tx):=by
 intro pins s σ H Q I h
 refine wpAny_Call_method m.base m.few m.line PySem.F.plainAttrs_dict PySem.F.slot_dict_get PySem.F.type_dict_get (thn (ho pins s σ H _ I h) fun u s1 ⟨x,H1,I1,rx,a,ex,d,q1⟩=>?_)
 subst ex
 obtain rfl:u=Value.ref a:=rx
 obtain ⟨t1,t2,_⟩:=zte I1 d
 refine ⟨t1,t2,?_⟩
 rw [m.trees]
 refine Calls.callWith_builtin rfl (Calls.evalArgs_plain (Calls.spliced_cons (thn (he pins s1 σ H1 _ I1 q1) fun iv s2 ⟨y,H2,I2,ry,q2⟩ =>
  Calls.spliced_cons (thn (hf pins s2 σ H2 _ I2 q2) fun fv s3 ⟨z,H3,I3,rz,ov,g,q3⟩=>Calls.spliced_nil ?_))))
 exact zxa hu I3 g ry rz fun w' s4 I4 rw'=>⟨_,H3,I4,rw',q3⟩
end
section
variable {X:Cx} {pins:List (Addr×Obj)} {σ:St} {H:Hp} {s:Shared} {a:Addr} {kvs:List (Key×V)} {A:Around} {E:Value->Shared->Prop}
end
section
variable {X:Cx} {pins:List (Addr×Obj)} {σ:St} {H:Hp} {s:Shared} {a:Addr} {y:V} {u:Value} {A:Around} {E:Value->Shared->Prop}
end
end L2
namespace L2
open PySem PySem.Spec PyProof.Rows
section
variable {X:Cx}
end
section
variable {κ:Type} [DecidableEq κ]
end
end L2
namespace L2
open PySem PySem.Spec PyProof.Rows
def tTru (K:PySem.W.Frag) (ta:TE):TT:=fun σ H Q=>ta σ H fun x H1=>∃ k,TruV K x H1 k/\Q k H1
theorem zeo {X:Cx} (K:PySem.W.Frag) (h:X.K=K) {a:Expr} {ta:TE} (ha:PE X a ta) (he:∀ whole,isTrue a X.env whole=(do let v <- whole; standAt a.pos; holding [v] (truthy v)):=by intro _; rfl):PT X a (tTru K ta):=h ▸ zrj ha he
theorem truL {K:PySem.W.Frag} {H:Hp} {p:Addr} {xs:List V} (h:SqL K H p xs):TruV K (.ref p) H (!xs.isEmpty):=.inl ⟨xs,h,rfl⟩
end L2
namespace Sw
abbrev T3:=Rat×Rat×Int
def isHd (m:Rat) (u:T3):Bool:=!decide (m<u.1) && decide (m<u.2.1)
def hds (us:List T3) (m:Rat):List T3:=us.filter (isHd m)
def sumS (hs:List T3):Int:=(hs.map fun u=>u.2.2).sum
def minL:List Rat->Rat
 | []=>0
 | q :: r=>(q :: r).foldl min q
def fstE (hs:List T3):Rat:=minL (hs.map fun u=>u.2.1)
theorem zgg:∀ (l:List Rat) (d:Rat),l.foldl min d=d\/l.foldl min d∈l
 | [],d=>.inl rfl
 | q :: r,d=>by
  rcases zgg r (min d q) with h | h
  ·rw [List.foldl_cons,h,Rat.min_def]
   split
   ·exact .inl rfl
   ·exact .inr (by simp)
  ·exact .inr (by rw [List.foldl_cons]; exact List.mem_cons_of_mem _ h)
theorem minL_mem {l:List Rat} (h:l≠[]):minL l∈l:=by
 cases l with
 | nil=>exact absurd rfl h
 | cons q r =>
  show (q :: r).foldl min q∈q :: r
  rcases zgg (q :: r) q with e | e
  ·rw [e]; simp
  ·exact e
theorem fstE_mem {hs:List T3} (h:hs≠[]):∃ u∈hs,fstE hs=u.2.1:=by
 have:=minL_mem (l:=hs.map fun u=>u.2.1) (by simpa using h)
 obtain ⟨u,hu,e⟩:=List.mem_map.mp this
 exact ⟨u,hu,e.symm⟩
theorem hds_mem {us:List T3} {m:Rat} {u:T3} (h:u∈hds us m):u∈us/\m<u.2.1:=by
 obtain ⟨h1,h2⟩:=List.mem_filter.mp h
 unfold isHd at h2
 simp only [Bool.and_eq_true,Bool.not_eq_true',decide_eq_true_eq] at h2
 exact ⟨h1,h2.2⟩
theorem fstE_gt {us:List T3} {m:Rat} (h:hds us m≠[]):m<fstE (hds us m):=by
 obtain ⟨u,hu,e⟩:=fstE_mem h
 rw [e]; exact (hds_mem hu).2
def ahead (us:List T3) (m:Rat):Nat:=(us.filter fun u=>decide (m<u.2.1)).length
theorem zcn {α:Type} {p q:α->Bool}:∀ {l:List α},(∀ x∈l,q x=true->p x=true)->(∃ x∈l,p x=true/\q x=false)->(l.filter q).length<(l.filter p).length
 | [],_,⟨x,hx,_⟩=>absurd hx (by simp)
 | y :: r,h,⟨x,hx,h1,h2⟩=>by
  have le:∀ {l:List α},(∀ x∈l,q x=true->p x=true)->(l.filter q).length<=(l.filter p).length:=fun {l}=>by
   induction l with
   | nil=>intro _; exact Nat.le_refl _
   | cons z t ih =>
    intro hh
    have ih:=ih fun x hx=>hh x (List.mem_cons_of_mem _ hx)
    have hz:=hh z (by simp)
    rw [List.filter_cons,List.filter_cons]
    cases e1:q z <;> cases e2:p z <;> simp_all <;> omega
  rcases List.mem_cons.mp hx with e | e
  ·subst e
   have:=le (l:=r) fun x hx=>h x (List.mem_cons_of_mem _ hx)
   rw [List.filter_cons,List.filter_cons,h1,h2]
   simp; omega
  ·have ih:=zcn (l:=r) (fun x hx=>h x (List.mem_cons_of_mem _ hx)) ⟨x,e,h1,h2⟩
   have hy:=h y (by simp)
   rw [List.filter_cons,List.filter_cons]
   cases e1:q y <;> cases e2:p y <;> simp_all <;> omega
theorem ahead_lt {us:List T3} {m:Rat} (h:hds us m≠[]):ahead us (fstE (hds us m))<ahead us m:=by
 have gt:=fstE_gt h
 obtain ⟨u,hu,e⟩:=fstE_mem h
 obtain ⟨h1,h2⟩:=hds_mem hu
 refine zcn (fun x _ hx=>?_) ⟨u,h1,decide_eq_true h2,?_⟩
 ·simp only [decide_eq_true_eq] at hx ⊢
  grind
 ·rw [e]; simp only [decide_eq_false_iff_not]; grind
def markF (us:List T3) (t:Rat):Nat->Rat->Rat->Rat
 | 0,_,re=>re
 | n+1,mo,re =>
  if hds us re = [] then re
  else if t<mo+(fstE (hds us re)-re)*(sumS (hds us re):Rat) then re+(t-mo) / (sumS (hds us re):Rat)
  else markF us t n (mo+(fstE (hds us re)-re)*(sumS (hds us re):Rat)) (fstE (hds us re))
def markAt (us:List T3) (latest:Int) (reached:Rat) (t:Int):Rat:=markF us (t:Rat) (us.length+1) (latest:Rat) reached
theorem ahead_le (us:List T3) (m:Rat):ahead us m<=us.length:=List.length_filter_le _ _
def Grd (D:Int) (q:Rat):Prop:=∃ n:Int,q=(n:Rat) / (D:Rat)
theorem Grd.int {D:Int} (hD:D≠0) (n:Int):Grd D (n:Rat):=⟨n*D,by have:=q_cast_ne hD; rw [Rat.intCast_mul]; grind⟩
theorem Grd.add {D:Int} {a b:Rat} (h:Grd D a) (k:Grd D b):Grd D (a+b):=by
 obtain ⟨n,rfl⟩:=h
 obtain ⟨m,rfl⟩:=k
 exact ⟨n+m,by rw [Rat.intCast_add]; grind⟩
theorem Grd.sub {D:Int} {a b:Rat} (h:Grd D a) (k:Grd D b):Grd D (a-b):=by
 obtain ⟨n,rfl⟩:=h
 obtain ⟨m,rfl⟩:=k
 exact ⟨n-m,by rw [Rat.intCast_sub]; grind⟩
theorem Grd.muli {D:Int} {a:Rat} (h:Grd D a) (k:Int):Grd D (a*(k:Rat)):=by
 obtain ⟨n,rfl⟩:=h
 exact ⟨n*k,by rw [Rat.intCast_mul]; grind⟩
theorem Grd.divi {D:Int} {a:Rat} (hD:D≠0) (h:Grd D a) {k:Int} (hk:k≠0):Grd (D*k) (a / (k:Rat)):=by
 obtain ⟨n,rfl⟩:=h
 have h1:=q_cast_ne hD
 have h2:=q_cast_ne hk
 exact ⟨n,by rw [Rat.intCast_mul]; grind⟩
theorem Grd.more {D:Int} {a:Rat} (hD:D≠0) (h:Grd D a) {k:Int} (hk:k≠0):Grd (D*k) a:=by
 obtain ⟨n,rfl⟩:=h
 have h1:=q_cast_ne hD
 have h2:=q_cast_ne hk
 exact ⟨n*k,by rw [Rat.intCast_mul,Rat.intCast_mul]; grind⟩
theorem Grd.sz {D M:Int} {a b:Nat} {q:Rat} (h:Grd D q) (hD:0<D) (zD:Sz a D) (zM:Sz b M) (h1:-(M:Rat)<=q) (h2:q<=(M:Rat)) (hb:1<=b):SzQ (a+b) q:=by
 obtain ⟨n,rfl⟩:=h
 have dp:=zbd hD
 have dn:=q_cast_ne (show D≠0 by omega)
 refine .of (by omega) rfl ((zD.mul zM).le ?_) (zD.mono (by omega))
 have e:(n:Rat) / (D:Rat)*(D:Rat)=(n:Rat):=by grind
 have u:(n:Rat)<=((M*D:Int):Rat):=by
  rw [<- e,Rat.intCast_mul]
  exact Rat.mul_le_mul_of_nonneg_right h2 (by grind)
 have l:((-(M*D):Int):Rat)<=(n:Rat):=by
  rw [<- e,Rat.intCast_neg,Rat.intCast_mul,show -((M:Rat)*(D:Rat)) = -(M:Rat)*(D:Rat) by grind]
  exact Rat.mul_le_mul_of_nonneg_right h1 (by grind)
 have u':=Rat.intCast_le_intCast.mp u
 have l':=Rat.intCast_le_intCast.mp l
 rw [Int.mul_comm D M]
 omega
end Sw
namespace L2
open PySem PySem.Spec PyProof.Rows
theorem zqb {c:TT} {tb:TS} {D:Ends} {σ:St} {H:Hp} (W:Nat->St->Hp->Prop) {m0:Nat} (h0:W m0 σ H)
    (hs:∀ m σ H,W m σ H->∃ b:Bool,(∀ Q:Bool->Hp->Prop,Q b H->c σ H Q)/\(b=true->tb { D with nx:=fun σ' H'=>∃ m',m' < m/\W m' σ' H',ct:=fun σ' H'=>∃ m',m' < m/\W m' σ' H',bk:=D.nx } σ H)/\(b=false->D.nx σ H)):ziz c tb D σ H:=by
  refine ⟨W,⟨_,h0⟩,fun m σ H p=>?_⟩
  obtain ⟨b,hc,h1,h2⟩:=hs m σ H p
  refine hc _ ?_
  cases b with
  | true=>exact ⟨_,fun σ' H' z=>z,h1 rfl⟩
  | false=>exact h2 rfl
def TagAt (H:Hp) (p:Addr) (u:Sw.T3):Prop:=∃ pb pe,H p=some (.tup [.ref pb,.ref pe,.int u.2.2])/\H pb=some (.tup (fq u.1))/\H pe=some (.tup (fq u.2.1))
abbrev zed (H:Hp) (ps:List Addr) (us:List Sw.T3):Prop:=Paired (TagAt H) ps us
theorem TagAt.keep {H H':Hp} {p:Addr} {u:Sw.T3} (h:TagAt H p u) (e:∀ p xs,H p=some (.tup xs)->H' p=some (.tup xs)):TagAt H' p u:=by
 obtain ⟨pb,pe,h1,h2,h3⟩:=h
 exact ⟨pb,pe,e _ _ h1,e _ _ h2,e _ _ h3⟩
theorem zdi {H H':Hp} {ps:List Addr} {us:List Sw.T3} (h:zed H ps us) (e:∀ p xs,H p=some (.tup xs)->H' p=some (.tup xs)):zed H' ps us:=Paired.mapP h fun _ _ q=>q.keep e
theorem zbp {H H':Hp} {ps:List Addr} {us:List Sw.T3} (h:zed H ps us) (e:Same H H'):zed H' ps us:=zdi h fun _ _ q=>e _ _ q
theorem tags_len {H:Hp} {ps:List Addr} {us:List Sw.T3} (h:zed H ps us):ps.length=us.length:=Paired.length h
theorem paired_snoc {α β:Type} {F:α->β->Prop} {a:α} {b:β} (h:F a b):∀ {l₁:List α} {l₂:List β},Paired F l₁ l₂->Paired F (l₁++[a]) (l₂++[b])
 | _,_,Paired.nil=>.cons h .nil
 | _,_,Paired.cons x y=>.cons x (paired_snoc h y)
theorem zbe {α β:Type} {F:α->β->Prop}:∀ {l₁:List α} {l₂:List β} {i:Nat} {a:α},Paired F l₁ l₂->l₁[i]? = some a->∃ b,l₂[i]? = some b/\F a b
 | _,_,_,_,Paired.nil,e=>by simp at e
 | _,_,0,_,Paired.cons x _,e=>by simp at e; subst e; exact ⟨_,rfl,x⟩
 | _,_,i+1,_,Paired.cons _ y,e=>by
  obtain ⟨b,h1,h2⟩:=zbe (i:=i) y (by simpa using e)
  exact ⟨b,by simpa using h1,h2⟩
theorem take_succ_of {α:Type} {l:List α} {i:Nat} {x:α} (h:l[i]? = some x):l.take (i+1)=l.take i++[x]:=by
 rw [List.take_add_one,h]; rfl
structure TagOk (D B:Int) (u:Sw.T3):Prop where
 b:Sw.Grd D u.1
 e:Sw.Grd D u.2.1
 b0:0<=u.1
 be:u.1<=u.2.1
 eB:u.2.1<=(B:Rat)
 s1:1<=u.2.2
 s2:u.2.2<=1000000
theorem zex {D B:Int}:∀ {hs:List Sw.T3},(∀ u∈hs,TagOk D B u)->hs≠[]->1<=Sw.sumS hs/\Sw.sumS hs<=hs.length*1000000
 | [],_,h=>absurd rfl h
 | [u],h,_=>by
  have t:=h u (by simp)
  have a:=t.s1
  have b:=t.s2
  unfold Sw.sumS
  simp
  omega
 | u :: v :: r,h,_=>by
  have t:=h u (by simp)
  have a:=t.s1
  have b:=t.s2
  have ih:=zex (hs:=v :: r) (fun x hx=>h x (List.mem_cons_of_mem _ hx)) (by simp)
  have e:Sw.sumS (u :: v :: r)=u.2.2+Sw.sumS (v :: r):=by unfold Sw.sumS; simp
  rw [e]
  simp only [List.length_cons] at ih ⊢
  omega
structure GB (D B:Int):Prop where
 D0:0<D
 Dz:Sw.Sz 1500 D
 B0:0<=B
 B1:B<=10000000000
theorem GB.sz {D B M:Int} {q:Rat} (g:GB D B) (h:Sw.Grd D q) (h1:-(M:Rat)<=q) (h2:q<=(M:Rat)) (m1:-100000000000000000000<M) (m2:M<100000000000000000000):Sw.SzQ 1570 q :=
 h.sz g.D0 g.Dz (Sw.Sz.r18 m1 m2) h1 h2 (by decide)
theorem GB.szB {D B:Int} {q:Rat} (g:GB D B) (h:Sw.Grd D q) (h1:0<=q) (h2:q<=(B:Rat)):Sw.SzQ 1570 q:=by
 have b0:=g.B0
 have b1:=g.B1
 have:(0:Rat)<=(B:Rat):=by grind
 exact g.sz h (by grind) h2 (by omega) (by omega)
structure FT (fs:List (Str×V)) (lat:Int) (pr pu pe:Addr):Prop where
 lat:fs.lookup ("latest" : Str)=some (.int lat)
 rch:fs.lookup ("reached" : Str)=some (.ref pr)
 unf:fs.lookup ("unflowed" : Str)=some (.ref pu)
 lst:fs.lookup ("last_ends" : Str)=some (.ref pe)
 no:∀ m:Str,¬ m = "latest" -> ¬ m = "reached" -> ¬ m = "unflowed" -> ¬ m = "last_ends" -> fs.lookup m=none
 len:fs.length<900
structure TdM (C:Addr) (H:Hp) (p:Addr) (lat:Int) (re:Rat) (us:List Sw.T3):Prop where
 ex:∃ dx fs pr pu pe ps,H p=some (.ins C dx fs)/\FT fs lat pr pu pe/\H pr=some (.tup (fq re))/\H pu=some (.lst (ps.map V.ref))/\zed H ps us
structure TideOk (D B lat:Int) (re:Rat) (us:List Sw.T3):Prop where
 gb:GB D B
 gre:Sw.Grd D re
 re0:0<=re
 reB:re<=(B:Rat)
 tus:∀ u∈us,TagOk D B u
 len:us.length<=100
 l0:0<=lat
 l1:lat<1000000000000000
theorem TideOk.zr {D B lat:Int} {re:Rat} {us:List Sw.T3} (o:TideOk D B lat re us):Sw.SzQ 1570 re:=o.gb.szB o.gre o.re0 o.reB
theorem TideOk.zu {D B lat:Int} {re:Rat} {us:List Sw.T3} (o:TideOk D B lat re us) (u:Sw.T3) (h:u∈us):Sw.SzQ 5000 u.1/\Sw.SzQ 5000 u.2.1:=by
 have t:=o.tus u h
 have be:=t.be
 have b0:=t.b0
 have eB:=t.eB
 exact ⟨(o.gb.szB t.b b0 (by grind)).mono (by decide),(o.gb.szB t.e (by grind) eB).mono (by decide)⟩
theorem TideOk.lat0 {D B lat:Int} {re:Rat} {us:List Sw.T3} (o:TideOk D B lat re us):(0:Rat)<=(lat:Rat):=by
 have:((0:Int):Rat)<=(lat:Rat):=Rat.intCast_le_intCast.mpr o.l0
 exact this
end L2
namespace L2
open PySem PySem.Spec PyProof.Rows
theorem zfc:¬ (("latest" : Str) = "reached"):=by decide +kernel
theorem zep:¬ (("latest" : Str) = "unflowed"):=by decide +kernel
theorem zgh:¬ (("latest" : Str) = "last_ends"):=by decide +kernel
theorem zhh:¬ (("reached" : Str) = "latest"):=by decide +kernel
theorem zei:¬ (("reached" : Str) = "unflowed"):=by decide +kernel
theorem zfv:¬ (("reached" : Str) = "last_ends"):=by decide +kernel
theorem zgu:¬ (("unflowed" : Str) = "latest"):=by decide +kernel
theorem zgi:¬ (("unflowed" : Str) = "reached"):=by decide +kernel
theorem zfp:¬ (("unflowed" : Str) = "last_ends"):=by decide +kernel
theorem zgj:¬ (("last_ends" : Str) = "latest"):=by decide +kernel
theorem zfw:¬ (("last_ends" : Str) = "reached"):=by decide +kernel
theorem zfq:¬ (("last_ends" : Str) = "unflowed"):=by decide +kernel
theorem FT.put_lat {fs:List (Str×V)} {lat:Int} {pr pu pe:Addr} {l':Int} (h:FT fs lat pr pu pe):FT (putF "latest" (.int l') fs) l' pr pu pe:=by
 refine ⟨?_,?_,?_,?_,fun m h1 h2 h3 h4=>?_,?_⟩
 ·rw [zak,if_pos rfl]
 ·rw [zak,if_neg zhh]; exact h.rch
 ·rw [zak,if_neg zgu]; exact h.unf
 ·rw [zak,if_neg zgj]; exact h.lst
 ·rw [zak,if_neg h1]; exact h.no m h1 h2 h3 h4
 ·rw [zgd h.lat]; exact h.len
theorem FT.put_rch {fs:List (Str×V)} {lat:Int} {pr pu pe:Addr} {r':Addr} (h:FT fs lat pr pu pe):FT (putF "reached" (.ref r') fs) lat r' pu pe:=by
 refine ⟨?_,?_,?_,?_,fun m h1 h2 h3 h4=>?_,?_⟩
 ·rw [zak,if_neg zfc]; exact h.lat
 ·rw [zak,if_pos rfl]
 ·rw [zak,if_neg zgi]; exact h.unf
 ·rw [zak,if_neg zfw]; exact h.lst
 ·rw [zak,if_neg h2]; exact h.no m h1 h2 h3 h4
 ·rw [zgd h.rch]; exact h.len
theorem FT.put_unf {fs:List (Str×V)} {lat:Int} {pr pu pe:Addr} {u':Addr} (h:FT fs lat pr pu pe):FT (putF "unflowed" (.ref u') fs) lat pr u' pe:=by
 refine ⟨?_,?_,?_,?_,fun m h1 h2 h3 h4=>?_,?_⟩
 ·rw [zak,if_neg zep]; exact h.lat
 ·rw [zak,if_neg zei]; exact h.rch
 ·rw [zak,if_pos rfl]
 ·rw [zak,if_neg zfq]; exact h.lst
 ·rw [zak,if_neg h3]; exact h.no m h1 h2 h3 h4
 ·rw [zgd h.unf]; exact h.len
theorem FT.mk0 (pr pu pe:Addr):FT (putF "last_ends" (.ref pe) (putF "unflowed" (.ref pu) (putF "reached" (.ref pr) (putF "latest" (.int 0) [])))) 0 pr pu pe:=by
 refine ⟨?_,?_,?_,?_,fun m h1 h2 h3 h4=>?_,?_⟩
 ·rw [zak,if_neg zgh,zak,if_neg zep,zak,if_neg zfc,zak,if_pos rfl]
 ·rw [zak,if_neg zfv,zak,if_neg zei,zak,if_pos rfl]
 ·rw [zak,if_neg zfp,zak,if_pos rfl]
 ·rw [zak,if_pos rfl]
 ·rw [zak,if_neg h4,zak,if_neg h3,zak,if_neg h2,zak,if_neg h1]; rfl
 ·have a1:=zbk (fs:=[]) (f := "latest") (v:=.int 0)
  have a2:=zbk (fs:=putF "latest" (.int 0) []) (f := "reached") (v:=.ref pr)
  have a3:=zbk (fs:=putF "reached" (.ref pr) (putF "latest" (.int 0) [])) (f := "unflowed") (v:=.ref pu)
  have a4:=zbk (fs:=putF "unflowed" (.ref pu) (putF "reached" (.ref pr) (putF "latest" (.int 0) []))) (f := "last_ends") (v:=.ref pe)
  simp only [List.length_nil] at a1
  omega
def EnAt (H:Hp) (kvs:List (Key×V)) (en:Int->Option Rat):Prop:=∀ w:Int,(en w=none/\valV kvs (Sum.inl w:Key)=none)\/∃ e q,en w=some e/\valV kvs (Sum.inl w:Key)=some (.ref q)/\H q=some (.tup (fq e))
theorem EnAt.keep {H H':Hp} {kvs:List (Key×V)} {en:Int->Option Rat} (h:EnAt H kvs en) (e:∀ p xs,H p=some (.tup xs)->H' p=some (.tup xs)):EnAt H' kvs en:=fun w=>by
 rcases h w with z | ⟨x,q,h1,h2,h3⟩
 ·exact .inl z
 ·exact .inr ⟨x,q,h1,h2,e _ _ h3⟩
def setE (en:Int->Option Rat) (w:Int) (e:Rat):Int->Option Rat:=fun v=>if v=w then some e else en v
theorem EnAt.put {H:Hp} {kvs:List (Key×V)} {en:Int->Option Rat} {w:Int} {e:Rat} {q:Addr} (h:EnAt H kvs en) (hq:H q=some (.tup (fq e))):EnAt H (putK kvs (Sum.inl w) (.ref q)) (setE en w e):=fun v=>by
 rw [zkg]
 unfold setE
 by_cases hv:v=w
 ·subst hv
  rw [if_pos rfl,if_pos rfl]
  exact .inr ⟨e,q,rfl,rfl,hq⟩
 ·rw [if_neg hv,if_neg (by intro z; exact hv (Sum.inl.inj z))]
  exact h v
structure Td (C:Addr) (H:Hp) (p pe:Addr) (lat:Int) (re:Rat) (us:List Sw.T3) (en:Int->Option Rat) (m:Nat):Prop where
 ex:∃ dx fs pr pu ps kvs,H p=some (.ins C dx fs)/\FT fs lat pr pu pe/\H pr=some (.tup (fq re))/\H pu=some (.lst (ps.map V.ref))/\zed H ps us/\H pe=some (.dK kvs)/\EnAt H kvs en/\kvs.length<=m/\us.length<=m
theorem Td.m {C:Addr} {H:Hp} {p pe:Addr} {lat:Int} {re:Rat} {us:List Sw.T3} {en:Int->Option Rat} {m:Nat} (h:Td C H p pe lat re us en m):TdM C H p lat re us:=by
 obtain ⟨dx,fs,pr,pu,ps,kvs,h1,h2,h3,h4,h5,_⟩:=h.ex
 exact ⟨dx,fs,pr,pu,pe,ps,h1,h2,h3,h4,h5⟩
theorem Td.same {C:Addr} {H H':Hp} {p pe:Addr} {lat:Int} {re:Rat} {us:List Sw.T3} {en:Int->Option Rat} {m:Nat} (h:Td C H p pe lat re us en m) (s:Same H H'):Td C H' p pe lat re us en m:=by
 obtain ⟨dx,fs,pr,pu,ps,kvs,h1,h2,h3,h4,h5,h6,h7,h8⟩:=h.ex
 exact ⟨dx,fs,pr,pu,ps,kvs,s _ _ h1,h2,s _ _ h3,s _ _ h4,zbp h5 s,s _ _ h6,h7.keep fun _ _ q=>s _ _ q,h8⟩
def Kept (p d:Addr) (H H':Hp):Prop:=∀ b o,b≠p->b≠d->H b=some o->H' b=some o
theorem Same.kept {p d:Addr} {H H':Hp} (h:Same H H'):Kept p d H H':=fun b o _ _ e=>h b o e
theorem Kept.trans {p d:Addr} {H H1 H2:Hp} (a:Kept p d H H1) (b:Kept p d H1 H2):Kept p d H H2:=fun c o n1 n2 h=>b c o n1 n2 (a c o n1 n2 h)
end L2
namespace Sw
open L2
theorem znm {us:List T3} {D B:Int} {t:Int} (gb:GB D B) (ok:∀ u∈us,TagOk D B u) (lu:us.length<=100):∀ (n:Nat) (mo re:Rat),Grd D mo->mo<=(t:Rat)->Grd D re->0<=re->re<=(B:Rat) ->
    (∃ S:Int,1<=S/\S<=us.length*1000000+1/\Grd (D*S) (markF us (t:Rat) n mo re))/\re<=markF us (t:Rat) n mo re/\markF us (t:Rat) n mo re<=(B:Rat)
  | 0,mo,re,gm,hm,gr,r0,r1=>⟨⟨1,by decide,by omega,gr.more (by have:=gb.D0; omega) (by decide)⟩,by unfold markF; grind,by unfold markF; exact r1⟩
  | n+1,mo,re,gm,hm,gr,r0,r1=>by
    have D0:D≠0:=by have:=gb.D0; omega
    unfold markF
    by_cases hn:hds us re = []
    · rw [if_pos hn]
      exact ⟨⟨1,by decide,by omega,gr.more D0 (by decide)⟩,by grind,r1⟩
    · rw [if_neg hn]
      have gt:=fstE_gt hn
      have hok:∀ u∈hds us re,TagOk D B u:=fun u h=>ok u (hds_mem h).1
      have hS:=zex hok hn
      have hl:(hds us re).length<=us.length:=List.length_filter_le _ _
      obtain ⟨uf,huf,ef⟩:=fstE_mem hn
      have gf:Grd D (fstE (hds us re)):=by rw [ef]; exact (hok uf huf).e
      have fB:fstE (hds us re)<=(B:Rat):=by rw [ef]; exact (hok uf huf).eB
      generalize fstE (hds us re)=fv at gt gf fB ⊢
      generalize sumS (hds us re)=S at hS ⊢
      have Sp:(0:Rat)<(S:Rat):=zbd (by omega)
      by_cases hlt:(t:Rat)<mo+(fv-re)*(S:Rat)
      · rw [if_pos hlt]
        have x0:0<=((t:Rat)-mo) / (S:Rat):=by
          have:¬ ((t:Rat)-mo) / (S:Rat)<0:=by rw [Rat.div_lt_iff Sp]; grind
          grind
        have x1:((t:Rat)-mo) / (S:Rat)<fv-re:=by rw [Rat.div_lt_iff Sp]; grind
        refine ⟨⟨S,hS.1,by omega,(gr.more D0 (by omega)).add (((Grd.int D0 t).sub gm).divi D0 (by omega))⟩,by grind,by grind⟩
      · rw [if_neg hlt]
        have ih:=znm (t:=t) gb ok lu n (mo+(fv-re)*(S:Rat)) fv (gm.add ((gf.sub gr).muli S)) (by grind) gf (by grind) fB
        exact ⟨ih.1,by have:=ih.2.1; grind,ih.2.2⟩
theorem markAt_ok {us:List T3} {D B lat:Int} {re:Rat} {t:Int} (o:TideOk D B lat re us) (h:lat<=t) :
    (∃ S:Int,1<=S/\S<=us.length*1000000+1/\Grd (D*S) (markAt us lat re t))/\re<=markAt us lat re t/\markAt us lat re t<=(B:Rat) :=
  znm o.gb o.tus o.len _ _ _ (Grd.int (by have:=o.gb.D0; omega) lat) (Rat.intCast_le_intCast.mpr h) o.gre o.re0 o.reB
theorem zmj {us:List T3} {D B lat:Int} {re:Rat} (o:∀ u∈us,TagOk D B u):markAt us lat re lat=re:=by
 unfold markAt markF
 by_cases hn:hds us re = []
 ·rw [if_pos hn]
 ·rw [if_neg hn]
  have gt:=fstE_gt hn
  have hS:=zex (D:=D) (B:=B) (fun u h=>o u (hds_mem h).1) hn
  have Sp:(0:Rat)<(sumS (hds us re):Rat):=zbd (by omega)
  have:=Rat.mul_pos (a:=fstE (hds us re)-re) (by grind) Sp
  rw [if_pos (by grind)]
  have:((lat:Rat)-(lat:Rat)) / (sumS (hds us re):Rat) = 0:=by grind
  rw [this]; grind
def begOn (en:Int->Option Rat) (rv:Rat) (w:Int):Rat:=max rv ((en w).getD rv)
def usOn (us:List T3) (rv b:Rat) (len sh:Int):List T3:=(us.filter fun u=>decide (rv<u.2.1))++[(b,b+(len:Rat) / (sh:Rat),sh)]
end Sw
namespace L2
open PySem PySem.Spec PyProof.Rows
end L2
namespace L2
open PySem PySem.Spec PyProof.Rows
def Ite1 (K:PySem.W.Frag) (a:Addr):It :=
  ⟨fun i H=>∃ xs x,SqL K H a xs/\xs[i]? = some x,
   fun i H y H'=>∃ p x,y = .ref p/\H p=none/\(∀ xs,SqL K H a xs->xs[i]? = some x)/\H'=upd H p (.tup [.int ((i+1:Nat):Int),x]),
   fun i H=>∃ xs,SqL K H a xs/\xs.length=i⟩
section
variable {X:Cx}
def iEnum1 (K:PySem.W.Frag) (ta:TA):TI:=fun σ H R=>ta σ H fun vs H1=>∃ a,vs = [.ref a]/\(∃ xs,SqL K H1 a xs)/\R (Ite1 K a) H1
end
end L2
namespace L2
open PySem PySem.Spec PyProof.Rows
section
variable {X:Cx}
def Itv (K:PySem.W.Frag) (a:Addr) (xs:List V):It :=
 ⟨fun i H=>SqL K H a xs/\i<xs.length,fun i H x H'=>H'=H/\xs.reverse[i]? = some x,fun i H=>SqL K H a xs/\xs.length=i⟩
def iRev (K:PySem.W.Frag) (ta:TA):TI:=fun σ H R=>ta σ H fun vs H1=>∃ a xs,vs = [.ref a]/\SqL K H1 a xs/\R (Itv K a xs) H1
end
end L2
namespace L2
end L2
namespace L2
open PySem PySem.Spec PyProof.Rows
def DSd (H:Hp) (a:Addr) (y d:V) (v:V) (H':Hp):Prop:=∃ kvs k,H a=some (.dK kvs)/\y=kV k/\kvs.length<sizeLine/\((valV kvs k=some v/\H'=H)\/(valV kvs k=none/\v=d/\H'=upd H a (.dK (putK kvs k d))))
section
variable {X:Cx} {pins:List (Addr×Obj)} {σ:St} {H H':Hp} {s:Shared} {a:Addr} {y d v:V} {u r:Value} {A:Around} {E:Value->Shared->Prop}
end
def tDSd (td ty tx:TE):TE:=fun σ H Q=>td σ H fun x H1=>∃ a,x = .ref a/\IsD H1 a/\ty σ H1 fun y H2=>tx σ H2 fun z H3=>∃ v H4,DSd H3 a y z v H4/\Q v H4
section
variable {X:Cx} {o e f:Expr} {td ty tx:TE} {apos cpos:Pos}
end
end L2
namespace Sw
open L2
def ov (low high:Rat) (u:T3):Rat:=if u.2.1<=low then 0 else if high<=u.1 then 0 else (if u.2.1<=high then u.2.1 else high)-(if low<=u.1 then u.1 else low)
def went (low high:Rat):List T3->Rat
 | []=>0
 | u :: r=>(u.2.2:Rat)*ov low high u+went low high r
theorem zxb {l m h:Rat} {u:T3} (h1:l<=m) (h2:m<=h) (hu:u.1<=u.2.1):ov l h u=ov l m u+ov m h u:=by
 unfold ov
 grind
theorem zgk {l m h:Rat} (h1:l<=m) (h2:m<=h):∀ {us:List T3},(∀ u∈us,u.1<=u.2.1)->went l h us=went l m us+went m h us
 | [],_=>by unfold went; grind
 | u :: r,hu=>by
  have e:=zxb (u:=u) h1 h2 (hu u (by simp))
  have ih:=zgk h1 h2 (us:=r) fun x hx=>hu x (List.mem_cons_of_mem _ hx)
  unfold went
  rw [e,ih,Rat.mul_add]
  grind
def Chain (us:List T3) (m:Rat):Prop:=∀ u∈us,u.1<=m\/∃ v∈us,v.2.1=u.1/\v.1<v.2.1
theorem Chain.on {us:List T3} {m m':Rat} (h:Chain us m) (le:m<=m'):Chain us m':=fun u hu=>by
 rcases h u hu with q | q
 ·exact .inl (by grind)
 ·exact .inr q
theorem zki {l:List T3} {a b:Rat} (h:a<b) (hw:∃ v∈l,v.1=a):(l.filter fun u=>decide (u.1<a)).length<(l.filter fun u=>decide (u.1<b)).length:=by
 obtain ⟨v,hv,e⟩:=hw
 refine zcn (fun x _ hx=>?_) ⟨v,hv,decide_eq_true (by rw [e]; exact h),by rw [e]; simp only [decide_eq_false_iff_not]; grind⟩
 simp only [decide_eq_true_eq] at hx ⊢
 grind
theorem zey {us:List T3} {m:Rat} (c:Chain us m):∀ (n:Nat) (u:T3),u∈us->m<u.1->(us.filter fun x=>decide (x.1<u.1)).length<=n->∃ h∈hds us m,h.2.1<=u.1
 | 0,u,hu,hm,hn=>by
  rcases c u hu with q | ⟨v,hv,e1,e2⟩
  ·grind
  ·have:v∈us.filter fun x=>decide (x.1<u.1):=List.mem_filter.mpr ⟨hv,decide_eq_true (by grind)⟩
   have hz:=List.length_eq_zero_iff.mp (Nat.le_zero.mp hn)
   rw [hz] at this
   cases this
 | n+1,u,hu,hm,hn=>by
  rcases c u hu with q | ⟨v,hv,e1,e2⟩
  ·grind
  ·by_cases hvm:v.1<=m
   ·refine ⟨v,List.mem_filter.mpr ⟨hv,?_⟩,by grind⟩
    unfold isHd
    rw [decide_eq_false (by grind),decide_eq_true (by rw [e1]; exact hm)]
    rfl
   ·have lt:=zki (l:=us) (a:=v.1) (b:=u.1) (by grind) ⟨v,hv,rfl⟩
    obtain ⟨h,h1,h2⟩:=zey c n v hv (by grind) (by omega)
    exact ⟨h,h1,by grind⟩
theorem zfg:∀ (l:List Rat) (d:Rat),l.foldl min d<=d/\∀ x∈l,l.foldl min d<=x
 | [],d=>⟨by show d<=d; grind,fun x h=>absurd h List.not_mem_nil⟩
 | q :: r,d=>by
  obtain ⟨h1,h2⟩:=zfg r (min d q)
  have hm:min d q<=d/\min d q<=q:=by rw [Rat.min_def]; split <;> constructor <;> grind
  refine ⟨by rw [List.foldl_cons]; grind,fun x hx=>?_⟩
  rw [List.foldl_cons]
  rcases List.mem_cons.mp hx with e | e
  ·subst e; grind
  ·exact h2 x e
theorem zqc {hs:List T3} {u:T3} (h:u∈hs):fstE hs<=u.2.1:=by
 unfold fstE
 have hm:u.2.1∈hs.map fun u=>u.2.1:=List.mem_map.mpr ⟨u,h,rfl⟩
 generalize (hs.map fun u=>u.2.1)=l at hm
 cases l with
 | nil=>cases hm
 | cons q r=>exact (zfg (q :: r) q).2 _ hm
theorem zqd (u:T3) (r:List T3):sumS (u :: r)=u.2.2+sumS r:=by unfold sumS; simp
theorem zjg {m h:Rat} (le:m<=h):∀ {us:List T3},(∀ u∈us,isHd m u=true->h<=u.2.1)->(∀ u∈us,m<u.1->h<=u.1)->(∀ u∈us,u.1<=u.2.1)->went m h us=(sumS (hds us m):Rat)*(h-m)
 | [],_,_,_=>by
  have:sumS (hds [] m) = 0:=rfl
  rw [this]
  unfold went
  have z:((0:Int):Rat) = 0:=rfl
  rw [z]; grind
 | u :: r,h1,h2,h3=>by
  have ih:=zjg le (us:=r) (fun x hx=>h1 x (List.mem_cons_of_mem _ hx)) (fun x hx=>h2 x (List.mem_cons_of_mem _ hx)) fun x hx=>h3 x (List.mem_cons_of_mem _ hx)
  have a1:=h1 u (by simp)
  have a2:=h2 u (by simp)
  have a3:=h3 u (by simp)
  have eh:hds (u :: r) m=(if isHd m u=true then u :: hds r m else hds r m):=by
   unfold hds
   rw [List.filter_cons]
  unfold went
  rw [ih,eh]
  cases e:isHd m u with
  | true =>
   rw [if_pos rfl,zqd,Rat.intCast_add]
   have a1:=a1 e
   unfold isHd at e
   simp only [Bool.and_eq_true,Bool.not_eq_true',decide_eq_true_eq,decide_eq_false_iff_not] at e
   have eo:ov m h u=h-m:=by
    unfold ov
    grind
   rw [eo,Rat.add_mul]
  | false =>
   rw [if_neg (by decide)]
   have eo:ov m h u = 0:=by
    unfold isHd at e
    unfold ov
    by_cases q:m<u.1
    ·have:=a2 q
     grind
    ·rw [decide_eq_false q] at e
     have:¬ m<u.2.1:=by simpa using e
     grind
   rw [eo]
   grind
theorem zie {us:List T3} {D B:Int} {t:Rat} (ok:∀ u∈us,TagOk D B u):∀ (n:Nat) (mo re:Rat),Chain us re->mo<=t->ahead us re<n ->
    re<=markF us t n mo re/\(((∃ u∈us,markF us t n mo re<u.2.1)/\went re (markF us t n mo re) us=t-mo)\/((∀ u∈us,u.2.1<=markF us t n mo re)/\went re (markF us t n mo re) us<=t-mo))
  | 0,mo,re,_,_,h=>absurd h (by omega)
  | n+1,mo,re,ch,hm,ha=>by
    have be:∀ u∈us,u.1<=u.2.1:=fun u h=>(ok u h).be
    unfold markF
    by_cases hn:hds us re = []
    · rw [if_pos hn]
      have w0:went re re us = 0:=by
        have:=zgk (l:=re) (m:=re) (h:=re) (by grind) (by grind) be
        grind
      refine ⟨by grind,.inr ⟨fun u hu=>?_,by rw [w0]; grind⟩⟩
      rcases Classical.em (u.2.1<=re) with q | q
      · exact q
      · exfalso
        by_cases hb:u.1<=re
        · have:u∈hds us re:=List.mem_filter.mpr ⟨hu,by unfold isHd; rw [decide_eq_false (by grind),decide_eq_true (by grind)]; rfl⟩
          rw [hn] at this; cases this
        · obtain ⟨h,h1,_⟩:=zey ch _ u hu (by grind) (Nat.le_refl _)
          rw [hn] at h1; cases h1
    · rw [if_neg hn]
      have gt:=fstE_gt hn
      have hok:∀ u∈hds us re,TagOk D B u:=fun u h=>ok u (hds_mem h).1
      have hS:=zex hok hn
      have Sp:(0:Rat)<(sumS (hds us re):Rat):=zbd (by omega)
      have seg:∀ h,re<=h->h<=fstE (hds us re)->went re h us=(sumS (hds us re):Rat)*(h-re):=fun h l1 l2=>zjg l1 (fun u hu e=>by
          have:fstE (hds us re)<=u.2.1:=zqc (List.mem_filter.mpr ⟨hu,e⟩)
          grind) (fun u hu q=>by
          obtain ⟨v,v1,v2⟩:=zey ch _ u hu q (Nat.le_refl _)
          have:=zqc v1
          grind) be
      have al:=ahead_lt hn
      obtain ⟨uf,huf,ef⟩:=fstE_mem hn
      by_cases hlt:t<mo+(fstE (hds us re)-re)*(sumS (hds us re):Rat)
      · rw [if_pos hlt]
        have x0:0<=(t-mo) / (sumS (hds us re):Rat):=by
          have:¬ (t-mo) / (sumS (hds us re):Rat)<0:=by rw [Rat.div_lt_iff Sp]; grind
          grind
        have x1:(t-mo) / (sumS (hds us re):Rat)<fstE (hds us re)-re:=by rw [Rat.div_lt_iff Sp]; grind
        refine ⟨by grind,.inl ⟨⟨uf,(hds_mem huf).1,by rw [<- ef]; grind⟩,?_⟩⟩
        rw [seg _ (by grind) (by grind)]
        have:(sumS (hds us re):Rat)≠0:=by grind
        grind
      · rw [if_neg hlt]
        have sg:=seg (fstE (hds us re)) (by grind) (by grind)
        obtain ⟨i1,i2⟩:=zie (t:=t) ok n (mo+(fstE (hds us re)-re)*(sumS (hds us re):Rat)) (fstE (hds us re)) (ch.on (by grind)) (by grind) (by omega)
        have ad:=zgk (l:=re) (m:=fstE (hds us re)) (h:=markF us t n (mo+(fstE (hds us re)-re)*(sumS (hds us re):Rat)) (fstE (hds us re))) (by grind) i1 be
        refine ⟨by grind,?_⟩
        rcases i2 with ⟨j1,j2⟩ | ⟨j1,j2⟩
        · exact .inl ⟨j1,by rw [ad,sg,j2]; grind⟩
        · exact .inr ⟨j1,by rw [ad,sg]; grind⟩
end Sw
namespace Sw
open L2
theorem znn {us:List T3} {D B:Int} {t:Rat} (ok:∀ u∈us,TagOk D B u):∀ (n:Nat) (mo re:Rat),mo<=t->re<=markF us t n mo re
 | 0,mo,re,_=>by unfold markF; grind
 | n+1,mo,re,hm=>by
  unfold markF
  by_cases hn:hds us re = []
  ·rw [if_pos hn]; grind
  ·rw [if_neg hn]
   have gt:=fstE_gt hn
   have hS:=zex (fun u h=>ok u (hds_mem h).1) hn
   have Sp:(0:Rat)<(sumS (hds us re):Rat):=zbd (by omega)
   by_cases hlt:t<mo+(fstE (hds us re)-re)*(sumS (hds us re):Rat)
   ·rw [if_pos hlt]
    have:¬ (t-mo) / (sumS (hds us re):Rat)<0:=by rw [Rat.div_lt_iff Sp]; grind
    grind
   ·rw [if_neg hlt]
    have:=znn (t:=t) ok n (mo+(fstE (hds us re)-re)*(sumS (hds us re):Rat)) (fstE (hds us re)) (by grind)
    grind
theorem zjh {us:List T3} {D B:Int} {t t':Rat} (ok:∀ u∈us,TagOk D B u) (h:t<=t'):∀ (n:Nat) (mo re:Rat),mo<=t->markF us t n mo re<=markF us t' n mo re
 | 0,mo,re,_=>by unfold markF; grind
 | n+1,mo,re,hm=>by
  unfold markF
  by_cases hn:hds us re = []
  ·rw [if_pos hn,if_pos hn]; grind
  ·rw [if_neg hn,if_neg hn]
   have gt:=fstE_gt hn
   have hS:=zex (fun u h=>ok u (hds_mem h).1) hn
   have Sp:(0:Rat)<(sumS (hds us re):Rat):=zbd (by omega)
   have Sn:(sumS (hds us re):Rat)≠0:=by grind
   by_cases h1:t<mo+(fstE (hds us re)-re)*(sumS (hds us re):Rat)
   ·rw [if_pos h1]
    by_cases h2:t' < mo+(fstE (hds us re)-re)*(sumS (hds us re):Rat)
    ·rw [if_pos h2]
     have:¬ (t' - mo) / (sumS (hds us re):Rat)<(t-mo) / (sumS (hds us re):Rat):=by
      rw [Rat.div_lt_iff Sp,show (t-mo) / (sumS (hds us re):Rat)*(sumS (hds us re):Rat)=t-mo by grind]
      grind
     grind
    ·rw [if_neg h2]
     have x1:(t-mo) / (sumS (hds us re):Rat)<fstE (hds us re)-re:=by rw [Rat.div_lt_iff Sp]; grind
     have:=znn (t:=t') ok n (mo+(fstE (hds us re)-re)*(sumS (hds us re):Rat)) (fstE (hds us re)) (by grind)
     grind
   ·rw [if_neg h1,if_neg (by grind)]
    exact zjh ok h n _ _ (by grind)
theorem zlg {us:List T3} {D B:Int} {t:Rat} (ok:∀ u∈us,TagOk D B u):∀ (n:Nat) (mo re:Rat),ahead us re<n->(∀ u∈us,u.2.1<=markF us t n mo re)->markF us t n mo re=re\/∃ u∈us,u.2.1=markF us t n mo re
 | 0,mo,re,h,_=>absurd h (by omega)
 | n+1,mo,re,ha,hall=>by
  unfold markF at hall ⊢
  by_cases hn:hds us re = []
  ·rw [if_pos hn]; exact .inl rfl
  ·rw [if_neg hn] at hall ⊢
   have al:=ahead_lt hn
   obtain ⟨uf,huf,ef⟩:=fstE_mem hn
   by_cases hlt:t<mo+(fstE (hds us re)-re)*(sumS (hds us re):Rat)
   ·rw [if_pos hlt] at hall ⊢
    have hS:=zex (fun u h=>ok u (hds_mem h).1) hn
    have Sp:(0:Rat)<(sumS (hds us re):Rat):=zbd (by omega)
    have x1:(t-mo) / (sumS (hds us re):Rat)<fstE (hds us re)-re:=by rw [Rat.div_lt_iff Sp]; grind
    have:=hall uf (hds_mem huf).1
    rw [<- ef] at this
    grind
   ·rw [if_neg hlt] at hall ⊢
    rcases zlg ok n _ _ (by omega) hall with h | h
    ·exact .inr ⟨uf,(hds_mem huf).1,by rw [h,ef]⟩
    ·exact .inr h
theorem zog {us:List T3} {en:Int->Option Rat} {re rv:Rat} {who len sh:Int} (h1:re<=rv) (c:Chain us re) (he:∀ w e,en w=some e->e<=re\/∃ v∈us,v.2.1=e/\v.1<v.2.1) (lt:0<(len:Rat) / (sh:Rat)) :
    Chain (usOn us rv (begOn en rv who) len sh) rv/\∀ w e,setE en who (begOn en rv who+(len:Rat) / (sh:Rat)) w=some e->e<=rv\/∃ v∈usOn us rv (begOn en rv who) len sh,v.2.1=e/\v.1<v.2.1:=by
  have old:∀ v∈us,rv<v.2.1->v∈usOn us rv (begOn en rv who) len sh:=fun v hv h=>List.mem_append_left _ (List.mem_filter.mpr ⟨hv,decide_eq_true h⟩)
  have lift:∀ e,(∃ v∈us,v.2.1=e/\v.1<v.2.1)->e<=rv\/∃ v∈usOn us rv (begOn en rv who) len sh,v.2.1=e/\v.1<v.2.1:=fun e ⟨v,hv,e1,e2⟩=>by
    rcases Classical.em (e<=rv) with q | q
    · exact .inl q
    · exact .inr ⟨v,old v hv (by grind),e1,e2⟩
  refine ⟨fun u hu=>?_,fun w e hw=>?_⟩
  · rcases List.mem_append.mp hu with h | h
    · rcases c u (List.mem_filter.mp h).1 with q | q
      · exact .inl (by grind)
      · exact lift _ q
    · have:u=(begOn en rv who,begOn en rv who+(len:Rat) / (sh:Rat),sh):=by simpa using h
      subst this
      show begOn en rv who<=rv\/∃ x∈usOn us rv (begOn en rv who) len sh,x.2.1=begOn en rv who/\x.1<x.2.1
      generalize hbo:usOn us rv (begOn en rv who) len sh=uu at lift
      unfold begOn
      cases e:en who with
      | none =>
        refine .inl ?_
        show max rv rv<=rv
        rw [Rat.max_def]; simp
      | some v =>
        show max rv v<=rv\/∃ x∈uu,x.2.1=max rv v/\x.1<x.2.1
        rcases he who v e with q | q
        · refine .inl ?_
          rw [Rat.max_def]
          split <;> grind
        · rcases lift v q with q2 | ⟨x,x1,x2,x3⟩
          · refine .inl ?_
            rw [Rat.max_def]
            split <;> grind
          · by_cases hv:rv<=v
            · refine .inr ⟨x,x1,?_,x3⟩
              show x.2.1=max rv v
              rw [Rat.max_def,if_pos hv,x2]
            · refine .inl ?_
              rw [Rat.max_def,if_neg hv]
              grind
  · unfold setE at hw
    split at hw
    · cases hw
      exact .inr ⟨(begOn en rv who,begOn en rv who+(len:Rat) / (sh:Rat),sh),List.mem_append_right _ (by simp),rfl,by show begOn en rv who<begOn en rv who+(len:Rat) / (sh:Rat); grind⟩
    · rcases he w e hw with q | q
      · exact .inl (by grind)
      · exact lift e q
end Sw
namespace Sw
open L2
structure AllIn (all us:List T3) (re:Rat):Prop where
 ch:Chain us re
 sub:∀ u∈us,u∈all
 sup:∀ u∈all,u.2.1<=re\/u∈us
 eq:∀ low high,re<=low->low<=high->went low high all=went low high us
 top:(all = []/\re = 0)\/∃ u∈all,re<=u.2.1
theorem zlh {low high:Rat}:∀ {us:List T3},(∀ u∈us,u.2.1<=low)->went low high us = 0
 | [],_=>rfl
 | u :: r,h=>by
  have h1:=h u (by simp)
  have ih:=zlh (low:=low) (high:=high) (us:=r) fun x hx=>h x (List.mem_cons_of_mem _ hx)
  show (u.2.2:Rat)*ov low high u+went low high r = 0
  rw [ih]
  unfold ov
  rw [if_pos h1]; grind
theorem zli {low high rv:Rat} (le:rv<=low):∀ {us:List T3},went low high (us.filter fun u=>decide (rv<u.2.1))=went low high us
 | []=>rfl
 | u :: r=>by
  have ih:=zli (low:=low) (high:=high) le (us:=r)
  rw [List.filter_cons]
  split
  ·show (u.2.2:Rat)*ov low high u+went low high _=(u.2.2:Rat)*ov low high u+went low high r
   rw [ih]
  ·rename_i h
   have h:¬ rv<u.2.1:=by simpa using h
   show went low high _=(u.2.2:Rat)*ov low high u+went low high r
   rw [ih]
   unfold ov
   rw [if_pos (by grind)]; grind
theorem zhp {low high:Rat} {b:List T3}:∀ {a:List T3},went low high (a++b)=went low high a+went low high b
 | []=>by show went low high b = 0+went low high b; grind
 | u :: r=>by
  have ih:=zhp (low:=low) (high:=high) (b:=b) (a:=r)
  show (u.2.2:Rat)*ov low high u+went low high (r++b)=((u.2.2:Rat)*ov low high u+went low high r)+went low high b
  rw [ih]; grind
theorem AllIn.come {all us:List T3} {re rv b:Rat} {len sh:Int} (a:AllIn all us re) (h:re<=rv) (ch:Chain (usOn us rv b len sh) rv) (hb:rv<=b+(len:Rat) / (sh:Rat)) :
    AllIn (all++[(b,b+(len:Rat) / (sh:Rat),sh)]) (usOn us rv b len sh) rv:=by
  refine ⟨ch,fun u hu=>?_,fun u hu=>?_,fun low high h1 h2=>?_,.inr ⟨(b,b+(len:Rat) / (sh:Rat),sh),List.mem_append_right _ (by simp),hb⟩⟩
  · rcases List.mem_append.mp hu with q | q
    · exact List.mem_append_left _ (a.sub u (List.mem_filter.mp q).1)
    · exact List.mem_append_right _ q
  · rcases List.mem_append.mp hu with q | q
    · rcases a.sup u q with z | z
      · exact .inl (by grind)
      · by_cases e:rv<u.2.1
        · exact .inr (List.mem_append_left _ (List.mem_filter.mpr ⟨z,decide_eq_true e⟩))
        · exact .inl (by grind)
    · exact .inr (List.mem_append_right _ q)
  · unfold usOn
    rw [zhp,zhp,zli h1,a.eq low high (by grind) h2]
theorem AllIn.went {all us:List T3} {re:Rat} {D B lat now t:Int} (a:AllIn all us re) (ok:∀ u∈us,TagOk D B u) (h1:lat<=now) (h2:now<=t) :
    markAt us lat re now<=markAt us lat re t/\(((∃ u∈all,markAt us lat re t<u.2.1)/\went (markAt us lat re now) (markAt us lat re t) all=((t-now:Int):Rat)) \/
      ((∀ u∈all,u.2.1<=markAt us lat re t)/\went (markAt us lat re now) (markAt us lat re t) all<=((t-now:Int):Rat)/\((all = []/\markAt us lat re t = 0)\/∃ u∈all,u.2.1=markAt us lat re t))):=by
  have c1:(lat:Rat)<=(now:Rat):=Rat.intCast_le_intCast.mpr h1
  have c2:(now:Rat)<=(t:Rat):=Rat.intCast_le_intCast.mpr h2
  have len:=ahead_le us re
  have mono:=zjh ok c2 (us.length+1) (lat:Rat) re c1
  have g1:=zie ok (us.length+1) (lat:Rat) re a.ch c1 (by omega)
  have g2:=zie ok (us.length+1) (lat:Rat) re a.ch (show (lat:Rat)<=(t:Rat) by grind) (by omega)
  have ge:=zlg (t:=(t:Rat)) ok (us.length+1) (lat:Rat) re (by omega)
  have be:∀ u∈us,u.1<=u.2.1:=fun u h=>(ok u h).be
  rw [Rat.intCast_sub]
  unfold markAt
  generalize markF us (now:Rat) (us.length+1) (lat:Rat) re=lo at *
  generalize markF us (t:Rat) (us.length+1) (lat:Rat) re=hi at *
  refine ⟨mono,?_⟩
  rw [a.eq lo hi g1.1 mono]
  have ad:=zgk g1.1 mono be
  rcases g2.2 with ⟨⟨u,hu,q⟩,w2⟩ | ⟨q,w2⟩
  · refine .inl ⟨⟨u,a.sub u hu,q⟩,?_⟩
    rcases g1.2 with ⟨_,w1⟩ | ⟨q1,_⟩
    · grind
    · have:=q1 u hu
      grind
  · refine .inr ⟨fun u hu=>?_,?_,?_⟩
    · rcases a.sup u hu with z | z
      · have:=g2.1
        grind
      · exact q u z
    · rcases g1.2 with ⟨_,w1⟩ | ⟨q1,_⟩
      · grind
      · rw [zlh q1]; grind
    · rcases ge q with e | ⟨u,hu,e⟩
      · rcases a.top with ⟨e1,e2⟩ | ⟨u,hu,e1⟩
        · exact .inl ⟨e1,by rw [e,e2]⟩
        · refine .inr ⟨u,hu,?_⟩
          rcases a.sup u hu with z | z
          · grind
          · have:=q u z
            grind
      · exact .inr ⟨u,a.sub u hu,e⟩
theorem AllIn.nil:AllIn [] [] 0:=⟨fun u h=>absurd h List.not_mem_nil,fun u h=>absurd h List.not_mem_nil,fun u h=>absurd h List.not_mem_nil,fun _ _ _ _=>rfl,.inl ⟨rfl,rfl⟩⟩
end Sw
namespace L2
open PySem PySem.Spec PyProof.Rows
section
variable {X:Cx}
end
abbrev D2:=Int×Int
def d2 (g:D2):List V:=[.int g.1,.int g.2]
theorem Row.item {H:Hp} {l:Addr} {ps:List Addr} {qs:List Q4} (R:Row H l ps qs) {i:Int} (h0:0<=i) (h1:i<qs.length):∃ p q,atI (ps.map V.ref) i=some (.ref p)/\qs[i.toNat]? = some q/\H p=some (.tup (q4 q)):=by
 have len:=R.r.len
 have hp:ps[i.toNat]? = some (ps[i.toNat]'(by omega)):=List.getElem?_eq_getElem _
 obtain ⟨q,h2,h3⟩:=R.r.get hp
 have:=zcc (xs:=ps.map V.ref) (j:=i.toNat) (v:=V.ref (ps[i.toNat]'(by omega))) (by rw [List.getElem?_map,hp]; rfl)
 rw [Int.toNat_of_nonneg h0] at this
 exact ⟨_,q,this,h2,h3⟩
end L2
namespace Sw
open L2
end Sw
namespace L2
open PySem PySem.Spec PyProof.Rows
theorem zoh {lo:Int} {n:Nat} {g:TG} {tc:TT} {te:TE} {D:Addr} {τ:St} {H:Hp} {Q:VK} (Pv:Nat->St->Hp->Prop) (h0:Pv 0 τ H)
    (hs:∀ i τ H,i<n->Pv i τ H->g (.int (lo+i)) τ H fun τ2 H3=>tc τ2 H3 fun b H4=>if b=true then te τ2 H4 fun y H5=>∃ ys,H5 D=some (.lst ys)/\ys.length<sizeLine/\Pv (i+1) τ2 (upd H5 D (.lst (ys++[y]))) else Pv (i+1) τ2 H4)
    (hd:∀ τ H,Pv n τ H->Q (.ref D) H):CompG (Itr lo n) g tc te D τ H Q:=by
  refine ⟨fun i m τ H=>m=n-i/\i<=n/\Pv i τ H,⟨n,by simp,Nat.zero_le _,h0⟩,?_⟩
  rintro i m τ H ⟨rfl,hi,p⟩
  by_cases hlt:i<n
  · refine .inr ⟨hlt,Pv (i+1),fun τ' H' p'=>⟨n-(i+1),by omega,rfl,hlt,p'⟩,fun x H' y=>?_⟩
    obtain ⟨e,y⟩:=y
    subst e y
    exact hs i τ _ hlt p
  · have e:i=n:=by omega
    subst e
    exact .inl ⟨Nat.le_refl _,hd τ H p⟩
end L2
namespace L2
open PySem PySem.Spec PyProof.Rows
section
variable {X:Cx}
theorem zun {i0:Nat} {y:Str} {py spos:Pos} {elt target iter:Expr} {ifs:List Expr} {scope:Scope} {pos:Pos} {cl:List (Str×Addr)} {ts:List Str} {fr:List (Str×Nat)} {wi:TI} {g:TG} {tc:TT} {te:TE} (hcalm:X.calm=true)
    (hclos:closureFor scope X.env=pure cl) (hcell:∀ y∈scope.names,y.2≠.cell) (hkind:scope.kind = .function) (hnames:∀ y∈scope.names,y.2 = .local->scope.names.lookup y.1=some .local)
    (hcl:∀ x c,cl.lookup x=some c->X.env.cells.lookup x=some c)
    (hhas:∀ x,((relabel scope X.env).names.lookup x=some .cell\/(relabel scope X.env).names.lookup x=some .free)->∃ c,cl.lookup x=some c) (hfr:FrOk X (relabel scope X.env) fr)
    (hi:PI X target iter wi) (hg:∀ fp s H,PG (zbr X scope cl (ts++fr.map (·.1)) fp s H) target g) (hc:∀ fp s H,PIfs (zbr X scope cl (ts++fr.map (·.1)) fp s H) ifs tc)
    (he:∀ fp s H,PE (zbr X scope cl (ts++fr.map (·.1)) fp s H) elt te) (hsw:swapsWith (.ListComp elt [⟨target,iter,ifs,0⟩] scope pos) (some (.Name y py)) spos.line X.env=pure true) (hN:X.N.Nodup) (hiy:X.N[i0]? = some y) (hy:Loc X.env.scope y)
    (hs:∀ x,foldedSetIterable iter X.env x=pure x:=by intro _; rfl) (hf:X.fn y=true\/X.env.scope.names.lookup y=some .local:=by first | exact .inl rfl | exact .inr rfl | assumption) :
    PS X (.Assign [.Name y py] (.ListComp elt [⟨target,iter,ifs,0⟩] scope pos) spos) (tAsg (tComp ts.length fr wi g tc te) (gName i0)):=by
  intro pins s σ H D I h
  have h:tComp ts.length fr wi g tc te σ H (fun x H1=>D.nx (σ.set i0 (some x)) H1):=h
  rw [exec_Assign_Name_used _ _ _ _ hsw]
  refine wpAny_bind (wpAny_standAt (wpAny_bind ?_))
  show wpAny _ _ (do let _ <- comprehension (.ListComp elt [⟨target,iter,ifs,0⟩] scope pos) scope X.env _ (newList []) false (eval iter X.env) (some (assign (.Name y py) X.env))) _ _ s
  refine wpAny_bind (wpAny_mono (wpAny_comprehension_free (use:=some (assign (.Name y py) X.env)) (Q:=fun _ s'=>SP X pins D .next s') rfl hs hclos hkind hnames (thn (hi pins s σ H _ I h) fun xv s1 h1=>thn h1 fun itv s2 h2=>?_)) (fun _ s' hq=>wpAny_pure (wpAny_pure hq)) fun _ _ e=>e)
  obtain ⟨it,fp,tn,J,H2,rfl,I2,T,st2,f2,hR⟩:=h2
  have D0:H2 s2.heap.objs.size=none:=I2.hok.fresh (Nat.le_refl _)
  obtain ⟨W,⟨m0,w0⟩,turn⟩:=hR s2.heap.objs.size D0
  refine wpAny_newObj_type (wpAny_newFunctionEnv hcell (by intro y hy; simp at hy) (fun h₁ hns₁ hsb₁=>?_) hkind)
  dsimp only at hns₁ hsb₁ ⊢
  have I3:Inv X pins σ (upd H2 s2.heap.objs.size (.lst [])) { s2 with heap:=s2.heap.push { cls:=.type "list", dict:=none,data:=.seq ([]:List Value).toArray } } :=
    I2.laid (t':=s2.toks) (fun _ _ q=>Heap.get?_push_of_some _ q) (Nat.le_refl _) ⟨Nat.zero_le _,[],0,.nil,Heap.get?_push_size _ rfl⟩
  have kp3:∀ b o,s2.heap.get? b=some o->(s2.heap.push { cls:=.type "list", dict:=none,data:=.seq ([]:List Value).toArray }).get? b=some o:=fun b o q=>Heap.get?_push_of_some _ q
  have sz3:(s2.heap.push { cls:=.type "list", dict:=none,data:=.seq ([]:List Value).toArray }).objs.size=s2.heap.objs.size+1:=Heap.size_push ..
  generalize s2.heap.push { cls:=.type "list", dict:=none,data:=.seq ([]:List Value).toArray } = hp3 at hns₁ hsb₁ I3 kp3 sz3 ⊢
  have kp:∀ b o,hp3.get? b=some o->h₁.get? b=some o:=fun b o e=>hsb₁.extBut b o (Nat.ne_of_lt (Heap.lt_size e)) (Heap.get?_push_of_some _ e)
  have flt:∀ b∈fp,b<s2.heap.objs.size:=fun b hb=>by
    obtain ⟨o,e,_⟩:=T.obj _ _ st2 b hb
    exact Heap.lt_size e
  have fr3:∀ b∈fp,(upd H2 s2.heap.objs.size (.lst [])) b=none:=fun b hb=>by rw [zai (Nat.ne_of_lt (flt b hb))]; exact (f2 b hb).1
  have f3:∀ b∈fp,FpOk X pins (upd H2 s2.heap.objs.size (.lst [])) b/\b<hp3.objs.size:=fun b hb=>⟨⟨fr3 b hb,(f2 b hb).2⟩,by rw [sz3]; exact Nat.lt_succ_of_lt (flt b hb)⟩
  have I4:=znf (ts:=ts) (t':=s2.toks+([]:List (Str×Value)).length) I3 hkind hcl hhas hfr f3 hns₁ kp
  have st4:tn 0 h₁:=T.keep _ _ _ st2 fun b hb o e=>kp b o (kp3 b o e)
  have loop:codeAny (model X.prog X.w) X.A (.compLoop (.ListComp elt [⟨target,iter,ifs,0⟩] scope pos) 0 (.ref it) (.ref s2.heap.objs.size) (compEnvC scope cl hp3.objs.size X.env))
      (compPost (model X.prog X.w) X.A X.xe (some (assign (.Name y py) X.env)) (fun _ s'=>SP X pins D .next s') (.ref s2.heap.objs.size) hp3.objs.size) { s2 with heap:=h₁,toks:=s2.toks+([]:List (Str×Value)).length }:=by
    refine zcu (fun n s'=>∃ i τ H',Inv (zbr X scope cl (ts++fr.map (·.1)) fp { s2 with heap:=hp3 } (upd H2 s2.heap.objs.size (.lst []))) [] τ H' s'/\tn i s'.heap/\(∀ b∈fp,H' b=none)/\W i n τ H') ?_ m0 ⟨0,_,_,I4,st4,fr3,w0⟩
    rintro n s5 ⟨i,τ,H5,I5,st5,fr5,w5⟩
    have stat:∀ {H':Hp},(∀ b∈fp,H' b=none)->∀ b∈fp,FpOk (zbr X scope cl (ts++fr.map (·.1)) fp { s2 with heap:=hp3 } (upd H2 s2.heap.objs.size (.lst []))) [] H' b :=
      fun hn b hb=>⟨hn b hb,(I5.ok.exf b hb).1,I5.ok.exfs b hb,.inl hb,(I5.ok.exf b hb).2,fun p hp=>absurd (show p∈([]:List (Addr×Obj)) from hp) (by simp)⟩
    rcases turn i n τ H5 w5 with ⟨stop,qn⟩ | ⟨go,Nn,hN,step⟩
    · refine thn (T.done (zbr X scope cl (ts++fr.map (·.1)) fp { s2 with heap:=hp3 } (upd H2 s2.heap.objs.size (.lst []))) rfl rfl rfl hcalm i [] s5 τ H5 _ I5 (stat fr5) st5 stop) fun r s6 ⟨hr,I6⟩=>?_
      subst hr
      have neC:∀ b o,hp3.get? b=some o->b≠hp3.objs.size:=fun b o e=>Nat.ne_of_lt (Heap.lt_size e)
      have I7:Inv X pins σ H5 s6:=by
        refine I3.call' (s':=s6) (ch:=fp) I6.os ⟨fun b o e n hb hx=>I6.base.keep b o e n hb hx,fun b o e n hb hx=>I6.base.slot b o e n hb hx,I6.base.free,fun b o e hx=>I6.base.there b o e hx,I6.base.tups,I6.base.frzs,I6.base.tbls⟩ I6.hok I6.bare (fun b hb=>?_)
        exact ⟨(f2 b hb).2.2.2.1,(f2 b hb).2.1,(f2 b hb).2.2.2.2.1,(f2 b hb).2.2.2.2.2⟩
      have lC:X.env.locals≠hp3.objs.size:=by
        obtain ⟨_,⟨o,_,_,ho,_⟩,_⟩:=I3.loc
        exact neC _ o ho
      have cC:∀ x c,X.env.cells.lookup x=some c->c≠hp3.objs.size:=fun x c e=>by
        obtain ⟨v,o,ho,_⟩:=I3.cell x c e
        exact neC _ o ho
      have fC:H5 hp3.objs.size=none:=I6.free
      obtain ⟨m,hn,_⟩:=I6.loc
      show wpAny _ _ (assign (.Name y py) X.env (.ref s2.heap.objs.size)) _ _ _
      refine wpAny_assign_Name (zhr I7 hN hiy hy (v:=.ref s2.heap.objs.size) rfl (fun s8 I8 hsb=>?_) hf)
      obtain ⟨al,hs8,hal⟩:=hsb
      have alC:hp3.objs.size≠al:=by
        rcases hal with z | z
        · rw [z]; exact Ne.symm lC
        · exact Ne.symm (cC _ _ z)
      have hs8:Heap.SameBut al s6.heap s8.heap:=hs8
      have hnC:s6.heap.Ns hp3.objs.size m:=hn
      refine ⟨m,hnC.sameBut hs8 alC,fun h' hs'=>⟨σ.set i0 (some (.ref s2.heap.objs.size)),H5,?_,qn⟩⟩
      have hs':Heap.SameBut hp3.objs.size s8.heap h':=hs'
      refine I8.call' (s':={ s8 with heap:=h' }) (ch:=[hp3.objs.size]) rfl ⟨fun b o e n hb hx=>?_,fun b o e n hb hx=>?_,fun b o e n hx=>n,fun b o e hx=>?_,fun _ _ q=>q,fun _ _ _ q=>q,fun b ps q=>⟨#[],by rw [q]; simp⟩⟩ (fun b ob e=>?_) I8.bare (fun b hb=>?_)
      · exact (hs'.2 b (fun z=>hx (by simp [z]))).trans e
      · exact ⟨o.slots,(hs'.2 b (fun z=>hx (by simp [z]))).trans e⟩
      · exact ⟨o,(hs'.2 b (fun z=>hx (by simp [z]))).trans e⟩
      · refine (I8.hok b ob e).stay (fun c v hc q=>(hs'.2 c ?_).trans q) (fun _ q=>q) fun _ _ q=>q
        intro z
        rcases hc with w | w
        · rw [<- w,z,fC] at e; cases e
        · rw [z,fC] at w; cases w
      · have z:b=hp3.objs.size:=by simpa using hb
        subst z
        refine ⟨.inr (Nat.le_trans (Nat.le_trans I2.sz (by rw [sz3]; exact Nat.le_succ _)) (Nat.le_refl _)),Ne.symm lC,cC,fun p hp e=>?_⟩
        obtain ⟨q1,_⟩:=I3.pin p hp
        exact neC _ _ q1 e
    · refine thn (T.item (zbr X scope cl (ts++fr.map (·.1)) fp { s2 with heap:=hp3 } (upd H2 s2.heap.objs.size (.lst []))) rfl rfl rfl hcalm i [] s5 τ H5 _ I5 (stat fr5) st5 go) fun r s6 ⟨u,hr,h6⟩=>?_
      subst hr
      refine thn h6 fun _ s7 ⟨x,H7,I7,r7,y7,st7,fr7⟩=>?_
      have I7':=I7.pinned (stat fr7) (T.obj _ _ st7)
      refine wpAny_mono (hg fp _ _ _ s7 τ H7 x u _ I7' r7 (step x H7 y7)) (fun _ s8 ⟨τ8,H8,I8,q8⟩=>?_) fun _ _ z=>False.elim z
      have again:∀ {τ9:St} {H9:Hp} {s9:Shared},Inv (zbr X scope cl (ts++fr.map (·.1)) fp { s2 with heap:=hp3 } (upd H2 s2.heap.objs.size (.lst []))) ([]++zhv fp s7.heap) τ9 H9 s9->Nn τ9 H9 ->
          ∃ m,m<n/\∃ i τ H',Inv (zbr X scope cl (ts++fr.map (·.1)) fp { s2 with heap:=hp3 } (upd H2 s2.heap.objs.size (.lst []))) [] τ H' s9/\tn i s9.heap/\(∀ b∈fp,H' b=none)/\W i m τ H':=fun {τ9 H9 s9} I9 n9=>by
        obtain ⟨m',hm,w9⟩:=hN τ9 H9 n9
        refine ⟨m',hm,i+1,τ9,H9,I9.unpinned,T.keep _ _ _ st7 fun b hb o e=>(I9.pin (b,o) (List.mem_append_right _ (List.mem_append_right _ (zcz hb e)))).1,fun b hb=>?_,w9⟩
        obtain ⟨o,e,d⟩:=T.obj _ _ st7 b hb
        exact (I9.pin (b,o) (List.mem_append_right _ (List.mem_append_right _ (zcz hb e)))).2.1
      refine wpAny_mono (hc fp _ _ _ s8 τ8 H8 _ I8 q8) (fun ok s9 ⟨H9,I9,q9⟩=>?_) fun _ _ z=>False.elim z
      cases ok with
      | false=>exact again I9 q9
      | true =>
        refine wpAny_mono (he fp _ _ _ s9 τ8 H9 _ I9 q9) (fun y s10 ⟨v,H10,I10,rv,ys,hD,hl,qN⟩=>?_) fun _ _ z=>False.elim z
        refine wpAny_mono (zaz (X:=zbr X scope cl (ts++fr.map (·.1)) fp { s2 with heap:=hp3 } (upd H2 s2.heap.objs.size (.lst []))) _ s10 τ8 H10 (.ref s2.heap.objs.size) [v] (.ref s2.heap.objs.size) [y] (fun _ H=>Nn τ8 H) I10 rfl (.cons rv .nil) ⟨_,ys,v,rfl,rfl,hD,hl,qN⟩) (fun _ s11 ⟨_,H11,I11,_,q11⟩=>again I11 q11) fun _ _ z=>False.elim z
  exact codeAny_compStart_list loop (T.self X.A 0 _ _ _ st4 loop)
theorem zqe {i0:Nat} {y:Str} {py spos:Pos} {elt target iter:Expr} {ifs:List Expr} {scope:Scope} {pos:Pos} {cl:List (Str×Addr)} (ts:List Str) (fr:List (Str×Nat)) {wi:TI} {g:TG} {tc:TT} {te:TE} (hcalm:X.calm=true)
    (hclos:closureFor scope X.env=pure cl) (hcell:∀ y∈scope.names,y.2≠.cell) (hkind:scope.kind = .function) (hnames:∀ y∈scope.names,y.2 = .local->scope.names.lookup y.1=some .local)
    (hcl:ClOk X.env cl) (hhas:clAll (relabel scope X.env).names cl=true) (hfr:FrOk X (relabel scope X.env) fr)
    (hi:PI X target iter wi) (hg:∀ fp s H,PG (zbr X scope cl (ts++fr.map (·.1)) fp s H) target g) (hc:∀ fp s H,PIfs (zbr X scope cl (ts++fr.map (·.1)) fp s H) ifs tc)
    (he:∀ fp s H,PE (zbr X scope cl (ts++fr.map (·.1)) fp s H) elt te)
    (hsw:swapsWith (.ListComp elt [⟨target,iter,ifs,0⟩] scope pos) (some (.Name y py)) spos.line X.env=pure true) (hN:X.N.Nodup) (hiy:X.N[i0]? = some y) (hy:Loc X.env.scope y)
    (hs:∀ x,foldedSetIterable iter X.env x=pure x:=by intro _; rfl) (hf:X.fn y=true\/X.env.scope.names.lookup y=some .local:=by first | exact .inl rfl | exact .inr rfl | assumption) :
    PS X (.Assign [.Name y py] (.ListComp elt [⟨target,iter,ifs,0⟩] scope pos) spos) (tAsg (tComp ts.length fr wi g tc te) (gName i0)) :=
  zun hcalm hclos hcell hkind hnames hcl.get (fun x q=>zib hhas x q) hfr hi hg hc he hsw hN hiy hy hs hf
end
end L2
namespace L2
open PySem PySem.Spec PyProof.Rows
section
variable {X:Cx}
end
end L2
namespace L2
open PySem PySem.Spec PyProof.Rows
section
variable {X:Cx} {pins:List (Addr×Obj)} {σ:St} {H:Hp} {s:Shared} {a:Addr} {kvs:List (Key×V)} {o:Obj}
end
section
variable {X:Cx} {tg:Expr}
end
end L2
namespace L2
open PySem PySem.Spec PyProof.Rows
section
variable {P:Program} {w:World} {K:PySem.W.Frag} {mg:Str->Option Value} {base:Heap} {CX:CXT} {C:Addr} {m qual:Str} {st:Stmt} {N ps:List Str} {k:Nat} {sp:Sp}
end
section
variable {X:Cx} {CX:CXT} {k:Nat} {C:Addr} {ps:List Str} {sp:Sp} {Ek:XH} {x m:Str} {p pos apos:Pos} {e:Expr} {es:List Expr} {t:TA}
end
end L2
namespace L2
open PySem PySem.Spec PyProof.Rows
section
variable {X:Cx}
end
abbrev Nm:=List (Str×Int)
def kvsOf (nm:Nm):List (Key×V):=nm.map fun x=>((Sum.inr x.1:Key),V.int x.2)
structure Mb (C:Addr) (H:Hp) (p psh:Addr) (nm:Nm):Prop where
 ex:∃ dx fs,H p=some (.ins C dx fs)/\fs.lookup ("shares" : Str)=some (.ref psh)/\(∀ m:Str,¬ m = "shares" -> fs.lookup m=none)/\fs.length<900
 hs:H psh=some (.dK (kvsOf nm))
end L2
namespace L2
open PySem PySem.Spec PyProof.Rows
structure At5 where
 p:Addr
 pm:Addr
 ps:Addr
 pt:Addr
 pg:Addr
def lessO (st:Str->Rat) (x:Str):Option Str->Bool
 | none=>true
 | some y=>decide (st x<st y)
def pickF (rd:Str->Bool) (st:Str->Rat):List Str->Option Str->Option Str
 | [],f=>f
 | x :: r,f=>pickF rd st r (if (rd x && lessO st x f)=true then some x else f)
section
variable {C Cm:Addr} {H:Hp} {a:At5} {most:Int} {nm nm':Nm} {tg gs tg' gs':Str->Option Rat} {ck:Rat} {ch:V} {N N':Nat} {k:List (Key×V)}
end
end L2
namespace L2
open PySem PySem.Spec PyProof.Rows
end L2
namespace L2
open PySem PySem.Spec PyProof.Rows
structure Hd where
 C:Addr
 i:Option Nat
 th:TS
section
variable {P:Program} {w:World} {X:Cx} {C':Addr} {x:Str} {np hpos pos:Pos} {body suite:List Stmt} {b0:Stmt} {tb:XH->TS} {th:TS} {h0:ExceptHandler} {hds:List ExceptHandler} {hs:List Hd}
end
end L2
namespace Sw
abbrev F4:=Int×T3
def hdB (mo ma:Rat) (f:F4):Bool:=!decide (mo<(f.1:Rat)) && isHd ma f.2
def hdP (fs:List F4) (mo ma:Rat):List Nat:=(List.range fs.length).filter fun i=>match fs[i]? with | some f=>hdB mo ma f | none=>false
def shr (fs:List F4) (i:Nat):Int:=((fs[i]?).map fun f=>f.2.2.2).getD 0
def enP (fs:List F4) (i:Nat):Rat:=((fs[i]?).map fun f=>f.2.2.1).getD 0
def shP (fs:List F4) (ps:List Nat):Int:=(ps.map (shr fs)).sum
def chs (fs:List F4) (mo:Rat):List Rat:=fs.filterMap fun f=>if mo<(f.1:Rat) then some (f.1:Rat) else none
def fst1 (fs:List F4) (mo ma:Rat):Rat:=mo+(minL ((hdP fs mo ma).map (enP fs))-ma)*(shP fs (hdP fs mo ma):Rat)
def chA (fs:List F4) (mo ma:Rat):List Rat:=chs fs mo++(if hdP fs mo ma = [] then [] else [fst1 fs mo ma])
abbrev Sch:=Rat×Rat×List (Nat×Rat)
def prt (fs:List F4) (mo ma:Rat):List (Nat×Rat):=(hdP fs mo ma).map fun i=>(i,(shr fs i:Rat) / (shP fs (hdP fs mo ma):Rat))
def flowF (fs:List F4):Nat->Rat->Rat->List Sch
 | 0,_,_=>[]
 | n+1,mo,ma =>
  if chA fs mo ma = [] then []
  else if hdP fs mo ma = [] then flowF fs n (minL (chA fs mo ma)) ma
  else (mo,minL (chA fs mo ma),prt fs mo ma) :: flowF fs n (minL (chA fs mo ma)) (ma+(minL (chA fs mo ma)-mo) / (shP fs (hdP fs mo ma):Rat))
theorem flowF_succ (fs:List F4) (n:Nat) (mo ma:Rat):flowF fs (n+1) mo ma=if chA fs mo ma = [] then [] else if hdP fs mo ma = [] then flowF fs n (minL (chA fs mo ma)) ma else (mo,minL (chA fs mo ma),prt fs mo ma) :: flowF fs n (minL (chA fs mo ma)) (ma+(minL (chA fs mo ma)-mo) / (shP fs (hdP fs mo ma):Rat)):=rfl
def mu (fs:List F4) (mo ma:Rat):Nat:=(fs.filter fun f=>decide (mo<(f.1:Rat))).length+(fs.filter fun f=>decide (ma<f.2.2.1)).length
theorem mu_le (fs:List F4) (mo ma:Rat):mu fs mo ma<=2*fs.length:=by
 unfold mu
 have h1:=List.length_filter_le (fun f:F4=>decide (mo<(f.1:Rat))) fs
 have h2:=List.length_filter_le (fun f:F4=>decide (ma<f.2.2.1)) fs
 omega
theorem hdP_mem {fs:List F4} {mo ma:Rat} {i:Nat}:i∈hdP fs mo ma↔∃ f,fs[i]? = some f/\hdB mo ma f=true:=by
 unfold hdP
 rw [List.mem_filter,List.mem_range]
 constructor
 ·rintro ⟨h1,h2⟩
  cases e:fs[i]? with
  | none=>rw [e] at h2; cases h2
  | some f=>rw [e] at h2; exact ⟨f,rfl,h2⟩
 ·rintro ⟨f,e,h⟩
  exact ⟨(List.getElem?_eq_some_iff.mp e).1,by rw [e]; exact h⟩
theorem hdB_iff {mo ma:Rat} {f:F4}:hdB mo ma f=true↔((f.1:Rat)<=mo/\f.2.1<=ma/\ma<f.2.2.1):=by
 unfold hdB isHd
 simp only [Bool.and_eq_true,Bool.not_eq_true',decide_eq_false_iff_not,decide_eq_true_eq]
 constructor
 ·rintro ⟨a,b,c⟩; exact ⟨by grind,by grind,c⟩
 ·rintro ⟨a,b,c⟩; exact ⟨by grind,by grind,c⟩
theorem sum_pos:∀ {l:List Int},(∀ x∈l,1<=x)->l≠[]->1<=l.sum
 | [],_,h=>absurd rfl h
 | [x],h,_=>by simpa using h x (by simp)
 | x :: y :: r,h,_=>by
  have a:=h x (by simp)
  have b:=sum_pos (l:=y :: r) (fun z hz=>h z (List.mem_cons_of_mem _ hz)) (by simp)
  rw [List.sum_cons]
  omega
theorem zqf {M:Int}:∀ {l:List Int},(∀ x∈l,x<=M)->l.sum<=l.length*M
 | [],_=>by simp
 | x :: r,h=>by
  have a:=h x (by simp)
  have b:=zqf (l:=r) fun z hz=>h z (List.mem_cons_of_mem _ hz)
  rw [List.sum_cons,List.length_cons]
  have:((r.length+1:Nat):Int)*M=r.length*M+M:=by rw [Int.natCast_add,Int.add_mul]; simp
  omega
theorem shr_at {fs:List F4} {i:Nat} {f:F4} (h:fs[i]? = some f):shr fs i=f.2.2.2:=by unfold shr; rw [h]; rfl
theorem enP_at {fs:List F4} {i:Nat} {f:F4} (h:fs[i]? = some f):enP fs i=f.2.2.1:=by unfold enP; rw [h]; rfl
theorem zqg {fs:List F4} {mo ma:Rat} (s1:∀ f∈fs,1<=f.2.2.2) (h:hdP fs mo ma≠[]):1<=shP fs (hdP fs mo ma):=by
 refine sum_pos (fun x hx=>?_) (by simpa using h)
 obtain ⟨i,hi,rfl⟩:=List.mem_map.mp hx
 obtain ⟨f,e,_⟩:=hdP_mem.mp hi
 rw [shr_at e]
 exact s1 f (List.mem_of_getElem? e)
theorem hdP_len (fs:List F4) (mo ma:Rat):(hdP fs mo ma).length<=fs.length:=by
 have:=List.length_filter_le (fun i=>match fs[i]? with | some f=>hdB mo ma f | none=>false) (List.range fs.length)
 rw [List.length_range] at this
 exact this
theorem zxc {fs:List F4} {mo ma:Rat} {M:Int} (M0:0<=M) (s2:∀ f∈fs,f.2.2.2<=M):shP fs (hdP fs mo ma)<=fs.length*M:=by
 have h:=zqf (M:=M) (l:=(hdP fs mo ma).map (shr fs)) fun x hx=>by
  obtain ⟨i,hi,rfl⟩:=List.mem_map.mp hx
  obtain ⟨f,e,_⟩:=hdP_mem.mp hi
  rw [shr_at e]
  exact s2 f (List.mem_of_getElem? e)
 rw [List.length_map] at h
 have l:=hdP_len fs mo ma
 have:((hdP fs mo ma).length:Int)*M<=fs.length*M:=Int.mul_le_mul_of_nonneg_right (by omega) M0
 unfold shP
 omega
def lstE (fs:List F4) (mo ma:Rat):Rat:=minL ((hdP fs mo ma).map (enP fs))
theorem zkj {fs:List F4} {mo ma:Rat} (h:hdP fs mo ma≠[]):∃ f∈fs,hdB mo ma f=true/\lstE fs mo ma=f.2.2.1:=by
 have:=minL_mem (l:=(hdP fs mo ma).map (enP fs)) (by simpa using h)
 obtain ⟨i,hi,e⟩:=List.mem_map.mp this
 obtain ⟨f,e1,e2⟩:=hdP_mem.mp hi
 exact ⟨f,List.mem_of_getElem? e1,e2,by unfold lstE; rw [<- e,enP_at e1]⟩
theorem chs_mem {fs:List F4} {mo x:Rat}:x∈chs fs mo↔∃ f∈fs,mo<(f.1:Rat)/\x=(f.1:Rat):=by
 unfold chs
 rw [List.mem_filterMap]
 constructor
 ·rintro ⟨f,hf,e⟩
  split at e
  ·rename_i h; exact ⟨f,hf,h,(Option.some.inj e).symm⟩
  ·cases e
 ·rintro ⟨f,hf,h,rfl⟩
  exact ⟨f,hf,by rw [if_pos h]⟩
theorem zuo {l:List Rat} {x:Rat} (h:x∈l):minL l<=x:=by
 cases l with
 | nil=>cases h
 | cons q r=>exact (zfg (q :: r) q).2 x h
structure Turn1 (fs:List F4) (mo ma af ma':Rat):Prop where
 gt:mo<af
 ge:ma<=ma'
 way:(∃ f∈fs,mo<(f.1:Rat)/\af=(f.1:Rat))\/(hdP fs mo ma≠[]/\af=fst1 fs mo ma/\ma'=lstE fs mo ma/\∃ f∈fs,ma<f.2.2.1/\ma'=f.2.2.1)
 le:hdP fs mo ma≠[]->ma'<=lstE fs mo ma
theorem turn_mu {fs:List F4} {mo ma af ma':Rat} (t:Turn1 fs mo ma af ma'):mu fs af ma' < mu fs mo ma:=by
 have gt:=t.gt
 have ge:=t.ge
 have le1:∀ f:F4,decide (af<(f.1:Rat))=true->decide (mo<(f.1:Rat))=true:=fun f h=>by
  simp only [decide_eq_true_eq] at h ⊢; grind
 have le2:∀ f:F4,decide (ma' < f.2.2.1)=true->decide (ma<f.2.2.1)=true:=fun f h=>by
  simp only [decide_eq_true_eq] at h ⊢; grind
 have mono:∀ {p q:F4->Bool} {l:List F4},(∀ f,q f=true->p f=true)->(l.filter q).length<=(l.filter p).length:=fun {p q l} h=>by
  induction l with
  | nil=>exact Nat.le_refl _
  | cons z r ih =>
   have hz:=h z
   rw [List.filter_cons,List.filter_cons]
   cases e1:q z <;> cases e2:p z <;> simp_all <;> omega
 unfold mu
 rcases t.way with ⟨f,hf,h1,h2⟩ | ⟨_,_,_,f,hf,h1,h2⟩
 ·have a:=zcn (l:=fs) (p:=fun f=>decide (mo<(f.1:Rat))) (q:=fun f=>decide (af<(f.1:Rat))) (fun x _ h=>le1 x h) ⟨f,hf,decide_eq_true h1,by rw [h2]; simp only [decide_eq_false_iff_not]; grind⟩
  have b:=mono (l:=fs) (p:=fun f=>decide (ma<f.2.2.1)) (q:=fun f=>decide (ma' < f.2.2.1)) le2
  omega
 ·have a:=mono (l:=fs) (p:=fun f=>decide (mo<(f.1:Rat))) (q:=fun f=>decide (af<(f.1:Rat))) le1
  have b:=zcn (l:=fs) (p:=fun f=>decide (ma<f.2.2.1)) (q:=fun f=>decide (ma' < f.2.2.1)) (fun x _ h=>le2 x h) ⟨f,hf,decide_eq_true h1,by rw [h2]; simp only [decide_eq_false_iff_not]; grind⟩
  omega
theorem turn_rest {fs:List F4} {mo ma:Rat} (h:hdP fs mo ma = []) (hc:chA fs mo ma≠[]):Turn1 fs mo ma (minL (chA fs mo ma)) ma:=by
 have m:=minL_mem hc
 have e:chA fs mo ma=chs fs mo:=by unfold chA; rw [if_pos h,List.append_nil]
 rw [e] at m ⊢
 obtain ⟨f,hf,h1,h2⟩:=chs_mem.mp m
 exact ⟨by rw [h2]; exact h1,Rat.le_refl,.inl ⟨f,hf,h1,h2⟩,fun z=>absurd h z⟩
theorem zxd {fs:List F4} {mo ma:Rat} (h:hdP fs mo ma≠[]):chA fs mo ma≠[]:=by
 unfold chA
 rw [if_neg h]
 simp
theorem turn_go {fs:List F4} {mo ma:Rat} (s1:∀ f∈fs,1<=f.2.2.2) (h:hdP fs mo ma≠[]) :
    Turn1 fs mo ma (minL (chA fs mo ma)) (ma+(minL (chA fs mo ma)-mo) / (shP fs (hdP fs mo ma):Rat)):=by
  have m:=minL_mem (zxd h)
  have le:minL (chA fs mo ma)<=fst1 fs mo ma:=zuo (by unfold chA; rw [if_neg h]; simp)
  have e:∀ x,x∈chA fs mo ma->x∈chs fs mo\/x=fst1 fs mo ma:=fun x hx=>by
    unfold chA at hx
    rw [if_neg h] at hx
    rcases List.mem_append.mp hx with z | z
    · exact .inl z
    · exact .inr (by simpa using z)
  have sp:=zqg s1 h
  obtain ⟨f,hf,hb,he⟩:=zkj h
  obtain ⟨_,_,hm⟩:=hdB_iff.mp hb
  rw [<- he] at hm
  have S0:(0:Rat)<(shP fs (hdP fs mo ma):Rat):=zbd (by omega)
  have ef:fst1 fs mo ma=mo+(lstE fs mo ma-ma)*(shP fs (hdP fs mo ma):Rat):=rfl
  have fgt:mo<fst1 fs mo ma:=by
    rw [ef]
    have:=Rat.mul_pos (show (0:Rat)<lstE fs mo ma-ma by grind) S0
    grind
  generalize (shP fs (hdP fs mo ma):Rat)=S at S0 ef ⊢
  have gt:mo<minL (chA fs mo ma):=by
    rcases e _ m with z | z
    · obtain ⟨g,_,h1,h2⟩:=chs_mem.mp z
      rw [h2]; exact h1
    · rw [z]; exact fgt
  have dge:∀ x:Rat,0<=x->0<=x / S:=fun x hx=>by
    have:¬ x / S<0:=by rw [Rat.div_lt_iff S0,Rat.zero_mul]; grind
    grind
  have dle:∀ x:Rat,x<=(lstE fs mo ma-ma)*S->x / S<=lstE fs mo ma-ma:=fun x hx=>by
    have:¬ lstE fs mo ma-ma<x / S:=by rw [Rat.lt_div_iff S0]; grind
    grind
  generalize minL (chA fs mo ma)=af at m le gt ⊢
  have g1:=dge (af-mo) (by grind)
  have g2:=dle (af-mo) (by grind)
  refine ⟨gt,by grind,?_,fun _=>by grind⟩
  rcases e _ m with z | z
  · exact .inl (by obtain ⟨g,hg,h1,h2⟩:=chs_mem.mp z; exact ⟨g,hg,h1,h2⟩)
  · have e1:ma+(af-mo) / S=lstE fs mo ma:=by
      rw [z,ef]
      have:S≠0:=by grind
      grind
    exact .inr ⟨h,z,e1,f,hf,by grind,by rw [e1]; exact he⟩
end Sw
namespace Sw
open L2
theorem zxe {M:Int}:∀ {hs:List T3},(∀ u∈hs,u.2.2<=M)->sumS hs<=hs.length*M:=fun {hs} h=>by
 have:=zqf (M:=M) (l:=hs.map fun u=>u.2.2) fun x hx=>by
  obtain ⟨u,hu,rfl⟩:=List.mem_map.mp hx
  exact h u hu
 rw [List.length_map] at this
 exact this
theorem zqh {us:List T3} {D B M:Int} {t:Int} (gb:GB D B) (ok:∀ u∈us,TagOk D B u) (M0:0<=M) (sM:∀ u∈us,u.2.2<=M):∀ (n:Nat) (mo re:Rat),Grd D mo->Grd D re->∃ S:Int,1<=S/\S<=us.length*M+1/\Grd (D*S) (markF us (t:Rat) n mo re)
 | 0,mo,re,gm,gr=>⟨1,by decide,by have:=Int.mul_nonneg (Int.natCast_nonneg us.length) M0; omega,gr.more (by have:=gb.D0; omega) (by decide)⟩
 | n+1,mo,re,gm,gr=>by
  have D0:D≠0:=by have:=gb.D0; omega
  have z0:=Int.mul_nonneg (Int.natCast_nonneg us.length) M0
  unfold markF
  by_cases hn:hds us re = []
  ·rw [if_pos hn]
   exact ⟨1,by decide,by omega,gr.more D0 (by decide)⟩
  ·rw [if_neg hn]
   have hok:∀ u∈hds us re,TagOk D B u:=fun u h=>ok u (hds_mem h).1
   have hS:=zex hok hn
   have hM:=zxe (M:=M) (hs:=hds us re) fun u h=>sM u (hds_mem h).1
   have hl:(hds us re).length<=us.length:=List.length_filter_le _ _
   have hl2:((hds us re).length:Int)*M<=us.length*M:=Int.mul_le_mul_of_nonneg_right (by omega) M0
   obtain ⟨uf,huf,ef⟩:=fstE_mem hn
   have gf:Grd D (fstE (hds us re)):=by rw [ef]; exact (hok uf huf).e
   generalize fstE (hds us re)=fv at gf ⊢
   generalize sumS (hds us re)=S at hS hM ⊢
   by_cases hlt:(t:Rat)<mo+(fv-re)*(S:Rat)
   ·rw [if_pos hlt]
    exact ⟨S,hS.1,by omega,(gr.more D0 (by omega)).add (((Grd.int D0 t).sub gm).divi D0 (by omega))⟩
   ·rw [if_neg hlt]
    exact zqh (t:=t) gb ok M0 sM n (mo+(fv-re)*(S:Rat)) fv (gm.add ((gf.sub gr).muli S)) gf
structure Ti where
 lat:Int
 re:Rat
 us:List T3
 en:Int->Option Rat
def Ti.nil:Ti:=⟨0,0,[],fun _=>none⟩
def Ti.rv (s:Ti) (q:Q4):Rat:=markAt s.us s.lat s.re q.1
def Ti.beg (s:Ti) (q:Q4):Rat:=begOn s.en (s.rv q) q.2.1
def Ti.fin (s:Ti) (q:Q4):Rat:=s.beg q+(q.2.2.1:Rat) / (q.2.2.2:Rat)
def Ti.come (s:Ti) (q:Q4):Ti:=⟨q.1,s.rv q,usOn s.us (s.rv q) (s.beg q) q.2.2.1 q.2.2.2,setE s.en q.2.1 (s.fin q)⟩
def Ti.after (s:Ti):List Q4->Ti
 | []=>s
 | q :: r=>(s.come q).after r
def Ti.tags (s:Ti):List Q4->List (Rat×Rat)
 | []=>[]
 | q :: r=>(s.beg q,s.fin q) :: (s.come q).tags r
theorem Ti.after_snoc:∀ {s:Ti} {l:List Q4} {q:Q4},s.after (l++[q])=(s.after l).come q
 | _,[],_=>rfl
 | s,x :: r,q=>by
  show (s.come x).after (r++[q]) = _
  rw [Ti.after_snoc]; rfl
theorem Ti.tags_snoc:∀ {s:Ti} {l:List Q4} {q:Q4},s.tags (l++[q])=s.tags l++[((s.after l).beg q,(s.after l).fin q)]
 | _,[],_=>rfl
 | s,x :: r,q=>by
  show _ :: (s.come x).tags (r++[q]) = _
  rw [Ti.tags_snoc]; rfl
theorem Ti.tags_len:∀ {s:Ti} {l:List Q4},(s.tags l).length=l.length
 | _,[]=>rfl
 | s,x :: r=>by
  show ((s.come x).tags r).length+1 = _
  rw [Ti.tags_len]; rfl
structure Fit (n:Nat) (M:Int) (a c:Nat):Prop where
 M1:1<=M
 M2:M<=1000000
 n1:n<=60
 sA:n*M+1<2 ^ a
 sB:∃ b,a+b<=c/\M<2 ^ b
 all:c*n+80<=1500
 al2:c*n+a*n<=2000
theorem fit16:Fit 16 1000000 24 44:=⟨by decide,by decide,by decide,by decide,⟨20,by decide,by decide⟩,by decide,by decide⟩
theorem fit60:Fit 60 99 13 20:=⟨by decide,by decide,by decide,by decide,⟨7,by decide,by decide⟩,by decide,by decide⟩
theorem sz_of {a:Nat} {x:Int} (h0:0<=x) (h:x<2 ^ a):Sz a x:=by
 unfold Sz
 have:((2 ^ a:Nat):Int) = 2 ^ a:=by rw [Int.natCast_pow]; rfl
 omega
structure RunOk (n:Nat) (M:Int) (c:Nat) (s:Ti) (k:Nat) (D:Int):Prop where
 ok:TideOk D (k*1000000) s.lat s.re s.us
 eok:∀ w e,s.en w=some e->Grd D e/\0<=e/\e<=((k*1000000:Int):Rat)
 dz:Sz (c*k+1) D
 sM:∀ u∈s.us,u.2.2<=M
 ln:s.us.length<=k
 kn:k<=n
def PcOk (M:Int) (q:Q4):Prop:=0<=q.1/\q.1<100000000000000/\1<=q.2.2.1/\q.2.2.1<=1000000/\1<=q.2.2.2/\q.2.2.2<=M
theorem RunOk.nil {n:Nat} {M:Int} {c:Nat}:RunOk n M c Ti.nil 0 1 :=
 ⟨⟨⟨by decide,Sw.Sz.one _,by decide,by decide⟩,⟨0,by decide +kernel⟩,by decide,by decide,fun u h=>absurd h List.not_mem_nil,by decide,by decide,by decide⟩,(fun w e h=>by cases h),Sz.one _,fun u h=>absurd h List.not_mem_nil,Nat.le_refl _,Nat.zero_le _⟩
theorem RunOk.come {n:Nat} {M:Int} {a c:Nat} {s:Ti} {k:Nat} {D:Int} {q:Q4} (F:Fit n M a c) (r:RunOk n M c s k D) (hk:k<n) (p:PcOk M q) (hl:s.lat<=q.1) :
    ∃ D' j:Int,j≠0/\D'=D*j/\RunOk n M c (s.come q) (k+1) D'/\Grd D' (s.beg q)/\Grd D' (s.fin q)/\0<=s.beg q/\s.beg q<s.fin q/\s.fin q<=(((k+1:Nat)*1000000:Int):Rat):=by
  obtain ⟨p0,p1,n1,n2,s1,s2⟩:=p
  have o:=r.ok
  have M1:=F.M1
  obtain ⟨S,S1,S2,gS⟩:=zqh (t:=q.1) o.gb o.tus (by omega) r.sM (s.us.length+1) s.lat s.re (Grd.int (by have:=o.gb.D0; omega) s.lat) o.gre
  obtain ⟨_,m1,m2⟩:=markAt_ok o hl
  have gS:Grd (D*S) (s.rv q):=gS
  have m1:s.re<=s.rv q:=m1
  have m2:s.rv q<=((k*1000000:Int):Rat):=m2
  have D0:=o.gb.D0
  have re0:=o.re0
  have dn:D≠0:=by omega
  have sn:S≠0:=by omega
  have shn:q.2.2.2≠0:=by omega
  have dsn:D*S≠0:=Int.mul_ne_zero dn sn
  have gb1:Grd (D*S) (s.beg q)/\0<=s.beg q/\s.beg q<=((k*1000000:Int):Rat):=by
    unfold Ti.beg begOn
    cases e:s.en q.2.1 with
    | none =>
      show Grd (D*S) (max (s.rv q) (s.rv q))/\0<=max (s.rv q) (s.rv q)/\max (s.rv q) (s.rv q)<=_
      rw [Rat.max_def]
      simp only [ite_self]
      exact ⟨gS,by grind,m2⟩
    | some v =>
      have ev:=r.eok q.2.1 v e
      show Grd (D*S) (max (s.rv q) v)/\0<=max (s.rv q) v/\max (s.rv q) v<=_
      rw [Rat.max_def]
      split
      · exact ⟨ev.1.more dn sn,ev.2.1,ev.2.2⟩
      · exact ⟨gS,by grind,m2⟩
  obtain ⟨gb,b0,bB⟩:=gb1
  have shp:(0:Rat)<(q.2.2.2:Rat):=zbd (by omega)
  have x0:0<(q.2.2.1:Rat) / (q.2.2.2:Rat):=by
    rw [Rat.lt_div_iff shp,Rat.zero_mul]
    exact zbd (by omega)
  have x1:(q.2.2.1:Rat) / (q.2.2.2:Rat)<=((1000000:Int):Rat):=by
    have:¬ ((1000000:Int):Rat)<(q.2.2.1:Rat) / (q.2.2.2:Rat):=by
      rw [Rat.lt_div_iff shp,<- Rat.intCast_mul,Rat.intCast_lt_intCast]
      omega
    grind
  have eB:(((k+1:Nat)*1000000:Int):Rat)=((k*1000000:Int):Rat)+((1000000:Int):Rat):=by
    have:(((k+1:Nat):Int)*1000000:Int)=(k:Int)*1000000+1000000:=by omega
    rw [this,Rat.intCast_add]
  have mil:(0:Rat)<=((1000000:Int):Rat):=by decide
  have kb:(s.us.length:Int)*M<=n*M:=Int.mul_le_mul_of_nonneg_right (by have:=r.ln; omega) (by omega)
  have zD:Sz (c*(k+1)+1) (D*S*q.2.2.2):=by
    obtain ⟨b,hab,hb⟩:=F.sB
    have hS:Sz a S:=sz_of (by omega) (by have:=F.sA; omega)
    have hsh:Sz b q.2.2.2:=sz_of (by omega) (by omega)
    refine ((r.dz.mul hS).mul hsh).mono ?_
    rw [Nat.mul_add,Nat.mul_one]
    omega
  have z15:c*(k+1)+1<=1500:=by
    have h1:=F.all
    have h2:c*(k+1)<=c*n:=Nat.mul_le_mul_left c hk
    omega
  have ge:Grd (D*S*q.2.2.2) (s.fin q):=(gb.more dsn shn).add ((Grd.int dsn q.2.2.1).divi dsn shn)
  have ef:s.fin q=s.beg q+(q.2.2.1:Rat) / (q.2.2.2:Rat):=rfl
  have n6:=F.n1
  refine ⟨D*S*q.2.2.2,S*q.2.2.2,Int.mul_ne_zero sn shn,Int.mul_assoc D S q.2.2.2,⟨⟨⟨Int.mul_pos (Int.mul_pos D0 (by omega)) (by omega),zD.mono z15,by omega,by omega⟩,gS.more dsn shn,?_,?_,fun u hu=>?_,?_,p0,?_⟩,fun w e he=>?_,zD,fun u hu=>?_,?_,hk⟩,gb.more dsn shn,ge,b0,by rw [ef]; grind,by rw [ef,eB]; grind⟩
  · show 0<=s.rv q
    grind
  · show s.rv q<=_
    rw [eB]; grind
  · have hu:u∈(s.us.filter fun u=>decide (s.rv q<u.2.1))++[(s.beg q,s.beg q+(q.2.2.1:Rat) / (q.2.2.2:Rat),q.2.2.2)]:=hu
    rcases List.mem_append.mp hu with h | h
    · have t:=o.tus u (List.mem_filter.mp h).1
      have te:=t.eB
      exact ⟨(t.b.more dn sn).more dsn shn,(t.e.more dn sn).more dsn shn,t.b0,t.be,by rw [eB]; grind,t.s1,t.s2⟩
    · have:u=(s.beg q,s.beg q+(q.2.2.1:Rat) / (q.2.2.2:Rat),q.2.2.2):=by simpa using h
      subst this
      exact ⟨gb.more dsn shn,ge,b0,by show s.beg q<=s.beg q+(q.2.2.1:Rat) / (q.2.2.2:Rat); grind,by show s.beg q+(q.2.2.1:Rat) / (q.2.2.2:Rat)<=_; rw [eB]; grind,s1,by have:=F.M2; show q.2.2.2<=1000000; omega⟩
  · show (usOn s.us (s.rv q) (s.beg q) q.2.2.1 q.2.2.2).length<=100
    unfold usOn
    have:=List.length_filter_le (fun u:Sw.T3=>decide (s.rv q<u.2.1)) s.us
    have:=r.ln
    rw [List.length_append]
    simp only [List.length_cons,List.length_nil]
    omega
  · show q.1<1000000000000000
    omega
  · have he:setE s.en q.2.1 (s.fin q) w=some e:=he
    unfold setE at he
    split at he
    · cases he
      exact ⟨ge,by rw [ef]; grind,by rw [ef,eB]; grind⟩
    · have ev:=r.eok w e he
      have e2:=ev.2.2
      exact ⟨(ev.1.more dn sn).more dsn shn,ev.2.1,by rw [eB]; grind⟩
  · have hu:u∈(s.us.filter fun u=>decide (s.rv q<u.2.1))++[(s.beg q,s.beg q+(q.2.2.1:Rat) / (q.2.2.2:Rat),q.2.2.2)]:=hu
    rcases List.mem_append.mp hu with h | h
    · exact r.sM u (List.mem_filter.mp h).1
    · have:u=(s.beg q,s.beg q+(q.2.2.1:Rat) / (q.2.2.2:Rat),q.2.2.2):=by simpa using h
      subst this
      exact s2
  · show (usOn s.us (s.rv q) (s.beg q) q.2.2.1 q.2.2.2).length<=k+1
    unfold usOn
    have:=List.length_filter_le (fun u:Sw.T3=>decide (s.rv q<u.2.1)) s.us
    have:=r.ln
    rw [List.length_append]
    simp only [List.length_cons,List.length_nil]
    omega
end Sw
namespace L2
open PySem PySem.Spec PyProof.Rows
def Tg2 (H:Hp) (p:Addr) (t:Rat×Rat):Prop:=∃ pb pe,H p=some (.tup [.ref pb,.ref pe])/\H pb=some (.tup (fq t.1))/\H pe=some (.tup (fq t.2))
theorem Tg2.keep {H H':Hp} {p:Addr} {t:Rat×Rat} (h:Tg2 H p t) (e:∀ p xs,H p=some (.tup xs)->H' p=some (.tup xs)):Tg2 H' p t:=by
 obtain ⟨pb,pe,h1,h2,h3⟩:=h
 exact ⟨pb,pe,e _ _ h1,e _ _ h2,e _ _ h3⟩
structure TgL (H:Hp) (l:Addr) (ps:List Addr) (ts:List (Rat×Rat)):Prop where
 hl:H l=some (.lst (ps.map V.ref))
 r:Paired (Tg2 H) ps ts
theorem TgL.same {H H':Hp} {l:Addr} {ps:List Addr} {ts:List (Rat×Rat)} (h:TgL H l ps ts) (s:Same H H'):TgL H' l ps ts:=⟨s _ _ h.hl,Paired.mapP h.r fun _ _ q=>q.keep fun _ _ e=>s _ _ e⟩
theorem zgl {α β:Type} {F:α->β->Prop}:∀ {l₁:List α} {l₂:List β} {i:Nat} {b:β},Paired F l₁ l₂->l₂[i]? = some b->∃ a,l₁[i]? = some a/\F a b
 | _,_,_,_,Paired.nil,e=>by simp at e
 | _,_,0,_,Paired.cons x _,e=>by simp at e; subst e; exact ⟨_,rfl,x⟩
 | _,_,i+1,_,Paired.cons _ y,e=>by
  obtain ⟨b,h1,h2⟩:=zgl (i:=i) y (by simpa using e)
  exact ⟨b,by simpa using h1,h2⟩
theorem TgL.item {H:Hp} {l:Addr} {ps:List Addr} {ts:List (Rat×Rat)} (h:TgL H l ps ts) {i:Nat} {t:Rat×Rat} (e:ts[i]? = some t):∃ p,atI (ps.map V.ref) (i:Int)=some (.ref p)/\Tg2 H p t:=by
 obtain ⟨p,h1,h2⟩:=zgl h.r e
 exact ⟨p,zcc (by rw [List.getElem?_map,h1]; rfl),h2⟩
def PrA (H:Hp) (p:Addr) (x:Nat×Rat):Prop:=∃ pr,H p=some (.tup [.int (x.1:Int),.ref pr])/\H pr=some (.tup (fq x.2))
theorem PrA.keep {H H':Hp} {p:Addr} {x:Nat×Rat} (h:PrA H p x) (e:∀ p xs,H p=some (.tup xs)->H' p=some (.tup xs)):PrA H' p x:=by
 obtain ⟨pr,h1,h2⟩:=h
 exact ⟨pr,e _ _ h1,e _ _ h2⟩
def ScA (H:Hp) (p:Addr) (x:Sw.Sch):Prop:=∃ pf pt pl ps,H p=some (.tup [.ref pf,.ref pt,.ref pl])/\H pf=some (.tup (fq x.1))/\H pt=some (.tup (fq x.2.1))/\H pl=some (.lst (ps.map V.ref))/\Paired (PrA H) ps x.2.2
theorem ScA.keep {H H':Hp} {p l:Addr} {x:Sw.Sch} {xs:List V} (h:ScA H p x) (e:∀ b o,b≠l->H b=some o->H' b=some o) (hl:H l=some (.lst xs)) (nl:∀ pf pt pl,H p=some (.tup [.ref pf,.ref pt,.ref pl])->pl≠l):ScA H' p x:=by
 obtain ⟨pf,pt,pl,ps,h1,h2,h3,h4,h5⟩:=h
 have kt:∀ b zs,H b=some (.tup zs)->H' b=some (.tup zs):=fun b zs q=>e _ _ (ne_of q hl (by intro z; cases z)) q
 exact ⟨pf,pt,pl,ps,kt _ _ h1,kt _ _ h2,kt _ _ h3,e _ _ (nl _ _ _ h1) h4,Paired.mapP h5 fun _ _ q=>q.keep kt⟩
theorem ScA.same {H H':Hp} {p:Addr} {x:Sw.Sch} (h:ScA H p x) (s:Same H H'):ScA H' p x:=by
 obtain ⟨pf,pt,pl,ps,h1,h2,h3,h4,h5⟩:=h
 exact ⟨pf,pt,pl,ps,s _ _ h1,s _ _ h2,s _ _ h3,s _ _ h4,Paired.mapP h5 fun _ _ q=>q.keep fun _ _ e=>s _ _ e⟩
def ScN (H:Hp) (l p:Addr) (x:Sw.Sch):Prop:=ScA H p x/\∀ pf pt pl,H p=some (.tup [.ref pf,.ref pt,.ref pl])->pl≠l
structure ScL (H:Hp) (l:Addr) (ps:List Addr) (xs:List Sw.Sch):Prop where
 hl:H l=some (.lst (ps.map V.ref))
 r:Paired (ScN H l) ps xs
theorem ScL.same {H H':Hp} {l:Addr} {ps:List Addr} {xs:List Sw.Sch} (h:ScL H l ps xs) (s:Same H H'):ScL H' l ps xs:=by
 refine ⟨s _ _ h.hl,Paired.mapP h.r fun p x q=>⟨q.1.same s,fun pf pt pl e=>?_⟩⟩
 obtain ⟨pf',pt',pl',_,h1,_⟩:=q.1
 have e1:=s _ _ h1
 rw [e] at e1
 cases e1
 exact q.2 _ _ _ h1
theorem ScL.app {H:Hp} {l p:Addr} {ps:List Addr} {xs:List Sw.Sch} {x:Sw.Sch} (h:ScL H l ps xs) (hp:ScA H p x) (nl:∀ pf pt pl,H p=some (.tup [.ref pf,.ref pt,.ref pl])->pl≠l):ScL (upd H l (.lst (ps.map V.ref++[.ref p]))) l (ps++[p]) (xs++[x]):=by
 have kp:∀ b o,b≠l->H b=some o->upd H l (.lst (ps.map V.ref++[.ref p])) b=some o:=fun b o n e=>by rw [zai n]; exact e
 have go:∀ a x,ScN H l a x->ScN (upd H l (.lst (ps.map V.ref++[.ref p]))) l a x:=fun a x q=>by
  refine ⟨q.1.keep kp h.hl q.2,fun pf pt pl e=>?_⟩
  obtain ⟨pf',pt',pl',_,h1,_⟩:=q.1
  rw [zai (ne_of h1 h.hl (by intro z; cases z))] at e
  exact q.2 _ _ _ e
 exact ⟨by rw [zab,List.map_append]; rfl,paired_snoc (go _ _ ⟨hp,nl⟩) (Paired.mapP h.r go)⟩
def fsOf (qs:List Q4) (ts:List (Rat×Rat)):List Sw.F4:=List.zipWith (fun q t=>(q.1,t.1,t.2,q.2.2.2)) qs ts
theorem zkk {qs:List Q4} {ts:List (Rat×Rat)} (h:ts.length=qs.length):(fsOf qs ts).length=qs.length:=by unfold fsOf; rw [List.length_zipWith]; omega
theorem zno {qs:List Q4} {ts:List (Rat×Rat)} {i:Nat} {q:Q4} {t:Rat×Rat} (h1:qs[i]? = some q) (h2:ts[i]? = some t):(fsOf qs ts)[i]? = some (q.1,t.1,t.2,q.2.2.2):=by unfold fsOf; rw [List.getElem?_zipWith,h1,h2]
def hdI (fs:List Sw.F4) (mo ma:Rat) (i:Nat):Bool:=match fs[i]? with | some f=>Sw.hdB mo ma f | none=>false
theorem zxf (fs:List Sw.F4) (mo ma:Rat):Sw.hdP fs mo ma=(List.range fs.length).filter (hdI fs mo ma):=rfl
theorem zlj (p:Nat->Bool) (i:Nat):(List.range (i+1)).filter p=(List.range i).filter p++(if p i=true then [i] else []):=by
 rw [List.range_succ,List.filter_append,List.filter_cons]
 rfl
theorem zlk {n:Int} (h0:0<=n) (h1:n<100000000000000):Sw.SzQ 200 (n:Rat):=(Sw.SzQ.int (Sw.Sz.r18 (by omega) (by omega))).mono (by decide)
def natI (i:Nat):V:=.int (i:Int)
end L2
namespace Sw
open L2
structure FOk (n:Nat) (M:Int) (a c:Nat) (fs:List F4) (D:Int):Prop where
 F:Fit n M a c
 ln:fs.length<=n
 d0:0<D
 dz:Sz (c*n+1) D
 pc:∀ f∈fs,0<=f.1/\f.1<100000000000000
 tg:∀ f∈fs,Grd D f.2.1/\Grd D f.2.2.1/\0<=f.2.1/\f.2.1<f.2.2.1/\f.2.2.1<=((n*1000000:Int):Rat)
 sh:∀ f∈fs,1<=f.2.2.2/\f.2.2.2<=M
def cm (fs:List F4) (mo:Rat):Nat:=(fs.filter fun f=>decide (mo<(f.1:Rat))).length
theorem cm_le (fs:List F4) (mo:Rat):cm fs mo<=fs.length:=List.length_filter_le _ _
theorem zup {fs:List F4} {mo mo':Rat} (h:mo<=mo'):cm fs mo'<=cm fs mo:=by
 unfold cm
 induction fs with
 | nil=>exact Nat.le_refl _
 | cons z r ih =>
  rw [List.filter_cons,List.filter_cons]
  by_cases e1:mo' < (z.1:Rat)
  ·have e2:mo<(z.1:Rat):=by grind
   simp only [decide_eq_true e1,decide_eq_true e2,if_true,List.length_cons]
   omega
  ·by_cases e2:mo<(z.1:Rat)
   ·simp only [decide_eq_false e1,decide_eq_true e2,if_true,List.length_cons]
    simp
    omega
   ·simp only [decide_eq_false e1,decide_eq_false e2]
    simpa using ih
theorem cm_lt {fs:List F4} {mo mo':Rat} (h:mo<mo') (hc:∃ f∈fs,mo<(f.1:Rat)/\mo'=(f.1:Rat)):cm fs mo' < cm fs mo:=by
 obtain ⟨f,hf,h1,h2⟩:=hc
 refine zcn (fun x _ hx=>?_) ⟨f,hf,decide_eq_true h1,by rw [h2]; simp only [decide_eq_false_iff_not]; grind⟩
 simp only [decide_eq_true_eq] at hx ⊢
 grind
structure FSt (n:Nat) (M:Int) (a c:Nat) (fs:List F4) (D:Int) (mo ma:Rat) (G:Int):Prop where
 g0:0<G
 gd:∃ j:Int,j≠0/\G=D*j
 gz:Sz (c*n+1+a*(n-cm fs mo)) G
 gm:Grd G mo
 gk:Grd G ma
 m0:0<=mo
 k0:0<=ma
 kB:ma<=((n*1000000:Int):Rat)
 mB:mo<=((100000000000000+(2*n-mu fs mo ma:Nat)*3600000000000000:Int):Rat)
section
variable {n:Nat} {M:Int} {a c:Nat} {fs:List F4} {D:Int} {mo ma:Rat} {G:Int}
theorem FSt.z60 (o:FOk n M a c fs D) (s:FSt n M a c fs D mo ma G):Sz 2001 G:=by
 refine s.gz.mono ?_
 have h1:=o.F.al2
 have h2:a*(n-cm fs mo)<=a*n:=Nat.mul_le_mul_left a (Nat.sub_le _ _)
 omega
theorem FSt.up (s:FSt n M a c fs D mo ma G) (d:0<D) {q:Rat} (h:Grd D q):Grd G q:=by
 obtain ⟨j,j0,e⟩:=s.gd
 rw [e]
 exact h.more (by omega) j0
theorem zgm {G:Int} {q:Rat} (g0:0<G) (gz:Sz 2060 G) (h:Grd G q) (h1:((-10000000000000000000:Int):Rat)<=q) (h2:q<=((10000000000000000000:Int):Rat)):SzQ 2130 q:=by
 refine h.sz (M:=10000000000000000000) (a:=2060) (b:=70) g0 gz (Sz.r18 (by decide) (by decide)) ?_ h2 (by decide)
 have:((-10000000000000000000:Int):Rat) = -((10000000000000000000:Int):Rat):=Rat.intCast_neg _
 rw [<- this]; exact h1
theorem FSt.moB (o:FOk n M a c fs D) (s:FSt n M a c fs D mo ma G):mo<=((1000000000000000000:Int):Rat):=by
 have h:=s.mB
 have l:=o.F.n1
 have:((100000000000000+(2*n-mu fs mo ma:Nat)*3600000000000000:Int):Rat)<=((1000000000000000000:Int):Rat):=by
  rw [Rat.intCast_le_intCast]
  have:(2*n-mu fs mo ma:Nat)<=120:=by omega
  omega
 grind
theorem FSt.kaB (o:FOk n M a c fs D) (s:FSt n M a c fs D mo ma G):ma<=((60000000:Int):Rat):=by
 have h:=s.kB
 have l:=o.F.n1
 have:((n*1000000:Int):Rat)<=((60000000:Int):Rat):=by
  rw [Rat.intCast_le_intCast]
  omega
 grind
theorem FOk.enB (o:FOk n M a c fs D) {f:F4} (h:f∈fs):f.2.2.1<=((60000000:Int):Rat):=by
 have h:=(o.tg f h).2.2.2.2
 have l:=o.F.n1
 have:((n*1000000:Int):Rat)<=((60000000:Int):Rat):=by
  rw [Rat.intCast_le_intCast]
  omega
 grind
theorem FOk.s1 (o:FOk n M a c fs D):∀ f∈fs,1<=f.2.2.2:=fun f h=>(o.sh f h).1
theorem FOk.shB (o:FOk n M a c fs D) (h:hdP fs mo ma≠[]):1<=shP fs (hdP fs mo ma)/\shP fs (hdP fs mo ma)<=n*M/\shP fs (hdP fs mo ma)<=60000000/\Sz a (shP fs (hdP fs mo ma)):=by
 have h1:=zqg o.s1 h
 have M1:=o.F.M1
 have h2:=zxc (fs:=fs) (mo:=mo) (ma:=ma) (M:=M) (by omega) fun f hf=>(o.sh f hf).2
 have ln:=o.ln
 have h3:(fs.length:Int)*M<=n*M:=Int.mul_le_mul_of_nonneg_right (by omega) (by omega)
 have n1:=o.F.n1
 have M2:=o.F.M2
 have h4:(n:Int)*M<=60*1000000:=Int.mul_le_mul (by omega) M2 (by omega) (by omega)
 exact ⟨h1,by omega,by omega,sz_of (by omega) (by have:=o.F.sA; omega)⟩
theorem FSt.rest (o:FOk n M a c fs D) (s:FSt n M a c fs D mo ma G) {af:Rat} (t:Turn1 fs mo ma af ma) (hc:∃ f∈fs,mo<(f.1:Rat)/\af=(f.1:Rat)):FSt n M a c fs D af ma G:=by
 have lt:=cm_lt t.gt hc
 have gt:=t.gt
 have m0:=s.m0
 obtain ⟨f,hf,h1,h2⟩:=hc
 obtain ⟨p0,p1⟩:=o.pc f hf
 refine ⟨s.g0,s.gd,s.gz.mono ?_,by rw [h2]; exact Grd.int (by have:=s.g0; omega) _,s.gk,by grind,s.k0,s.kB,?_⟩
 ·have:a*(n-cm fs mo)<=a*(n-cm fs af):=Nat.mul_le_mul_left a (by omega)
  omega
 ·rw [h2,Rat.intCast_le_intCast]
  omega
theorem FSt.go2 (o:FOk n M a c fs D) (s:FSt n M a c fs D mo ma G) (h:hdP fs mo ma≠[]):∃ G' j:Int,j≠0/\G'=G*j/\FSt n M a c fs D (minL (chA fs mo ma)) (ma+(minL (chA fs mo ma)-mo) / (shP fs (hdP fs mo ma):Rat)) G':=by
 have t:=turn_go o.s1 h
 obtain ⟨S1,S2,S3,S4⟩:=o.shB h
 obtain ⟨fl,hfl,hbl,el⟩:=zkj h
 have eB:=o.enB hfl
 rw [<- el] at eB
 have lg:Grd G (lstE fs mo ma):=by rw [el]; exact s.up o.d0 (o.tg fl hfl).2.1
 have lk:lstE fs mo ma<=((n*1000000:Int):Rat):=by rw [el]; exact (o.tg fl hfl).2.2.2.2
 have le:=t.le h
 have gt:=t.gt
 have ge:=t.ge
 have mu':=turn_mu t
 have m0:=s.m0
 have k0:=s.k0
 have mB:=s.mB
 have g0:=s.g0
 have gn:G≠0:=by omega
 have Sn:shP fs (hdP fs mo ma)≠0:=by omega
 have e1:fst1 fs mo ma=mo+(lstE fs mo ma-ma)*(shP fs (hdP fs mo ma):Rat):=rfl
 have mul:=mu_le fs mo ma
 have ln:=o.ln
 generalize shP fs (hdP fs mo ma)=S at S1 S2 S3 S4 Sn e1 t le ge mu' ⊢
 generalize minL (chA fs mo ma)=af at t le gt ge mu' ⊢
 rcases t.way with hc | ⟨_,e2,e3,_⟩
 ·have lt:=cm_lt gt hc
  obtain ⟨f,hf,h1,h2⟩:=hc
  obtain ⟨p0,p1⟩:=o.pc f hf
  refine ⟨G*S,S,Sn,rfl,Int.mul_pos g0 (by omega),?_,(s.gz.mul S4).mono ?_,by rw [h2]; exact Grd.int (Int.mul_ne_zero gn Sn) _,?_,by grind,by grind,by grind,?_⟩
  ·obtain ⟨j,j0,e⟩:=s.gd
   exact ⟨j*S,Int.mul_ne_zero j0 Sn,by rw [e,Int.mul_assoc]⟩
  ·have c1:=cm_le fs mo
   have:a*(n-cm fs mo)+a<=a*(n-cm fs af):=by
    have:a*(n-cm fs mo+1)<=a*(n-cm fs af):=Nat.mul_le_mul_left a (by omega)
    rw [Nat.mul_add,Nat.mul_one] at this
    exact this
   omega
  ·refine (s.gk.more gn Sn).add (Grd.divi gn ?_ Sn)
   rw [h2]
   exact (Grd.int gn _).sub s.gm
  ·rw [h2,Rat.intCast_le_intCast]
   omega
 ·have mu2:mu fs af (lstE fs mo ma)<mu fs mo ma:=by rw [<- e3]; exact mu'
  rw [e3]
  have gaf:Grd G af:=by rw [e2,e1]; exact s.gm.add ((lg.sub s.gk).muli S)
  refine ⟨G,1,by decide,by omega,g0,s.gd,s.gz.mono ?_,gaf,lg,by grind,by grind,lk,?_⟩
  ·have c1:=zup (fs:=fs) (mo:=mo) (mo':=af) (by grind)
   have:a*(n-cm fs mo)<=a*(n-cm fs af):=Nat.mul_le_mul_left a (by omega)
   omega
  ·have x:(lstE fs mo ma-ma)*(S:Rat)<=((3600000000000000:Int):Rat):=by
    have a1:lstE fs mo ma-ma<=((60000000:Int):Rat):=by grind
    have a2:(S:Rat)<=((60000000:Int):Rat):=Rat.intCast_le_intCast.mpr S3
    have a3:(0:Rat)<=(S:Rat):=by
     have:=zbd (show 0<S by omega)
     grind
    have b1:=Rat.mul_le_mul_of_nonneg_right a1 a3
    have b2:((60000000:Int):Rat)*(S:Rat)<=((60000000:Int):Rat)*((60000000:Int):Rat):=Rat.mul_le_mul_of_nonneg_left a2 (by decide)
    have b3:((60000000:Int):Rat)*((60000000:Int):Rat)=((3600000000000000:Int):Rat):=by decide +kernel
    grind
   have y:((100000000000000+(2*n-mu fs mo ma:Nat)*3600000000000000:Int):Rat)+((3600000000000000:Int):Rat)<=((100000000000000+(2*n-mu fs af (lstE fs mo ma):Nat)*3600000000000000:Int):Rat):=by
    rw [<- Rat.intCast_add,Rat.intCast_le_intCast]
    generalize mu fs af (lstE fs mo ma)=u at mu2 ⊢
    generalize mu fs mo ma=v at mu2 mul ⊢
    omega
   rw [e2,e1] at *
   grind
theorem FSt.go (o:FOk n M a c fs D) (s:FSt n M a c fs D mo ma G) (h:hdP fs mo ma≠[]):∃ G',FSt n M a c fs D (minL (chA fs mo ma)) (ma+(minL (chA fs mo ma)-mo) / (shP fs (hdP fs mo ma):Rat)) G':=let ⟨G',_,_,_,s'⟩:=s.go2 o h; ⟨G',s'⟩
end
theorem zqi {n:Nat} {M:Int} {a c:Nat} (F:Fit n M a c):∀ {l:List Q4} {s:Ti} {k:Nat} {D:Int},RunOk n M c s k D->k+l.length<=n->(∀ q∈l,PcOk M q)->(∀ q∈l,s.lat<=q.1)->l.Pairwise (fun a b=>a.1<=b.1) ->
    ∃ D' j:Int,j≠0/\D'=D*j/\0<D'/\Sz (c*(k+l.length)+1) D'/\∀ t∈s.tags l,Grd D' t.1/\Grd D' t.2/\0<=t.1/\t.1<t.2/\t.2<=(((k+l.length:Nat)*1000000:Int):Rat)
  | [],s,k,D,r,_,_,_,_=>⟨D,1,by decide,by omega,r.ok.gb.D0,r.dz,fun t h=>absurd h List.not_mem_nil⟩
  | q :: l,s,k,D,r,hk,hq,hl,hp=>by
    rw [List.length_cons] at hk
    obtain ⟨D1,j1,j10,e1,r1,g1,g2,b0,be,eB⟩:=r.come F (by omega) (hq q (by simp)) (hl q (by simp))
    obtain ⟨h1,h2⟩:=List.pairwise_cons.mp hp
    obtain ⟨D2,j2,j20,e2,d0,dz,ht⟩:=zqi F (l:=l) (s:=s.come q) (k:=k+1) r1 (by omega) (fun x hx=>hq x (List.mem_cons_of_mem _ hx)) (fun x hx=>h1 x hx) h2
    have d1:=r1.ok.gb.D0
    have ek:k+1+l.length=k+(l.length+1):=by omega
    rw [ek] at dz ht
    refine ⟨D2,j1*j2,Int.mul_ne_zero j10 j20,by rw [e2,e1,Int.mul_assoc],d0,dz,fun t h=>?_⟩
    rcases List.mem_cons.mp h with e | e
    · subst e
      refine ⟨by rw [e2]; exact g1.more (by omega) j20,by rw [e2]; exact g2.more (by omega) j20,b0,be,?_⟩
      have:(((k+1:Nat)*1000000:Int):Rat)<=(((k+(l.length+1):Nat)*1000000:Int):Rat):=by
        rw [Rat.intCast_le_intCast]
        omega
      exact Rat.le_trans eB this
    · exact ht t e
theorem fs_ok {n:Nat} {M:Int} {a c:Nat} (F:Fit n M a c) {qs:List Q4} (hn:qs.length<=n) (hq:∀ q∈qs,PcOk M q) (hp:qs.Pairwise (fun a b=>a.1<=b.1)):∃ D,FOk n M a c (fsOf qs (Ti.nil.tags qs)) D:=by
 obtain ⟨D,j,j0,e,d0,dz,ht⟩:=zqi F (l:=qs) (s:=Ti.nil) (k:=0) RunOk.nil (by omega) hq (fun q h=>(hq q h).1) hp
 have mem:∀ f∈fsOf qs (Ti.nil.tags qs),∃ q∈qs,∃ t∈Ti.nil.tags qs,f=(q.1,t.1,t.2,q.2.2.2):=fun f hf=>by
  obtain ⟨i,hi⟩:=List.getElem?_of_mem hf
  unfold fsOf at hi
  rw [List.getElem?_zipWith] at hi
  cases e1:qs[i]? with
  | none=>rw [e1] at hi; simp at hi
  | some q =>
   cases e2:(Ti.nil.tags qs)[i]? with
   | none=>rw [e1,e2] at hi; simp at hi
   | some t =>
    rw [e1,e2] at hi
    exact ⟨q,List.mem_of_getElem? e1,t,List.mem_of_getElem? e2,(Option.some.inj hi).symm⟩
 have kn:(((0+qs.length:Nat)*1000000:Int):Rat)<=((n*1000000:Int):Rat):=by
  rw [Rat.intCast_le_intCast]
  omega
 refine ⟨D,F,by rw [zkk Ti.tags_len]; exact hn,d0,dz.mono ?_,fun f hf=>?_,fun f hf=>?_,fun f hf=>?_⟩
 ·have:c*(0+qs.length)<=c*n:=Nat.mul_le_mul_left c (by omega)
  omega
 ·obtain ⟨q,h1,t,h2,rfl⟩:=mem f hf
  exact ⟨(hq q h1).1,(hq q h1).2.1⟩
 ·obtain ⟨q,h1,t,h2,rfl⟩:=mem f hf
  obtain ⟨a1,a2,a3,a4,a5⟩:=ht t h2
  exact ⟨a1,a2,a3,a4,Rat.le_trans a5 kn⟩
 ·obtain ⟨q,h1,t,h2,rfl⟩:=mem f hf
  exact ⟨(hq q h1).2.2.2.2.1,(hq q h1).2.2.2.2.2⟩
theorem chs_of:∀ {qs:List Q4} {ts:List (Rat×Rat)} {mo:Rat},ts.length=qs.length->chs (fsOf qs ts) mo=qs.filterMap fun q=>if mo<(q.1:Rat) then some (q.1:Rat) else none
 | [],[],_,_=>rfl
 | [],t :: _,_,h=>by simp at h
 | q :: _,[],_,h=>by simp at h
 | q :: qr,t :: tr,mo,h=>by
  have ih:=chs_of (qs:=qr) (ts:=tr) (mo:=mo) (by simpa using h)
  unfold chs fsOf at ih ⊢
  rw [List.zipWith_cons_cons,List.filterMap_cons,List.filterMap_cons,ih]
theorem mu0 {fs:List F4} {n:Nat} (h:fs.length<=n) (mo ma:Rat):mu fs mo ma<=2*n:=by
 have:=mu_le fs mo ma
 omega
theorem FSt.start {n:Nat} {M:Int} {a c:Nat} {fs:List F4} {D:Int} (o:FOk n M a c fs D):FSt n M a c fs D 0 0 D:=by
 refine ⟨o.d0,⟨1,by decide,by omega⟩,o.dz.mono (by omega),⟨0,?_⟩,⟨0,?_⟩,Rat.le_refl,Rat.le_refl,?_,?_⟩
 ·rw [show ((0:Int):Rat) = 0 from rfl]; grind
 ·rw [show ((0:Int):Rat) = 0 from rfl]; grind
 ·have:((0:Int):Rat)<=((n*1000000:Int):Rat):=by rw [Rat.intCast_le_intCast]; omega
  exact this
 ·have:((0:Int):Rat)<=((100000000000000+(2*n-mu fs 0 0:Nat)*3600000000000000:Int):Rat):=by rw [Rat.intCast_le_intCast]; omega
  exact this
theorem FOk.szt {n:Nat} {M:Int} {a c:Nat} {fs:List F4} {D:Int} (o:FOk n M a c fs D) {f:F4} (h:f∈fs):SzQ 2130 f.2.1/\SzQ 2130 f.2.2.1:=by
 obtain ⟨g1,g2,b0,be,_⟩:=o.tg f h
 have eB:=o.enB h
 have z:Sz 2060 D:=o.dz.mono (by have:=o.F.all; omega)
 have l1:((60000000:Int):Rat)<=((10000000000000000000:Int):Rat):=by decide
 have l2:((-10000000000000000000:Int):Rat)<=0:=by decide
 exact ⟨zgm o.d0 z g1 (by grind) (by grind),zgm o.d0 z g2 (by grind) (by grind)⟩
section
variable {n:Nat} {M:Int} {a c:Nat} {fs:List F4} {D:Int} {mo ma:Rat} {G:Int}
theorem FSt.zmo (o:FOk n M a c fs D) (s:FSt n M a c fs D mo ma G):SzQ 2130 mo:=by
 have h:=s.moB o
 have h0:=s.m0
 have l1:((1000000000000000000:Int):Rat)<=((10000000000000000000:Int):Rat):=by decide
 have l2:((-10000000000000000000:Int):Rat)<=0:=by decide
 exact zgm s.g0 ((s.z60 o).mono (by decide)) s.gm (by grind) (by grind)
theorem FSt.zma (o:FOk n M a c fs D) (s:FSt n M a c fs D mo ma G):SzQ 2130 ma:=by
 have h:=s.kaB o
 have h0:=s.k0
 have l1:((60000000:Int):Rat)<=((10000000000000000000:Int):Rat):=by decide
 have l2:((-10000000000000000000:Int):Rat)<=0:=by decide
 exact zgm s.g0 ((s.z60 o).mono (by decide)) s.gk (by grind) (by grind)
theorem FSt.way (o:FOk n M a c fs D) (s:FSt n M a c fs D mo ma G) (h:hdP fs mo ma≠[]):Grd G ((lstE fs mo ma-ma)*(shP fs (hdP fs mo ma):Rat))/\0<=(lstE fs mo ma-ma)*(shP fs (hdP fs mo ma):Rat)/\(lstE fs mo ma-ma)*(shP fs (hdP fs mo ma):Rat)<=((3600000000000000:Int):Rat)/\SzQ 2130 (lstE fs mo ma-ma):=by
 obtain ⟨S1,S2,S3,S4⟩:=o.shB h
 obtain ⟨fl,hfl,hbl,el⟩:=zkj h
 obtain ⟨_,_,hm⟩:=hdB_iff.mp hbl
 rw [<- el] at hm
 have eB:=o.enB hfl
 rw [<- el] at eB
 have lg:Grd G (lstE fs mo ma):=by rw [el]; exact s.up o.d0 (o.tg fl hfl).2.1
 have k0:=s.k0
 have l1:((60000000:Int):Rat)<=((10000000000000000000:Int):Rat):=by decide
 have l2:((-10000000000000000000:Int):Rat)<=0:=by decide
 generalize shP fs (hdP fs mo ma)=S at S1 S2 S3 S4 ⊢
 have a1:lstE fs mo ma-ma<=((60000000:Int):Rat):=by grind
 have a2:(S:Rat)<=((60000000:Int):Rat):=Rat.intCast_le_intCast.mpr S3
 have a3:(0:Rat)<=(S:Rat):=by
  have:=zbd (show 0<S by omega)
  grind
 have b1:=Rat.mul_le_mul_of_nonneg_right a1 a3
 have b2:((60000000:Int):Rat)*(S:Rat)<=((60000000:Int):Rat)*((60000000:Int):Rat):=Rat.mul_le_mul_of_nonneg_left a2 (by decide)
 have b3:((60000000:Int):Rat)*((60000000:Int):Rat)=((3600000000000000:Int):Rat):=by decide +kernel
 exact ⟨(lg.sub s.gk).muli S,Rat.mul_nonneg (by grind) a3,by grind,zgm s.g0 ((s.z60 o).mono (by decide)) (lg.sub s.gk) (by grind) (by grind)⟩
theorem FSt.zway (o:FOk n M a c fs D) (s:FSt n M a c fs D mo ma G) (h:hdP fs mo ma≠[]):SzQ 2130 ((lstE fs mo ma-ma)*(shP fs (hdP fs mo ma):Rat)):=by
 obtain ⟨g,g0,g1,_⟩:=s.way o h
 have l1:((3600000000000000:Int):Rat)<=((10000000000000000000:Int):Rat):=by decide
 have l2:((-10000000000000000000:Int):Rat)<=0:=by decide
 exact zgm s.g0 ((s.z60 o).mono (by decide)) g (by grind) (by grind)
theorem FSt.chA (o:FOk n M a c fs D) (s:FSt n M a c fs D mo ma G):∀ x∈chA fs mo ma,Grd G x/\mo<=x/\x<=((2000000000000000000:Int):Rat):=fun x hx=>by
 have h:=s.moB o
 have l1:((1000000000000000000:Int):Rat)+((3600000000000000:Int):Rat)<=((2000000000000000000:Int):Rat):=by decide +kernel
 unfold Sw.chA at hx
 rcases List.mem_append.mp hx with z | z
 ·obtain ⟨f,hf,h1,h2⟩:=chs_mem.mp z
  obtain ⟨p0,p1⟩:=o.pc f hf
  rw [h2]
  exact ⟨Grd.int (by have:=s.g0; omega) _,by grind,Rat.intCast_le_intCast.mpr (by omega)⟩
 ·by_cases hn:hdP fs mo ma = []
  ·rw [if_pos hn] at z; cases z
  ·rw [if_neg hn] at z
   have e:x=fst1 fs mo ma:=by simpa using z
   obtain ⟨g,g0,g1,_⟩:=s.way o hn
   have e1:fst1 fs mo ma=mo+(lstE fs mo ma-ma)*(shP fs (hdP fs mo ma):Rat):=rfl
   rw [e,e1]
   exact ⟨s.gm.add g,by grind,by grind⟩
theorem FSt.zch (o:FOk n M a c fs D) (s:FSt n M a c fs D mo ma G) {x:Rat} (hx:x∈Sw.chA fs mo ma):SzQ 2130 x/\SzQ 2130 (x-mo):=by
 obtain ⟨g,h1,h2⟩:=s.chA o x hx
 have m0:=s.m0
 have l1:((2000000000000000000:Int):Rat)<=((10000000000000000000:Int):Rat):=by decide
 have l2:((-10000000000000000000:Int):Rat)<=0:=by decide
 exact ⟨zgm s.g0 ((s.z60 o).mono (by decide)) g (by grind) (by grind),zgm s.g0 ((s.z60 o).mono (by decide)) (g.sub s.gm) (by grind) (by grind)⟩
theorem FSt.zov (o:FOk n M a c fs D) (s:FSt n M a c fs D mo ma G) (h:hdP fs mo ma≠[]) {x:Rat} (hx:x∈Sw.chA fs mo ma):SzQ 2130 ((x-mo) / (shP fs (hdP fs mo ma):Rat)):=by
  obtain ⟨g,h1,h2⟩:=s.chA o x hx
  obtain ⟨S1,S2,S3,S4⟩:=o.shB h
  have g0:=s.g0
  have m0:=s.m0
  have a24:a<=30\/30<a:=by omega
  have l1:((2000000000000000000:Int):Rat)<=((10000000000000000000:Int):Rat):=by decide
  have l2:((-10000000000000000000:Int):Rat)<=0:=by decide
  generalize shP fs (hdP fs mo ma)=S at S1 S2 S3 S4 ⊢
  have S0:(0:Rat)<(S:Rat):=zbd (by omega)
  have S1':(1:Rat)<=(S:Rat):=by
    have:((1:Int):Rat)<=(S:Rat):=Rat.intCast_le_intCast.mpr S1
    exact this
  have z30 : Sz 30 S := sz_of (by omega) (by have : (2 : Int) ^ 30 = 1073741824 := by decide
                                             omega)
  have q0:0<=(x-mo) / (S:Rat):=by
    have:¬ (x-mo) / (S:Rat)<0:=by rw [Rat.div_lt_iff S0,Rat.zero_mul]; grind
    grind
  have q1:(x-mo) / (S:Rat)<=x-mo:=by
    have:¬ x-mo<(x-mo) / (S:Rat):=by
      rw [Rat.lt_div_iff S0]
      have:=Rat.mul_le_mul_of_nonneg_left S1' (show 0<=x-mo by grind)
      grind
    grind
  exact zgm (Int.mul_pos g0 (by omega)) (((s.z60 o).mul z30).mono (by decide)) ((g.sub s.gm).divi (by omega) (by omega)) (by grind) (by grind)
end
end Sw
namespace Sw
open L2
def putP (en:Int->Option Rat) (e:Rat) (ps:List (Nat×Rat)):Int->Option Rat:=ps.foldl (fun m p=>setE m (p.1:Int) e) en
def endsF (xs:List Sch):Int->Option Rat:=xs.foldl (fun m x=>putP m x.2.1 x.2.2) fun _=>none
theorem putP_snoc (en:Int->Option Rat) (e:Rat) (ps:List (Nat×Rat)) (p:Nat×Rat):putP en e (ps++[p])=setE (putP en e ps) (p.1:Int) e:=by unfold putP; rw [List.foldl_append]; rfl
theorem endsF_snoc (xs:List Sch) (x:Sch):endsF (xs++[x])=putP (endsF xs) x.2.1 x.2.2:=by unfold endsF; rw [List.foldl_append]; rfl
def spansF (en:Int->Option Rat):Nat->(Int->Option Rat)->List Q4->List (Rat×Rat)
 | _,_,[]=>[]
 | i,ah,q :: r=>(max (q.1:Rat) ((ah q.2.1).getD 0),(en (i:Int)).getD (max (q.1:Rat) ((ah q.2.1).getD 0))) :: spansF en (i+1) (setE ah q.2.1 ((en (i:Int)).getD (max (q.1:Rat) ((ah q.2.1).getD 0)))) r
def aheadF (en:Int->Option Rat):Nat->(Int->Option Rat)->List Q4->(Int->Option Rat)
 | _,ah,[]=>ah
 | i,ah,q :: r=>aheadF en (i+1) (setE ah q.2.1 ((en (i:Int)).getD (max (q.1:Rat) ((ah q.2.1).getD 0)))) r
def begF (ah:Int->Option Rat) (q:Q4):Rat:=max (q.1:Rat) ((ah q.2.1).getD 0)
theorem spansF_snoc:∀ {en:Int->Option Rat} {i:Nat} {ah:Int->Option Rat} {l:List Q4} {q:Q4},spansF en i ah (l++[q])=spansF en i ah l++[(begF (aheadF en i ah l) q,(en ((i+l.length:Nat):Int)).getD (begF (aheadF en i ah l) q))]
 | _,_,_,[],_=>rfl
 | en,i,ah,x :: r,q=>by
  show _ :: spansF en (i+1) _ (r++[q]) = _ :: (spansF en (i+1) _ r++_)
  rw [spansF_snoc,show i+1+r.length=i+(x :: r).length by simp only [List.length_cons]; omega]
  rfl
theorem aheadF_snoc:∀ {en:Int->Option Rat} {i:Nat} {ah:Int->Option Rat} {l:List Q4} {q:Q4},aheadF en i ah (l++[q])=setE (aheadF en i ah l) q.2.1 ((en ((i+l.length:Nat):Int)).getD (begF (aheadF en i ah l) q))
 | _,_,_,[],_=>rfl
 | en,i,ah,x :: r,q=>by
  show aheadF en (i+1) _ (r++[q]) = _
  rw [aheadF_snoc,show i+1+r.length=i+(x :: r).length by simp only [List.length_cons]; omega]
  rfl
theorem flowF_len {fs:List F4}:∀ {n:Nat} {mo ma:Rat},(flowF fs n mo ma).length<=n
 | 0,_,_=>Nat.le_refl _
 | n+1,mo,ma=>by
  rw [flowF_succ]
  split
  ·exact Nat.zero_le _
  ·split
   ·have:=flowF_len (fs:=fs) (n:=n) (mo:=minL (chA fs mo ma)) (ma:=ma)
    omega
   ·rw [List.length_cons]
    have:=flowF_len (fs:=fs) (n:=n) (mo:=minL (chA fs mo ma)) (ma:=ma+(minL (chA fs mo ma)-mo) / (shP fs (hdP fs mo ma):Rat))
    omega
theorem flow_sz {n:Nat} {M:Int} {a c:Nat} {fs:List F4} {D:Int} (o:FOk n M a c fs D):∀ {k:Nat} {mo ma:Rat} {G:Int},FSt n M a c fs D mo ma G->∀ x∈flowF fs k mo ma,SzQ 2130 x.2.1/\x.2.2.length<=60
 | 0,_,_,_,_,x,hx=>by cases hx
 | k+1,mo,ma,G,s,x,hx=>by
  rw [flowF_succ] at hx
  by_cases ce:chA fs mo ma = []
  ·rw [if_pos ce] at hx; cases hx
  ·rw [if_neg ce] at hx
   by_cases he:hdP fs mo ma = []
   ·rw [if_pos he] at hx
    have t1:=turn_rest he ce
    refine flow_sz o (s.rest o t1 ?_) x hx
    rcases t1.way with z | z
    ·exact z
    ·exact absurd he z.1
   ·rw [if_neg he] at hx
    obtain ⟨G',s'⟩:=s.go o he
    rcases List.mem_cons.mp hx with e | e
    ·subst e
     refine ⟨(s.zch o (minL_mem ce)).1,?_⟩
     show (prt fs mo ma).length<=60
     unfold prt
     rw [List.length_map]
     have:=hdP_len fs mo ma
     have:=o.ln
     have:=o.F.n1
     omega
    ·exact flow_sz o s' x e
theorem znp {e v:Rat} {w:Int}:∀ {ps:List (Nat×Rat)} {m:Int->Option Rat},putP m e ps w=some v->v=e\/m w=some v
 | [],m,h=>.inr h
 | p :: r,m,h=>by
  rcases znp (ps:=r) (m:=setE m (p.1:Int) e) h with z | z
  ·exact .inl z
  ·unfold setE at z
   split at z
   ·exact .inl (Option.some.inj z).symm
   ·exact .inr z
theorem endsF_mem {v:Rat} {w:Int} {xs:List Sch} (h:endsF xs w=some v):∃ x∈xs,v=x.2.1:=by
 have go:∀ {xs:List Sch} {m:Int->Option Rat},xs.foldl (fun m x=>putP m x.2.1 x.2.2) m w=some v->(∃ x∈xs,v=x.2.1)\/m w=some v:=fun {xs}=>by
  induction xs with
  | nil=>intro m h; exact .inr h
  | cons x r ih =>
   intro m h
   rcases ih h with ⟨y,hy,e⟩ | z
   ·exact .inl ⟨y,List.mem_cons_of_mem _ hy,e⟩
   ·rcases znp z with e | e
    ·exact .inl ⟨x,by simp,e⟩
    ·exact .inr e
 rcases go h with z | z
 ·exact z
 ·cases z
end Sw
namespace Sw
open L2
structure Scl where
 L:Int
 W:Int
 la:Int
 L0:0<L
 W0:0<W
 a0:0<=la
namespace Scl
variable (z:Scl)
def ro:Rat:=(z.L:Rat) / (z.W:Rat)
def q4 (q:Q4):Q4:=(q.1*z.L+z.la,q.2.1,q.2.2.1*z.L,q.2.2.2*z.W)
def t3 (u:T3):T3:=(u.1*z.ro,u.2.1*z.ro,u.2.2*z.W)
variable {z}
variable (z)
end Scl
theorem zll {en:Int->Option Rat} (ez:∀ w e,en w=some e->SzQ 2400 e):∀ {l:List Q4} {i:Nat} {ah:Int->Option Rat},(∀ w e,ah w=some e->SzQ 2400 e)->(∀ q∈l,0<=q.1/\q.1<100000000000000)->∀ t∈spansF en i ah l,SzQ 2400 t.1/\SzQ 2400 t.2
 | [],_,_,_,_,t,h=>by cases h
 | q :: r,i,ah,az,hq,t,h=>by
  obtain ⟨q0,q1⟩:=hq q (by simp)
  have zb:SzQ 2400 (max (q.1:Rat) ((ah q.2.1).getD 0)):=by
   have zq:SzQ 2400 (q.1:Rat):=(zlk q0 q1).mono (by decide)
   have za:SzQ 2400 ((ah q.2.1).getD 0):=by
    cases e:ah q.2.1 with
    | none=>exact (SzQ.int (n:=0) (Sz.zero 200)).mono (by decide)
    | some v=>exact az _ _ e
   rw [Rat.max_def]
   split
   ·exact za
   ·exact zq
  have ze:SzQ 2400 ((en (i:Int)).getD (max (q.1:Rat) ((ah q.2.1).getD 0))):=by
   cases e:en (i:Int) with
   | none=>exact zb
   | some v=>exact ez _ _ e
  rcases List.mem_cons.mp h with e | e
  ·subst e
   exact ⟨zb,ze⟩
  ·refine zll ez (l:=r) (i:=i+1) (ah:=setE ah q.2.1 ((en (i:Int)).getD (max (q.1:Rat) ((ah q.2.1).getD 0)))) (fun w v hv=>?_) (fun x hx=>hq x (List.mem_cons_of_mem _ hx)) t e
   unfold setE at hv
   split at hv
   ·cases hv; exact ze
   ·exact az _ _ hv
theorem zji {en:Int->Option Rat}:∀ {l:List Q4} {i:Nat} {ah:Int->Option Rat},(spansF en i ah l).length=l.length
 | [],_,_=>rfl
 | q :: r,i,ah=>by
  show (spansF en (i+1) _ r).length+1 = _
  rw [zji]
  rfl
theorem zru {n:Nat} {M:Int} {a c:Nat} {qs:List Q4} (F:Fit n M a c) (hn:qs.length<=n) (hq:∀ q∈qs,PcOk M q) (hp:qs.Pairwise (fun a b=>a.1<=b.1)) (n':Nat):∀ t∈spansF (endsF (flowF (fsOf qs (Ti.nil.tags qs)) n' 0 0)) 0 (fun _=>none) qs,SzQ 2400 t.1/\SzQ 2400 t.2:=by
 obtain ⟨D,ok⟩:=fs_ok F hn hq hp
 refine zll (fun w e h=>?_) (fun w e h=>by cases h) fun q h=>⟨(hq q h).1,(hq q h).2.1⟩
 obtain ⟨x,hx,e1⟩:=endsF_mem h
 rw [e1]
 exact ((flow_sz ok (.start ok) x hx).1).mono (by decide)
end Sw
namespace Sw
open L2
def nxS (fs:List F4) (s:Rat×Rat):Rat×Rat :=
 if chA fs s.1 s.2 = [] then s else if hdP fs s.1 s.2 = [] then (minL (chA fs s.1 s.2),s.2) else (minL (chA fs s.1 s.2),s.2+(minL (chA fs s.1 s.2)-s.1) / (shP fs (hdP fs s.1 s.2):Rat))
def stS (fs:List F4):Nat->Rat×Rat
 | 0=>(0,0)
 | k+1=>nxS fs (stS fs k)
end Sw
namespace Sw
open L2
structure Good (n:Nat) (M:Int) (a c:Nat) (qs:List Q4):Prop where
 F:Fit n M a c
 ln:qs.length<=n
 pc:∀ q∈qs,PcOk M q
 pw:qs.Pairwise (fun a b=>a.1<=b.1)
end Sw
namespace Sw
open L2
section
variable {fs:List F4}
end
end Sw
namespace Sw
open L2
section
variable {fs:List F4}
end
end Sw
namespace Sw
open L2
end Sw
namespace L2
open PySem PySem.Spec PyProof.Rows
def Itz (K:PySem.W.Frag) (a b:Addr):It :=
  ⟨fun i H=>∃ xs ys x y,SqL K H a xs/\SqL K H b ys/\xs[i]? = some x/\ys[i]? = some y,
   fun i H v H'=>∃ p x y,v = .ref p/\H p=none/\(∀ xs,SqL K H a xs->xs[i]? = some x)/\(∀ ys,SqL K H b ys->ys[i]? = some y)/\H'=upd H p (.tup [x,y]),
   fun i H=>∃ xs ys,SqL K H a xs/\SqL K H b ys/\(xs.length<=i\/ys.length<=i)⟩
theorem zrw {P:Program} {w:World} {K:PySem.W.Frag} {elts:List Expr} {x1} {pos:Pos} (a b z TI TO i1 i2:Addr) (D:ZipApart z TI TO i1 i2 a b) :
    Turn P w K (.Tuple elts x1 pos) (Itz K a b) [z,TI,TO,i1,i2] z (fun i h=>IsZip h z TI TO .none/\IsPair h TI (.ref i1) (.ref i2)/\(∃ c d,IsPair h TO c d)/\h.IsListIter i1 a i/\h.IsListIter i2 b i) where
  mem:=by simp
  obj:=fun i h st c hc=>by
    obtain ⟨h1,h2,⟨c1,d1,h3⟩,h4,h5⟩:=st
    simp only [List.mem_cons,List.not_mem_nil,or_false] at hc
    rcases hc with rfl | rfl | rfl | rfl | rfl
    · exact ⟨_,h1,fun v y=>by cases y⟩
    · exact ⟨_,h2,fun v y=>by cases y⟩
    · exact ⟨_,h3,fun v y=>by cases y⟩
    · obtain ⟨o,e,_,d⟩:=h4
      exact ⟨o,e,fun v y=>by rw [d] at y; cases y⟩
    · obtain ⟨o,e,_,d⟩:=h5
      exact ⟨o,e,fun v y=>by rw [d] at y; cases y⟩
  keep:=fun i h h' st k=>by
    obtain ⟨h1,h2,⟨c1,d1,h3⟩,h4,h5⟩:=st
    exact ⟨k z (by simp) _ h1,k TI (by simp) _ h2,⟨c1,d1,k TO (by simp) _ h3⟩,h4.at fun o q=>k i1 (by simp) o q,h5.at fun o q=>k i2 (by simp) o q⟩
  item:=by
    intro X hP hw hK hc i pins s σ H E I hf st hg
    subst hP hw hK
    obtain ⟨h1,h2,⟨c1,d1,h3⟩,h4,h5⟩:=st
    obtain ⟨xs,ys,x,y,hq1,hq2,hx,hy⟩:=hg
    obtain ⟨its1,rv1,p1,hz1⟩:=I.list hq1
    obtain ⟨its2,rv2,p2,hz2⟩:=I.list hq2
    obtain ⟨u1,hu1,ru1⟩:=rv1.get hx
    obtain ⟨u2,hu2,ru2⟩:=rv2.get hy
    have hfr:∀ c,c∈[z,TI,TO,i1,i2]->H c=none:=fun c h=>(hf c h).1
    have hlt:∀ c,c∈[z,TI,TO,i1,i2]->c<s.heap.objs.size:=fun c h=>by
      simp only [List.mem_cons,List.not_mem_nil,or_false] at h
      rcases h with rfl | rfl | rfl | rfl | rfl
      · exact Heap.lt_size h1
      · exact Heap.lt_size h2
      · exact Heap.lt_size h3
      · obtain ⟨o,q,_⟩:=id h4; exact Heap.lt_size q
      · obtain ⟨o,q,_⟩:=id h5; exact Heap.lt_size q
    refine wpAny_pyNext_zip_item D h1 h2 h3 h4 h5 p1.isList p2.isList (x:=u1) (y:=u2) (by simpa using hu1) (by simpa using hu2) fun hp' hz' hTO' hi1' hi2' hT' hsz hk=>?_
    refine ⟨.ref s.heap.objs.size,rfl,wpAny_letOwnedTupleGo_zip hz' fun hp2 hz2' hs2=>?_⟩
    have hs2':Heap.SameBut z hp' hp2:=hs2
    have kz:∀ c o,c≠z->hp'.get? c=some o->hp2.get? c=some o:=fun c o n q=>(hs2'.2 c n).trans q
    have fresh:H s.heap.objs.size=none:=I.hok.fresh (Nat.le_refl _)
    have nsz:∀ c,c∈[z,TI,TO,i1,i2]->s.heap.objs.size≠c:=fun c h=>Nat.ne_of_gt (hlt c h)
    have htup:hp2.get? s.heap.objs.size=some { cls:=.type "tuple", data:=.seq #[u1,u2] }:=kz _ _ (nsz z (by simp)) hT'
    have k2:∀ c o,c ∉ [z,TI,TO,i1,i2]->s.heap.get? c=some o->hp2.get? c=some o:=fun c o n q=>by
      simp only [List.mem_cons,List.not_mem_nil,or_false,not_or] at n
      exact kz c o n.1 (hk c o n.1 n.2.2.1 n.2.2.2.1 n.2.2.2.2 q)
    have nit:∀ c v,H c=some v->c ∉ [z,TI,TO,i1,i2]:=fun c v q h=>by rw [hfr c h] at q; cases q
    have up:∀ c o,H c=some o->(upd H s.heap.objs.size (.tup [x,y])) c=some o:=fun c o q=>by rw [zai (zah q fresh)]; exact q
    have I2:Inv X pins σ (upd H s.heap.objs.size (.tup [x,y])) { s with heap:=hp2 }:=by
      refine I.step (t':=s.toks) (g':=s.gens) (d':=s.drawn) (ch:=[z,TI,TO,i1,i2]) (fun c hc=>?_) (fun c o _ _ hc q _=>k2 c o hc q)
        (fun c o _ _ hc q _=>⟨o.slots,k2 c o hc q⟩) (fun c o _ q n=>by rw [zai (Nat.ne_of_lt (Heap.lt_size q))]; exact n)
        (fun c o hc q=>⟨o,k2 c o hc q⟩) (fun c zs q=>up c _ q) (fun c ob v q=>up c _ q) (fun c ps q=>⟨#[],by rw [up c _ q]; simp⟩) (fun m hm=>?_) (fun c v q=>?_) I.bare
      · obtain ⟨f0,f1,f2,f3,f4,f5⟩:=hf c hc
        exact ⟨f3,f1,f4,f5⟩
      · obtain ⟨o,es,ep,ho,r⟩:=hm
        refine ⟨o,es,ep,k2 _ o (fun h=>?_) ho,r⟩
        exact (hf _ h).2.1 rfl
      · by_cases hb:c=s.heap.objs.size
        · subst hb
          rw [zab] at q
          cases q
          exact ⟨by show 2<=sizeLine; decide,[u1,u2],.cons ru1 (.cons ru2 .nil),_,htup,rfl,_,rfl⟩
        · rw [zai hb] at q
          refine (I.hok c v q).stay (fun d v' hd q'=>?_) (fun d y=>up d _ y) fun d zs y=>up d _ y
          refine k2 d v' ?_ q'
          rcases hd with y | y
          · rw [y]; exact nit c v q
          · exact nit d _ y
    refine ⟨.ref s.heap.objs.size,_,I2,rfl,⟨s.heap.objs.size,x,y,rfl,fresh,fun zs hz=>by rw [I.list_inj hz hq1]; exact hx,fun zs hz=>by rw [I.list_inj hz hq2]; exact hy,rfl⟩,⟨hz2',kz _ _ D.TIz (hk _ _ D.TIz D.TITO D.TIi1 D.TIi2 h2),⟨u1,u2,kz _ _ D.TOz hTO'⟩,hi1'.at fun o q=>kz _ _ D.i1z q,hi2'.at fun o q=>kz _ _ D.i2z q⟩,fun c hc=>?_⟩
    rw [zai (nsz c hc).symm]
    exact hfr c hc
  done:=by
    intro X hP hw hK hc i pins s σ H E I hf st hg
    subst hP hw hK
    obtain ⟨h1,h2,⟨c1,d1,h3⟩,h4,h5⟩:=st
    obtain ⟨xs,ys,hq1,hq2,hx⟩:=hg
    obtain ⟨its1,rv1,p1,hz1⟩:=I.list hq1
    obtain ⟨its2,rv2,p2,hz2⟩:=I.list hq2
    have l1:=rv1.length
    have l2:=rv2.length
    refine wpAny_pyNext_zip_end (I.ok.hd hc) D h1 h2 h3 h4 h5 p1.isList p2.isList ?_ fun hp' hk=>⟨rfl,?_⟩
    · rcases hx with h | h
      · exact .inl (by simp; omega)
      · exact .inr (by simp; omega)
    have hfr:∀ c,c∈[z,TI,TO,i1,i2]->H c=none:=fun c h=>(hf c h).1
    have k2:∀ c o,c ∉ [z,TI,TO,i1,i2]->s.heap.get? c=some o->hp'.get? c=some o:=fun c o n q=>by
      simp only [List.mem_cons,List.not_mem_nil,or_false,not_or] at n
      exact hk c o n.1 n.2.2.1 n.2.2.2.1 n.2.2.2.2 q
    have nit:∀ c v,H c=some v->c ∉ [z,TI,TO,i1,i2]:=fun c v q h=>by rw [hfr c h] at q; cases q
    refine I.step (t':=s.toks) (g':=s.gens) (d':=s.drawn) (ch:=[z,TI,TO,i1,i2]) (fun c hc=>?_) (fun c o _ _ hc q _=>k2 c o hc q)
      (fun c o _ _ hc q _=>⟨o.slots,k2 c o hc q⟩) (fun c o _ q n=>n)
      (fun c o hc q=>⟨o,k2 c o hc q⟩) (fun c zs q=>q) (fun c ob v q=>q) (fun c ps q=>⟨#[],by simpa using q⟩) (fun m hm=>?_) (fun c v q=>?_) I.bare
    · obtain ⟨f0,f1,f2,f3,f4,f5⟩:=hf c hc
      exact ⟨f3,f1,f4,f5⟩
    · obtain ⟨o,es,ep,ho,r⟩:=hm
      refine ⟨o,es,ep,k2 _ o (fun h=>?_) ho,r⟩
      exact (hf _ h).2.1 rfl
    · refine (I.hok c v q).stay (fun d v' hd q'=>?_) (fun d y=>y) fun d zs y=>y
      refine k2 d v' ?_ q'
      rcases hd with y | y
      · rw [y]; exact nit c v q
      · exact nit d _ y
  self:=fun _ _ _ _ _ st h=>by
    obtain ⟨h1,_⟩:=st
    exact wpAny_pyIter_zip h1 h
section
variable {X:Cx}
def iZip (K:PySem.W.Frag) (ta:TA):TI:=fun σ H R=>ta σ H fun vs H1=>∃ a b,vs = [.ref a,.ref b]/\(∃ xs,SqL K H1 a xs)/\(∃ ys,SqL K H1 b ys)/\R (Itz K a b) H1
theorem zxg {l m:Expr} {ta:TA} {p pos tpos:Pos} {elts:List Expr} {x1} (hg:Gl X "zip") (hm:X.mg "zip" = none) (ha:PA X [l,m] ta) (hs:starEach [l,m] X.env=(false,eval l X.env) :: starEach [m] X.env:=by rfl) (hpl:(backTo pos (starEach [m] X.env)).any (·.1)=false:=by rfl) :
    PI X (.Tuple elts x1 tpos) (.Call (.Name "zip" p) [l,m] [] pos) (iZip X.K ta):=by
  intro pins s σ H R I h
  refine Call_ (zht I hg hm boot_zip (PyProof.Rows.callWith_type1 (thn (ha pos pins s σ H _ I h) fun us s1 ⟨vs,H1,I1,r1,q1⟩=>?_) hs hpl))
  obtain ⟨a,b,rfl,⟨xs,hq1⟩,⟨ys,hq2⟩,q⟩:=q1
  obtain ⟨u1,u2,rfl,r,r2⟩:=Vals.two r1
  cases r
  cases r2
  obtain ⟨its1,rv1,p1,hz1⟩:=I1.list hq1
  obtain ⟨its2,rv2,p2,hz2⟩:=I1.list hq2
  have la:a<s1.heap.objs.size:=by obtain ⟨o,n,e,_⟩:=p1; exact Heap.lt_size e
  have lb:b<s1.heap.objs.size:=by obtain ⟨o,n,e,_⟩:=p2; exact Heap.lt_size e
  refine call_zip_2 p1.isList p2.isList fun h' hz hTI hTO hi1 hi2 hsz hk=>?_
  refine wpAny_pyIter_zip hz ?_
  refine ⟨s1.heap.objs.size+4,[s1.heap.objs.size+4,s1.heap.objs.size+2,s1.heap.objs.size+3,s1.heap.objs.size,s1.heap.objs.size+1],_,_,H1,rfl,I1.kept (t':=s1.toks) hk,zrw a b _ _ _ _ _ (PyProof.Rows.zipApart_new la lb),⟨hz,hTI,⟨_,_,hTO⟩,hi1,hi2⟩,fun c hc=>?_,q⟩
  have le:s1.heap.objs.size<=c:=by
    simp only [List.mem_cons,List.not_mem_nil,or_false] at hc
    rcases hc with rfl | rfl | rfl | rfl | rfl
    · exact Nat.le_add_right _ _
    · exact Nat.le_add_right _ _
    · exact Nat.le_add_right _ _
    · exact Nat.le_refl _
    · exact Nat.le_add_right _ _
  exact I1.fpOk le (I1.hok.fresh le)
theorem zqj (K:PySem.W.Frag) (h:X.K=K) {l m:Expr} {ta:TA} {p pos tpos:Pos} {elts:List Expr} {x1} (hg:Gl X "zip") (hm:X.mg "zip" = none) (ha:PA X [l,m] ta) (hs:starEach [l,m] X.env=(false,eval l X.env) :: starEach [m] X.env:=by rfl) (hpl:(backTo pos (starEach [m] X.env)).any (·.1)=false:=by rfl) :
    PI X (.Tuple elts x1 tpos) (.Call (.Name "zip" p) [l,m] [] pos) (iZip K ta):=h ▸ zxg hg hm ha hs hpl
end
theorem zuq {K:PySem.W.Frag} {a b:Addr} {xs ys:List V} {g:TG} {tb:TS} {D:Ends} {σ:St} {H:Hp} (Pv:Nat->St->Hp->Prop) (h0:Pv 0 σ H) (hn:xs.length<=ys.length) (hl:∀ i σ H,i<=xs.length->Pv i σ H->SqL K H a xs/\SqL K H b ys)
    (hs:∀ i x y σ H p,xs[i]? = some x->ys[i]? = some y->Pv i σ H->H p=none->g (.ref p) σ (upd H p (.tup [x,y])) fun σ2 H2=>tb { D with nx:=Pv (i+1),ct:=Pv (i+1),bk:=D.nx } σ2 H2) (hd:∀ σ H,Pv xs.length σ H->D.nx σ H) :
    ∃ W:Nat->Nat->St->Hp->Prop,(∃ m,W 0 m σ H)/\∀ i m σ H,W i m σ H ->
      ((Itz K a b).stop i H/\D.nx σ H)\/((Itz K a b).go i H/\∃ N:St->Hp->Prop,(∀ σ' H',N σ' H'->∃ m',m' < m/\W (i+1) m' σ' H')/\∀ x H',(Itz K a b).yld i H x H'->g x σ H' fun σ2 H2=>tb { D with nx:=N,ct:=N,bk:=D.nx } σ2 H2):=by
  refine ⟨fun i m σ H=>m=xs.length-i/\i<=xs.length/\Pv i σ H,⟨xs.length,by simp,Nat.zero_le _,h0⟩,?_⟩
  rintro i m σ H ⟨rfl,hi,p⟩
  obtain ⟨q1,q2⟩:=hl i σ H hi p
  by_cases hlt:i<xs.length
  · refine .inr ⟨⟨xs,ys,xs[i],ys[i]'(by omega),q1,q2,by simp [hlt],List.getElem?_eq_getElem _⟩,Pv (i+1),fun σ' H' p'=>⟨xs.length-(i+1),by omega,rfl,hlt,p'⟩,fun v H' z=>?_⟩
    obtain ⟨c,x,y,rfl,hc,hx,hy,rfl⟩:=z
    exact hs i x y σ H c (hx xs q1) (hy ys q2) p hc
  · have e:i=xs.length:=by omega
    subst e
    exact .inl ⟨⟨xs,ys,q1,q2,.inl (Nat.le_refl _)⟩,hd σ H p⟩
end L2
namespace Sw
open L2
section
variable {fs:List F4}
end
end Sw
namespace Sw
open L2
section
variable {fs:List F4}
def ms (fs:List F4) (k:Nat) (t:Rat):Rat:=if hdP fs (stS fs k).1 (stS fs k).2 = [] then (stS fs k).2 else (stS fs k).2+(t-(stS fs k).1) / (shP fs (hdP fs (stS fs k).1 (stS fs k).2):Rat)
def dn (f:F4) (m:Rat):Rat:=max f.2.1 (min m f.2.2.1)-f.2.1
end
section
variable {fs:List F4} {w:Nat->Int}
end
end Sw
namespace Sw
open L2
section
variable {fs fs':List F4} {w w':Nat->Int} {κ:Nat->Nat}
end
end Sw
namespace Sw
open L2
def whoAt (qs:List Q4) (i:Nat):Int:=((qs[i]?).map fun q=>q.2.1).getD 0
theorem zrx {qs:List Q4} {i:Nat} {q:Q4} (e:qs[i]? = some q):whoAt qs i=q.2.1:=by unfold whoAt; rw [e]; rfl
theorem zxh (s:Ti) (q:Q4):s.rv q<=s.beg q/\∀ e,s.en q.2.1=some e->e<=s.beg q:=by
 unfold Ti.beg begOn
 refine ⟨?_,fun e h=>?_⟩
 ·rw [Rat.max_def]; split <;> grind
 ·rw [h,Option.getD_some,Rat.max_def]; split <;> grind
end Sw
namespace Sw
open L2
abbrev S3:=Int×Int×Rat
def tq:List Rat->Rat
 | []=>0
 | x :: r=>x+tq r
theorem zjj:∀ (a b:List Rat),tq (a++b)=tq a+tq b
 | [],b=>by show tq b = 0+tq b; grind
 | x :: r,b=>by show x+tq (r++b)=x+tq r+tq b; rw [zjj r b]; grind
theorem zqk:∀ {l:List Rat},(∀ x∈l,0<=x)->0<=tq l
 | [],_=>Rat.le_refl
 | x :: r,h=>by
  have:=zqk (l:=r) fun y hy=>h y (List.mem_cons_of_mem _ hy)
  have:=h x (by simp)
  show 0<=x+tq r
  grind
section
variable (ss:List S3)
def shS (i:Nat):Int:=((ss[i]?).map fun s=>s.1).getD 0
def buS (i:Nat):Int:=((ss[i]?).map fun s=>s.2.1).getD 0
end
section
variable {ss:List S3} {h:Nat->Rat}
end
end Sw
namespace Sw
open L2
section
variable {ss:List S3} {h:Nat->Rat}
end
end Sw
namespace Sw
open L2
section
variable {ss:List S3} {h:Nat->Rat}
end
end Sw
namespace Sw
end Sw
namespace L2
open PySem PySem.Spec PyProof.Rows
theorem zry {K:PySem.W.Frag} {a b:Addr} {xs ys:List V} {g:TG} {tc:TT} {te:TE} {D:Addr} {τ:St} {H:Hp} {Q:VK} (Pv:Nat->St->Hp->Prop) (h0:Pv 0 τ H) (hn:xs.length<=ys.length) (hl:∀ i τ H,i<=xs.length->Pv i τ H->SqL K H a xs/\SqL K H b ys)
    (hs:∀ i x y τ H p,xs[i]? = some x->ys[i]? = some y->Pv i τ H->H p=none->g (.ref p) τ (upd H p (.tup [x,y])) fun τ2 H3=>tc τ2 H3 fun b H4=>if b=true then te τ2 H4 fun y H5=>∃ ys,H5 D=some (.lst ys)/\ys.length<sizeLine/\Pv (i+1) τ2 (upd H5 D (.lst (ys++[y]))) else Pv (i+1) τ2 H4)
    (hd:∀ τ H,Pv xs.length τ H->Q (.ref D) H) :
    CompG (Itz K a b) g tc te D τ H Q:=by
  refine ⟨fun i m τ H=>m=xs.length-i/\i<=xs.length/\Pv i τ H,⟨xs.length,by simp,Nat.zero_le _,h0⟩,?_⟩
  rintro i m τ H ⟨rfl,hi,p⟩
  obtain ⟨q1,q2⟩:=hl i τ H hi p
  by_cases hlt:i<xs.length
  · refine .inr ⟨⟨xs,ys,xs[i],ys[i]'(by omega),q1,q2,by simp [hlt],List.getElem?_eq_getElem _⟩,Pv (i+1),fun τ' H' p'=>⟨xs.length-(i+1),by omega,rfl,hlt,p'⟩,fun v H2 z=>?_⟩
    obtain ⟨c,x,y,rfl,hc,hx,hy,rfl⟩:=z
    exact hs i x y τ H c (hx xs q1) (hy ys q2) p hc
  · have e:i=xs.length:=by omega
    subst e
    exact .inl ⟨⟨xs,ys,q1,q2,.inl (Nat.le_refl _)⟩,hd τ H p⟩
theorem zql {c:TT} {tb:TS} {D:Ends} {σ:St} {H:Hp} (W:Nat->St->Hp->Prop) {m0:Nat} (h0:W m0 σ H)
    (hs:∀ m σ H,W m σ H->∀ Q:Bool->Hp->Prop,(∀ H1,tb { D with nx:=fun σ' H'=>∃ m',m' < m/\W m' σ' H',ct:=fun σ' H'=>∃ m',m' < m/\W m' σ' H',bk:=D.nx } σ H1->Q true H1)->(∀ H1,D.nx σ H1->Q false H1)->c σ H Q):ziz c tb D σ H:=by
  refine ⟨W,⟨_,h0⟩,fun m σ H p=>?_⟩
  exact hs m σ H p _ (fun H1 h=>⟨_,fun σ' H' z=>z,h⟩) fun H1 h=>h
def fr (n:Nat) (h:Nat->Rat):List Rat:=(List.range n).map h
def mn (H:Hp) (l:Addr):Hp:=fun b=>if b=l then none else H b
end L2
namespace Sw
open L2
end Sw
namespace L2
end L2
namespace Sw
open L2
end Sw
namespace L2
open PySem PySem.Spec PyProof.Rows
end L2
namespace Sw
open L2
end Sw
namespace L2
open PySem PySem.Spec PyProof.Rows
theorem zgv {M:Model} {A:Around} {E:Value->Shared->Prop} {s:Shared} {scope:Scope} {globals:Addr} {closure:List (Str×Addr)} {qual:Str} {func:Option Addr} {code:Value} {env:Env} {builtins:Addr} {Q:Env->Shared->Prop} {x0:Str}
    (hcs:∀ n,cellsFrom n scope.names closure=(x0,n) :: closure) (hpc:∀ h,pushCells h scope.names=h.push { cls:=.type "cell", data:=.cell none })
    (hQ:Q (newEnv scope s.heap.objs.size globals ((x0,s.heap.objs.size+1) :: closure) qual func code (some env) builtins) { s with heap:=(s.heap.push { cls:=.type "dict", data:=.dict #[] }).push { cls:=.type "cell", data:=.cell none } }) :
    wpAny M A (newFunctionEnv scope globals closure [] qual func code (some env) builtins) Q E s:=by
  simp only [newFunctionEnv,Option.isSome_some,if_true]
  refine wpAny_bind (wpAny_alloc ?_)
  refine wpAny_bind (wpAny_layCells _ (fun name kind cells=>by cases hkc:kind == NameKind.cell <;> simp [hkc]) _ _ _ _ ?_)
  rw [show ({ s with heap:=s.heap.push { cls:=.type "dict", data:=.dict #[] } }:Shared).heap.objs.size=s.heap.objs.size+1 from Heap.size_push ..]
  rw [hcs,hpc]
  refine wpAny_bind ?_
  rw [List.forIn_nil]
  exact wpAny_pure (wpAny_pure hQ)
def zdj (X:Cx) (scope:Scope) (cl:List (Str×Addr)) (x0:Str) (N:List Str) (fp:List Addr) (s:Shared) (H:Hp):Cx :=
 { zbr X scope ((x0,s.heap.objs.size+1) :: cl) N fp s H with fn:=fun x=>x == x0 }
section
variable {X:Cx}
theorem zqm {scope:Scope} {cl:List (Str×Addr)} {x0:Str} {ts:List Str} {fr:List (Str×Nat)} {fp:List Addr} {pins:List (Addr×Obj)} {σ:St} {H:Hp} {s:Shared} {h':Heap} {m:Str->Option Value} {t':Nat} (I:Inv X pins σ H s)
    (hkind:scope.kind = .function) (hcl:∀ x c,cl.lookup x=some c->X.env.cells.lookup x=some c)
    (hhas:∀ x,((relabel scope X.env).names.lookup x=some .cell\/(relabel scope X.env).names.lookup x=some .free)->x=x0\/∃ c,cl.lookup x=some c) (hfr:FrOk X (relabel scope X.env) fr) (hne:∀ p∈fr,p.1≠x0)
    (hfp:∀ b∈fp,FpOk X pins H b/\b<s.heap.objs.size) (hn:h'.Ns s.heap.objs.size m) (hnc:h'.IsCell (s.heap.objs.size+1) none) (hk:∀ b o,s.heap.get? b=some o->h'.get? b=some o) :
    Inv (zdj X scope cl x0 (ts++fr.map (·.1)) fp s H) [] (List.replicate ts.length none++fr.map fun p=>(σ[p.2]?).join) H { s with heap:=h',toks:=t' }:=by
  have cellK:∀ c v,s.heap.IsCell c v->h'.IsCell c v:=fun c v ⟨o,ho,hd⟩=>⟨o,hk c o ho,hd⟩
  have two:∀ x c,((x0,s.heap.objs.size+1) :: cl).lookup x=some c->(x=x0/\c=s.heap.objs.size+1)\/(x≠x0/\cl.lookup x=some c):=fun x c h=>by
    rw [List.lookup_cons] at h
    cases hb:x == x0 with
    | true=>rw [hb] at h; cases h; exact .inl ⟨beq_iff_eq.mp hb,rfl⟩
    | false=>rw [hb] at h; exact .inr ⟨fun z=>by rw [z] at hb; simp at hb,h⟩
  have old:∀ x c,cl.lookup x=some c->c<s.heap.objs.size:=fun x c h=>by
    obtain ⟨v,z⟩:=I.cell x c (hcl x c h)
    exact z.lt
  refine ⟨⟨I.ok.mod,hkind,I.ok.glob,I.ok.blt,Nat.le_refl _,fun x y c h1 h2=>?_,fun x hx=>?_,fun x c hf h=>?_,I.ok.hd,I.ok.frames,.inl rfl,fun b hb=>?_,I.bs,Nat.le_trans I.ok.bsz I.sz,fun b o e hb=>?_,fun b hb z=>?_,I.stack,I.stkFree⟩,
    rfl,I.bare,Un.kept hk,⟨m,hn,fun i x v e1 e2 e3=>?_⟩,fun x c e=>?_,I.hok.fresh (Nat.le_refl _),fun x c e=>?_,fun p hp=>absurd (show p∈([]:List (Addr×Obj)) from hp) (by simp),I.hok.kept hk,?_⟩
  · rcases two x c h1 with ⟨a1,a2⟩ | ⟨a1,a2⟩ <;> rcases two y c h2 with ⟨b1,b2⟩ | ⟨b1,b2⟩
    · rw [a1,b1]
    · exact absurd (a2 ▸ old y c b2) (Nat.not_lt.mpr (Nat.le_succ _))
    · exact absurd (b2 ▸ old x c a2) (Nat.not_lt.mpr (Nat.le_succ _))
    · exact I.ok.inj x y c (hcl x c a2) (hcl y c b2)
  · rcases hhas x hx with z | ⟨c,z⟩
    · exact ⟨s.heap.objs.size+1,by show ((x0,s.heap.objs.size+1) :: cl).lookup x = _; rw [List.lookup_cons,z]; simp⟩
    · by_cases y:x=x0
      · exact ⟨s.heap.objs.size+1,by show ((x0,s.heap.objs.size+1) :: cl).lookup x = _; rw [List.lookup_cons,y]; simp⟩
      · refine ⟨c,?_⟩
        show ((x0,s.heap.objs.size+1) :: cl).lookup x = _
        rw [List.lookup_cons,show (x == x0)=false by simpa using y]
        exact z
  · have hf:(x == x0)=true:=hf
    rcases two x c h with ⟨a1,a2⟩ | ⟨a1,a2⟩
    · rw [a2]; exact Nat.le_succ _
    · exact absurd (beq_iff_eq.mp hf) a1
  · obtain ⟨f,lt⟩:=hfp b hb
    refine ⟨Nat.ne_of_lt lt,fun x c e=>?_⟩
    rcases two x c e with ⟨a1,a2⟩ | ⟨a1,a2⟩
    · rw [a2]; exact fun z=>absurd (z ▸ lt) (Nat.not_lt.mpr (Nat.le_succ _))
    · exact f.2.2.2.2.1 x c (hcl x c a2)
  · obtain ⟨f,lt⟩:=hfp b hb
    rcases f.2.2.2.1 with z | z
    · exact I.ok.noex b o e z
    · exact absurd (Nat.lt_of_lt_of_le (Heap.lt_size e) (Nat.le_trans I.ok.bsz z)) (Nat.lt_irrefl _)
  · obtain ⟨f,lt⟩:=hfp b hb
    rcases List.mem_cons.mp (I.stkSub b z) with y | y
    · exact f.2.1 y
    · exact f.2.2.1 y
  · have hlen:(List.replicate ts.length (none:Option V)).length=ts.length:=by simp
    by_cases hi:i<ts.length
    · rw [List.getElem?_append_left (by rw [hlen]; exact hi),List.getElem?_replicate,if_pos hi] at e2
      cases e2
    · rw [List.getElem?_append_right (by rw [hlen]; omega),hlen,List.getElem?_map] at e2
      have e1':(ts++fr.map (·.1))[i]? = some x:=e1
      rw [List.getElem?_append_right (by omega),List.getElem?_map] at e1'
      cases ep:fr[i-ts.length]? with
      | none=>rw [ep] at e2; cases e2
      | some p =>
        rw [ep] at e1' e2
        have ex:p.1=x:=Option.some.inj e1'
        have ev:(σ[p.2]?).join=some v:=Option.some.inj e2
        obtain ⟨a1,a2,a3⟩:=hfr.mem p (List.mem_of_getElem? ep)
        have ev':σ[p.2]? = some (some v):=by
          cases q:σ[p.2]? with
          | none=>rw [q] at ev; cases ev
          | some o=>rw [q] at ev; cases o with
            | none=>cases ev
            | some v'=>cases ev; rfl
        obtain ⟨m',hn',hl'⟩:=I.loc
        obtain ⟨u,ru,lk⟩:=hl' p.2 p.1 v a1 ev' (.inr (.inl a3))
        subst ex
        refine ⟨u,ru,?_⟩
        rcases lk with ⟨z,_⟩ | ⟨_,c,ec,z⟩
        · rw [z] at a3; cases a3
        · have np:=hne p (List.mem_of_getElem? ep)
          rcases hhas p.1 (.inl a2) with y | ⟨c',ec'⟩
          · exact absurd y np
          have ecc:c'=c:=Option.some.inj ((hcl _ _ ec').symm.trans ec)
          refine .inr ⟨.inl a2,c',?_,(by rw [ecc]; exact cellK _ _ z)⟩
          show ((x0,s.heap.objs.size+1) :: cl).lookup p.1 = _
          rw [List.lookup_cons,show (p.1 == x0)=false by simpa using np]
          exact ec'
  · rcases two x c e with ⟨a1,a2⟩ | ⟨a1,a2⟩
    · rw [a2]; exact ⟨none,hnc⟩
    · obtain ⟨v,z⟩:=I.cell x c (hcl x c a2)
      exact ⟨v,cellK _ _ z⟩
  · rcases two x c e with ⟨a1,a2⟩ | ⟨a1,a2⟩
    · rw [a2]; exact I.hok.fresh (Nat.le_succ _)
    · exact I.freeC x c (hcl x c a2)
  · show _=(ts++fr.map (·.1)).length
    simp
end
end L2
namespace Sw
open L2
section
variable {ss:List S3}
variable {L:Int} {m:Nat}
end
end Sw
namespace Sw
open L2
section
variable {ss:List S3} {L:Int} {m:Nat}
end
end Sw
namespace L2
open PySem PySem.Spec PyProof.Rows
section
variable {prog:Program} {w:World} {A:Around} {E:Value->Shared->Prop} {s:Shared}
end
section
variable {prog:Program} {w:World} {A:Around} {E:Value->Shared->Prop} {s:Shared}
end
section
variable {X:Cx}
end
end L2
namespace L2
open PySem PySem.Spec PyProof.Rows
end L2
namespace Sw
open L2
end Sw
namespace L2
open PySem PySem.Spec PyProof.Rows
def ms (H:Hp) (S:List Addr):Hp:=fun b=>if b∈S then none else H b
theorem zel {H:Hp} {v b:Addr} {ys zs xs:List V} (h:H v=some (.lst zs)) (e:H b=some (.tup xs)):upd H v (.lst ys) b=some (.tup xs):=by
 rw [zai (ne_of e h (by intro z; cases z))]; exact e
section
variable {ss:List Sw.S3} {l l1 tl hl kl pn:Addr} {ps cp hp kp S:List Addr} {xs:List (Nat×Addr)} {j:Nat} {g:Nat->Rat} {H H':Hp}
end
end L2
namespace Sw
end Sw
namespace L2
open PySem PySem.Spec PyProof.Rows
end L2
namespace L2
open PySem PySem.Spec PyProof.Rows
end L2
namespace Sw
open L2
section
variable {sh bu:Int} {r:Rat}
end
end Sw
namespace Sw
open L2
abbrev WI:=Nat×Q4×Rat×Rat
def wT (i:WI):T3:=(i.2.2.1,i.2.2.2,i.2.1.2.2.2)
def wL (i:WI):Rat:=(i.2.1.2.2.1:Rat)
def wAt (i:WI):Int:=i.2.1.1
structure WIok (i:WI):Prop where
 b0:0<=i.2.2.1
 be:i.2.2.1<i.2.2.2
 fl:(i.2.1.2.2.2:Rat)*(i.2.2.2-i.2.2.1)=wL i
 l1:1<=i.2.1.2.2.1
 s1:1<=i.2.1.2.2.2
theorem zmk {a b:List Rat} (h:a.Perm b):tq a=tq b:=by
 induction h with
 | nil=>rfl
 | cons x _ ih=>show x+tq _=x+tq _; rw [ih]
 | swap x y l=>show y+(x+tq l)=x+(y+tq l); grind
 | trans _ _ h1 h2=>rw [h1,h2]
theorem zml (low high:Rat):∀ l:List WI,went low high (l.map wT)=tq (l.map fun i=>(i.2.1.2.2.2:Rat)*ov low high (wT i))
 | []=>rfl
 | i :: r=>by
  show (i.2.1.2.2.2:Rat)*ov low high (wT i)+went low high (r.map wT)=(i.2.1.2.2.2:Rat)*ov low high (wT i)+tq _
  rw [zml low high r]
theorem ov_le {i:WI} (h:WIok i) {m:Rat}:(i.2.1.2.2.2:Rat)*ov 0 m (wT i)<=wL i:=by
 have s0:(0:Rat)<=(i.2.1.2.2.2:Rat):=Rat.intCast_nonneg.mpr (by have:=h.s1; omega)
 have o:ov 0 m (wT i)<=i.2.2.2-i.2.2.1:=by
  have:=h.b0
  have:=h.be
  unfold ov wT
  dsimp only
  rw [if_pos (show (0:Rat)<=i.2.2.1 from h.b0)]
  split
  ·grind
  ·split
   ·grind
   ·split <;> grind
 have:=Rat.mul_le_mul_of_nonneg_left o s0
 rw [h.fl] at this
 exact this
theorem ov_lt {i:WI} (h:WIok i) {m:Rat} (hm:m<i.2.2.2):(i.2.1.2.2.2:Rat)*ov 0 m (wT i)<wL i:=by
 have s0:(0:Rat)<(i.2.1.2.2.2:Rat):=zbd (by have:=h.s1; omega)
 have o:ov 0 m (wT i)<i.2.2.2-i.2.2.1:=by
  have:=h.b0
  have:=h.be
  unfold ov wT
  dsimp only
  rw [if_pos (show (0:Rat)<=i.2.2.1 from h.b0)]
  split
  ·grind
  ·split
   ·grind
   ·split <;> grind
 have:=Rat.mul_lt_mul_of_pos_left o s0
 rw [h.fl] at this
 exact this
theorem zqn {i:WI} {m:Rat} (hm:m<=i.2.2.1):ov 0 m (wT i) = 0:=by
 unfold ov wT
 dsimp only
 rw [if_pos hm]
 split <;> rfl
theorem zur {i:WI} (h:WIok i) {m:Rat} (hm:i.2.2.2<=m):(i.2.1.2.2.2:Rat)*ov 0 m (wT i)=wL i:=by
 have o:ov 0 m (wT i)=i.2.2.2-i.2.2.1:=by
  have:=h.b0
  have:=h.be
  unfold ov wT
  dsimp only
  rw [if_neg (by grind),if_neg (by grind),if_pos hm,if_pos (by grind)]
 rw [o,h.fl]
theorem zlm {m:Rat}:∀ {l:List WI},(∀ i∈l,WIok i)->(∀ i∈l,i.2.2.2<=m)->went 0 m (l.map wT)=tq (l.map wL)
 | [],_,_=>rfl
 | i :: r,h1,h2=>by
  have ih:=zlm (m:=m) (l:=r) (fun x hx=>h1 x (List.mem_cons_of_mem _ hx)) fun x hx=>h2 x (List.mem_cons_of_mem _ hx)
  show (i.2.1.2.2.2:Rat)*ov 0 m (wT i)+went 0 m (r.map wT)=wL i+tq (r.map wL)
  rw [ih,zur (h1 i (by simp)) (h2 i (by simp))]
theorem tq_le {α:Type} {f g:α->Rat}:∀ {l:List α},(∀ x∈l,f x<=g x)->tq (l.map f)<=tq (l.map g)
 | [],_=>Rat.le_refl
 | x :: r,h=>by
  have ih:=tq_le (l:=r) fun y hy=>h y (List.mem_cons_of_mem _ hy)
  have:=h x (by simp)
  show f x+tq (r.map f)<=g x+tq (r.map g)
  grind
theorem ztf {α:Type} {f g:α->Rat} {y:α} (hy:f y<g y):∀ {l:List α},(∀ x∈l,f x<=g x)->y∈l->tq (l.map f)<tq (l.map g)
 | [],_,h=>by cases h
 | x :: r,h,hm=>by
  have h1:=h x (by simp)
  have hr:∀ y∈r,f y<=g y:=fun y hy=>h y (List.mem_cons_of_mem _ hy)
  show f x+tq (r.map f)<g x+tq (r.map g)
  rcases List.mem_cons.mp hm with e | e
  ·subst e
   have:=tq_le hr
   grind
  ·have:=ztf hy hr e
   grind
theorem ztg {α:Type}:∀ l:List α,tq (l.map fun _=>(0:Rat)) = 0
 | []=>rfl
 | _ :: r=>by
  show (0:Rat)+tq (r.map fun _=>(0:Rat)) = 0
  rw [ztg r]; grind
structure WInv (s:Ti) (free:Int) (T G Qu:List WI):Prop where
 pm:T.Perm (G++Qu)
 ok:∀ i∈T,WIok i
 al:AllIn (T.map wT) s.us s.re
 en:∀ w e,s.en w=some e->e<=s.re\/∃ v∈s.us,v.2.1=e/\v.1<v.2.1
 at_:∀ i∈Qu,wAt i<=s.lat
 wk:∀ t:Int,free<=t->s.lat<=t->tq (G.map wL)<=went 0 (markAt s.us s.lat s.re t) (T.map wT)
section
variable {s:Ti} {free:Int} {T G Qu:List WI} {D B:Int}
theorem zif (ok:∀ i∈T,WIok i) (al:AllIn (T.map wT) s.us s.re) (o:TideOk D B s.lat s.re s.us) {t1 t2:Int} (h1:s.lat<=t1) (h2:t1<=t2) :
    went 0 (markAt s.us s.lat s.re t2) (T.map wT)<=went 0 (markAt s.us s.lat s.re t1) (T.map wT)+((t2-t1:Int):Rat) /\
    (went 0 (markAt s.us s.lat s.re t2) (T.map wT)=went 0 (markAt s.us s.lat s.re t1) (T.map wT)+((t2-t1:Int):Rat)\/went 0 (markAt s.us s.lat s.re t2) (T.map wT)=tq (T.map wL)):=by
  have be:∀ u∈T.map wT,u.1<=u.2.1:=fun u hu=>by
    obtain ⟨i,hi,rfl⟩:=List.mem_map.mp hu
    have:=(ok i hi).be
    show i.2.2.1<=i.2.2.2
    grind
  obtain ⟨_,m1,_⟩:=markAt_ok o h1
  have m0:0<=markAt s.us s.lat s.re t1:=by have:=o.re0; grind
  obtain ⟨mm,cs⟩:=al.went o.tus h1 h2
  have ad:=zgk m0 mm be
  rcases cs with ⟨_,e⟩ | ⟨full,e,_⟩
  · rw [ad,e]
    exact ⟨Rat.le_refl,.inl rfl⟩
  · refine ⟨by rw [ad]; grind,.inr ?_⟩
    exact zlm ok fun i hi=>full _ (List.mem_map.mpr ⟨i,hi,rfl⟩)
theorem WInv.lenG (h:WInv s free T G Qu):tq (T.map wL)=tq (G.map wL)+tq (Qu.map wL):=by
 rw [zmk (h.pm.map wL),List.map_append,zjj]
theorem WInv.begun (h:WInv s free T G Qu) (o:TideOk D B s.lat s.re s.us) {t:Int} (h1:free<=t) (h2:s.lat<=t) (ne:Qu≠[]):∃ i∈Qu,¬ markAt s.us s.lat s.re t<i.2.2.1:=by
 refine Classical.byContradiction fun no=>?_
 have all:∀ i∈Qu,markAt s.us s.lat s.re t<i.2.2.1:=fun i hi=>Classical.byContradiction fun z=>no ⟨i,hi,z⟩
 have w:=h.wk t h1 h2
 generalize hm:markAt s.us s.lat s.re t=m at *
 have mem:∀ i,i∈T↔i∈G\/i∈Qu:=fun i=>by rw [h.pm.mem_iff,List.mem_append]
 rw [zml,zmk (h.pm.map _),List.map_append,zjj] at w
 have z:tq (Qu.map fun i=>(i.2.1.2.2.2:Rat)*ov 0 m (wT i)) = 0:=by
  have:Qu.map (fun i=>(i.2.1.2.2.2:Rat)*ov 0 m (wT i))=Qu.map fun _=>(0:Rat):=List.map_congr_left fun i hi=>by
   have:=all i hi
   rw [zqn (by grind)]
   grind
  rw [this]
  exact ztg Qu
 rw [z] at w
 obtain ⟨u,hu⟩:=List.exists_mem_of_ne_nil _ ne
 obtain ⟨_,m1,_⟩:=markAt_ok o h2
 rw [hm] at m1
 have uT:=(mem u).mpr (.inr hu)
 have ub:=all u hu
 have ue:=(h.ok u uT).be
 have hus:wT u∈s.us:=by
  rcases h.al.sup (wT u) (List.mem_map.mpr ⟨u,uT,rfl⟩) with q | q
  ·exfalso
   have q:u.2.2.2<=s.re:=q
   grind
  ·exact q
 obtain ⟨hd,hh,he⟩:=zey (h.al.ch.on m1) _ (wT u) hus ub (Nat.le_refl _)
 obtain ⟨x1,x2⟩:=List.mem_filter.mp hh
 unfold isHd at x2
 rw [Bool.and_eq_true] at x2
 have hb:¬ m<hd.1:=by simpa using x2.1
 have hl:m<hd.2.1:=by simpa using x2.2
 obtain ⟨v,hv,ev⟩:=List.mem_map.mp (h.al.sub hd x1)
 have vb:¬ m<v.2.2.1:=by rw [<- ev] at hb; exact hb
 have vl:m<v.2.2.2:=by rw [<- ev] at hl; exact hl
 have vG:v∈G:=by
  rcases (mem v).mp hv with q | q
  ·exact q
  ·exact absurd (all v q) vb
 have lt:=ztf (f:=fun i:WI=>(i.2.1.2.2.2:Rat)*ov 0 m (wT i)) (g:=wL) (ov_lt (h.ok v hv) vl) (fun i hi=>ov_le (h.ok i ((mem i).mpr (.inl hi)))) vG
 grind
theorem WInv.goes (h:WInv s free T G Qu) (o:TideOk D B s.lat s.re s.us) {t:Int} (h1:free<=t) (h2:s.lat<=t) {c:WI} (hc:c∈Qu):WInv s (t+c.2.1.2.2.1) T (G++[c]) (Qu.erase c):=by
 have pm:T.Perm ((G++[c])++Qu.erase c):=by
  rw [List.append_assoc]
  exact h.pm.trans ((List.perm_cons_erase hc).append_left G)
 refine ⟨pm,h.ok,h.al,h.en,fun i hi=>h.at_ i (List.mem_of_mem_erase hi),fun t' a b=>?_⟩
 have cT:c∈T:=h.pm.mem_iff.mpr (List.mem_append_right _ hc)
 have l1:=(h.ok c cT).l1
 have w:=h.wk t h1 h2
 obtain ⟨_,cs⟩:=zif h.ok h.al o h2 (show t<=t' by omega)
 have e:tq ((G++[c]).map wL)=tq (G.map wL)+wL c:=by rw [List.map_append,zjj]; show _ + (wL c+0) = _; grind
 rcases cs with q | q
 ·rw [e,q]
  have:wL c<=((t' - t:Int):Rat):=Rat.intCast_le_intCast.mpr (by omega)
  grind
 ·rw [q,zmk (pm.map wL),List.map_append (l₁:=G++[c]),zjj ((G++[c]).map wL)]
  have:0<=tq ((Qu.erase c).map wL):=zqk fun x hx=>by
   obtain ⟨i,hi,rfl⟩:=List.mem_map.mp hx
   have:i∈T:=h.pm.mem_iff.mpr (List.mem_append_right _ (List.mem_of_mem_erase hi))
   exact Rat.intCast_nonneg.mpr (by have:=(h.ok i this).l1; omega)
  grind
theorem WInv.comes (h:WInv s free T G Qu) (o:TideOk D B s.lat s.re s.us) {D' B':Int} {q:Q4} (o':TideOk D' B' (s.come q).lat (s.come q).re (s.come q).us) (hl:s.lat<=q.1) (l1:1<=q.2.2.1) (s1:1<=q.2.2.2) (b0:0<=s.beg q) (pl:Nat) :
    WInv (s.come q) free (T++[(pl,q,s.beg q,s.fin q)]) G (Qu++[(pl,q,s.beg q,s.fin q)]):=by
  have shp:(0:Rat)<(q.2.2.2:Rat):=zbd (by omega)
  have x0:0<(q.2.2.1:Rat) / (q.2.2.2:Rat):=by
    rw [Rat.lt_div_iff shp,Rat.zero_mul]
    exact zbd (by omega)
  obtain ⟨_,m1,_⟩:=markAt_ok o hl
  have rg:s.re<=s.rv q:=m1
  have bg:=(zxh s q).1
  obtain ⟨ch,en⟩:=zog (who:=q.2.1) (len:=q.2.2.1) (sh:=q.2.2.2) rg h.al.ch h.en x0
  have nok:WIok (pl,q,s.beg q,s.fin q):=by
    refine ⟨b0,?_,?_,l1,s1⟩
    · show s.beg q<s.beg q+(q.2.2.1:Rat) / (q.2.2.2:Rat)
      grind
    · show (q.2.2.2:Rat)*(s.beg q+(q.2.2.1:Rat) / (q.2.2.2:Rat)-s.beg q)=(q.2.2.1:Rat)
      have:(q.2.2.2:Rat)≠0:=by grind
      grind
  have al:AllIn ((T++[(pl,q,s.beg q,s.fin q)]).map wT) (s.come q).us (s.come q).re:=by
    rw [List.map_append]
    exact h.al.come rg ch (by show s.rv q<=s.beg q + _; grind)
  have ok:∀ i∈T++[(pl,q,s.beg q,s.fin q)],WIok i:=fun i hi=>by
    rcases List.mem_append.mp hi with z | z
    · exact h.ok i z
    · have:i = _:=List.mem_singleton.mp z
      rw [this]; exact nok
  refine ⟨?_,ok,al,en,fun i hi=>?_,fun t a b=>?_⟩
  · rw [<- List.append_assoc]
    exact h.pm.append_right _
  · rcases List.mem_append.mp hi with z | z
    · have:=h.at_ i z
      show wAt i<=q.1
      omega
    · have:i = _:=List.mem_singleton.mp z
      rw [this]; exact Int.le_refl _
  · have b:q.1<=t:=b
    have w:=h.wk t a (by omega)
    obtain ⟨u1,_⟩:=zif h.ok h.al o hl b
    obtain ⟨_,cs⟩:=zif ok al o' (t1:=q.1) (Int.le_refl _) b
    have e0:markAt (s.come q).us (s.come q).lat (s.come q).re q.1=s.rv q:=zmj o'.tus
    have e1:went 0 (s.rv q) ((T++[(pl,q,s.beg q,s.fin q)]).map wT)=went 0 (s.rv q) (T.map wT):=by
      rw [List.map_append,zhp]
      show _ + ((q.2.2.2:Rat)*ov 0 (s.rv q) (wT (pl,q,s.beg q,s.fin q))+0) = _
      rw [zqn (show s.rv q<=s.beg q from bg)]
      grind
    have e2:markAt s.us s.lat s.re q.1=s.rv q:=rfl
    rw [e0,e1] at cs
    rw [e2] at u1
    rcases cs with z | z
    · rw [z]; grind
    · rw [z,List.map_append,zjj]
      have e3:=h.lenG
      have u2:went 0 (markAt s.us s.lat s.re t) (T.map wT)<=tq (T.map wL):=by
        rw [zml]
        exact tq_le fun i hi=>ov_le (h.ok i hi)
      have:0<=tq ([(pl,q,s.beg q,s.fin q)].map wL):=zqk fun x hx=>by
        have:x = _:=List.mem_singleton.mp hx
        rw [this]; exact Rat.intCast_nonneg.mpr (by show (0:Int)<=q.2.2.1; omega)
      grind
theorem WInv.nil:WInv Ti.nil 0 [] [] []:=⟨.nil,fun i h=>absurd h List.not_mem_nil,AllIn.nil,(fun w e h=>by cases h),fun i h=>absurd h List.not_mem_nil,fun t _ _=>Rat.le_refl⟩
end
def bestF (m:Rat) (i:WI) (c:Option WI):Option WI:=if m<i.2.2.1 then c else match c with | none=>some i | some d=>if i.2.2.2<d.2.2.2 then some i else some d
def nextF (m:Rat):List WI->Option WI->Option WI
 | [],c=>c
 | i :: r,c=>nextF m r (bestF m i c)
theorem zgn {m:Rat}:∀ {l:List WI} {c:Option WI} {x:WI},nextF m l c=some x->(x∈l/\¬ m<x.2.2.1)\/c=some x
 | [],c,x,h=>.inr h
 | i :: r,c,x,h=>by
  have h:nextF m r (bestF m i c)=some x:=h
  rcases zgn h with ⟨a,b⟩ | e
  ·exact .inl ⟨List.mem_cons_of_mem _ a,b⟩
  ·unfold bestF at e
   split at e
   ·exact .inr e
   ·rename_i nb
    cases c with
    | none =>
     have:i=x:=Option.some.inj e
     subst this
     exact .inl ⟨by simp,nb⟩
    | some d =>
     dsimp only at e
     split at e
     ·have:i=x:=Option.some.inj e
      subst this
      exact .inl ⟨by simp,nb⟩
     ·exact .inr e
theorem zjk {m:Rat}:∀ {l:List WI} {c:Option WI},(c.isSome=true\/∃ i∈l,¬ m<i.2.2.1)->∃ x,nextF m l c=some x
 | [],c,h=>by
  rcases h with h | ⟨i,hi,_⟩
  ·exact Option.isSome_iff_exists.mp h
  ·cases hi
 | i :: r,c,h=>by
  show ∃ x,nextF m r (bestF m i c)=some x
  refine zjk ?_
  unfold bestF
  by_cases nb:m<i.2.2.1
  ·rw [if_pos nb]
   rcases h with h | ⟨j,hj,z⟩
   ·exact .inl h
   ·rcases List.mem_cons.mp hj with e | e
    ·subst e; exact absurd nb z
    ·exact .inr ⟨j,e,z⟩
  ·rw [if_neg nb]
   left
   cases c with
   | none=>rfl
   | some d=>dsimp only; split <;> rfl
end Sw
namespace L2
open PySem PySem.Spec PyProof.Rows PySem.MeetsSeq
theorem zut (l:Addr) (items:Array Value) (n:Nat) (x:Value) (e:Nat->Bool) (j:Nat) (hj:j<items.size) (hit:e j=true) (k:Nat) (hs1:items.size<=sizeLine) :
    ∀ i:Nat,j-i=k->i<=j->(∀ m,i<=m->m<j->e m=false)->Meets (Builtin.«list.remove.loop» ⟨[.ref l,x,rawInt i],[]⟩)
      (fun A R s=>(∀ m (hm:m<items.size),m<=j->SeqAt.EqAt A.in1 s items[m] x (e m))/\s.heap.get? l=some { cls:=.type "list", dict:=none,data:=.seq items n,slots:=#[] }/\R (.ok (.ret .none)) { s with heap:=s.heap.update l (Obj.mapSeq fun xs=>xs.eraseIdxIfInBounds j) }):=by
  induction k with
  | zero =>
    intro i hk hij hno prog w A R s h
    obtain ⟨hp,g,d,tk,os⟩:=s; obtain ⟨he,hl,h⟩:=h
    have hij':i=j:=by omega
    subst hij'
    wp_walk using wpAny_loadPart' hl
    have hi:items[((i:Nat):Int).toNat]? = some items[i]:=by simp [hj]
    rw [hi]
    refine wpAny_bind (he i hj (Nat.le_refl _) prog w _ _ ?_)
    rw [hit]
    have hz':(items.eraseIdxIfInBounds i).size<=sizeLine+1:=Nat.le_trans (size_erased items _) (Nat.le_succ_of_le hs1)
    wp_walk using (wpAny_updateSeq hl rfl (hz:=hs1) (_hz':=hz')),wpAny_loadPart' hl
    simpa using h
  | succ k ih =>
    intro i hk hij hno prog w A R s h
    obtain ⟨hp,g,d,tk,os⟩:=s; obtain ⟨he,hl,h⟩:=h
    have hlt:i<items.size:=by omega
    wp_walk using wpAny_loadPart' hl
    have hi:items[((i:Nat):Int).toNat]? = some items[i]:=by simp [hlt]
    have hc:((i:Int)+1)=((i+1:Nat):Int):=by push_cast; rfl
    rw [hi]
    refine wpAny_bind (he i hlt hij prog w _ _ ?_)
    rw [hno i (Nat.le_refl _) (by omega)]
    wp_walk
    rw [hc]
    exact ⟨plainId_quiet plain_remove_loop _,codeAny_builtin entry_remove_loop (by
      rw [Around.under_plainId plain_remove_loop _]
      exact ih (i+1) (by omega) (by omega) (fun m h1 h2=>hno m (by omega) h2) prog w A R _ ⟨he,hl,h⟩)⟩
theorem zrz (l:Addr) (items:Array Value) (n:Nat) (x:Value) (e:Nat->Bool) (j:Nat) (hj:j<items.size) (hit:e j=true) (hno:∀ m,m<j->e m=false) (hs1:items.size<=sizeLine) :
    Meets (Builtin.«list.remove» ⟨[.ref l,x],[]⟩)
      (fun A R s=>(∀ m (hm:m<items.size),m<=j->SeqAt.EqAt A.in1 s items[m] x (e m))/\s.heap.get? l=some { cls:=.type "list", dict:=none,data:=.seq items n,slots:=#[] }/\R (.ok (.ret .none)) { s with heap:=s.heap.update l (Obj.mapSeq fun xs=>xs.eraseIdxIfInBounds j) }):=by
  intro prog w A R s h
  obtain ⟨hp,g,d,tk,os⟩:=s; obtain ⟨he,hl,h⟩:=h
  wp_walk using wpAny_loadPart' hl
  exact ⟨plainId_quiet plain_remove_loop _,codeAny_builtin entry_remove_loop (by
    rw [Around.under_plainId plain_remove_loop _]
    exact zut l items n x e j hj hit _ hs1 0 rfl (Nat.zero_le _) (fun m _ h2=>hno m h2) prog w A R _ ⟨he,hl,h⟩)⟩
def zuu (K:PySem.W.Frag):V->List V->Hp->VK->Prop:=fun x vs H Q=>∃ l xs y j d ds,x = .ref l/\vs = [y]/\H l=some (.lst xs)/\xs.length<sizeLine/\j<xs.length/\Deep K H y d/\PySem.SeqAt.shaped d=true/\DeepAll K H (xs.take (j+1)) ds/\(∀ e∈ds,PySem.SeqAt.shaped e=true) /\
 ds[j]?.map (fun e=>PyData.eqv e d)=some true/\(∀ m e,m<j->ds[m]? = some e->PyData.eqv e d=false)/\Q .non (upd H l (.lst (xs.eraseIdx j)))
theorem zkl:∀ {xs:List V} {us:List Value} {m:Nat} {u:Value},Vals xs us->us[m]? = some u->∃ x,xs[m]? = some x/\RelV x u
 | _,_,0,u,.cons r _,h=>by
  have:_=u:=Option.some.inj h
  subst this
  exact ⟨_,rfl,r⟩
 | _,_,m+1,u,.cons _ t,h=>by
  obtain ⟨x,h1,h2⟩:=zkl (m:=m) t (by simpa using h)
  exact ⟨x,by simpa using h1,h2⟩
theorem zig {K:PySem.W.Frag} {H:Hp}:∀ {xs:List V} {ds:List PyData} {m:Nat} {x:V},DeepAll K H xs ds->xs[m]? = some x->∃ d,ds[m]? = some d/\Deep K H x d
 | _,_,0,x,.cons r _,h=>by
  have:_=x:=Option.some.inj h
  subst this
  exact ⟨_,rfl,r⟩
 | _,_,m+1,x,.cons _ t,h=>by
  obtain ⟨d,h1,h2⟩:=zig (m:=m) t (by simpa using h)
  exact ⟨d,by simpa using h1,h2⟩
theorem zjl:∀ {xs:List V} {us:List Value} (j:Nat),Vals xs us->Vals (xs.eraseIdx j) (us.eraseIdx j)
 | _,_,_,.nil=>.nil
 | _,_,0,.cons _ t=>t
 | _,_,j+1,.cons r t=>.cons r (zjl j t)
section
variable {X:Cx}
theorem zqo (K:PySem.W.Frag) (h:X.K=K) (hu:X.A.units+66<cLine):MtM X "list.remove" (zuu K):=by
 subst h
 intro pins s σ H x vs v us Q I rx rv h
 obtain ⟨l,xs,y,j,d,ds,rfl,rfl,hH,hz,hj,dy,sy,dx,sx,hit,hno,q⟩:=h
 cases rx
 obtain ⟨u,rfl,ru⟩:=rv.one
 obtain ⟨z,its,n,r,hl,e⟩:=I.lstM hH
 have len:=r.length
 obtain ⟨as,ra⟩:=zck I dy ru
 have eq:∀ m (hm:m<its.toArray.size),m<=j->SeqAt.EqAt X.A.in1 s its.toArray[m] u ((ds[m]?.map fun e=>PyData.eqv e d).getD false):=fun m hm hmj=>by
  have hm2:m<its.length:=by simpa using hm
  have e1:its[m]? = some its.toArray[m]:=by rw [List.getElem?_eq_getElem hm2]; simp
  obtain ⟨x,h1,h2⟩:=zkl r e1
  have h3:(xs.take (j+1))[m]? = some x:=by rw [List.getElem?_take,if_pos (by omega)]; exact h1
  obtain ⟨e',h4,h5⟩:=zig dx h3
  obtain ⟨bs,rb⟩:=zck I h5 h2
  have se:=sx e' (List.mem_of_getElem? h4)
  rw [h4]
  exact SeqAt.eqAt_reads e' d X.A.in1 s _ _ bs as rb ra (PySem.SeqAt.canLay_of_shaped se) (PySem.SeqAt.canLay_of_shaped sy) (PySem.SeqAt.room_of_shaped se (by show X.A.units+1+64<cLine; omega))
 have hit':(ds[j]?.map fun e=>PyData.eqv e d).getD false=true:=by rw [hit]; rfl
 have hno':∀ m,m<j->(ds[m]?.map fun e=>PyData.eqv e d).getD false=false:=fun m hm=>by
  cases c:ds[m]? with
  | none=>rfl
  | some e=>exact hno m e hm c
 refine call_meets F.slot_list_remove ⟨_,e,rfl⟩ F.entry_list_remove (F.args_list_remove_2 _ _) (zrz l its.toArray n u (fun m=>(ds[m]?.map fun e=>PyData.eqv e d).getD false) j (by rw [List.size_toArray]; omega) hit' hno' (by rw [List.size_toArray]; omega)) ⟨eq,e,?_⟩
 refine ⟨.non,_,I.lset (its':=its.eraseIdx j) hH e ?_ (zjl j r) ?_,rfl,q⟩
 ·simp [Array.eraseIdxIfInBounds]
  exact fun c=>absurd c (by omega)
 ·rw [List.length_eraseIdx]
  split <;> omega
end
end L2
namespace L2
open PySem PySem.Spec PyProof.Rows
theorem Room.units66 {k:Nat} {A:Around} (r:Room k A):A.units+66<cLine:=by have:=r.un; omega
def zxi (K:PySem.W.Frag):List V->Hp->VK->Prop:=fun xs H Q=>∃ (p:Addr) (ns:List Int),xs = [.ref p]/\SqL K H p (ns.map V.int)/\ns.length<64/\∀ (l:Addr) (ns':List Int),H l=none->ns'.Perm ns->ns'.Pairwise (·<=·)->Q (.ref l) (upd H l (.lst (ns'.map V.int)))
section
variable {X:Cx}
theorem zjm (K:PySem.W.Frag) (h:X.K=K):CallR X (.builtin "sorted") (zxi K):=by
 subst h
 intro pins s σ H xs us Q I r h
 obtain ⟨p,ns,rfl,hq,h64,q⟩:=h
 obtain ⟨u,rfl,ru⟩:=vals1 r
 cases (show u=Value.ref p from ru)
 obtain ⟨its,rv,hp,hz⟩:=I.list hq
 have hi:=zgt rv
 refine sorted_ints hp.isList hi (by rw [hi.length]; exact h64) fun out ns' h1 h2 h3=>?_
 obtain ⟨e,he⟩:=sortedAll_at s.heap its out
 have ln:ns'.length=ns.length:=h2.length_eq
 have new:ObjOk X.prog X.w (upd H (s.heap.objs.size+1) (.lst (ns'.map V.int))) (sortedAll s.heap its out) (s.heap.objs.size+1) (.lst (ns'.map V.int)) :=
  ⟨by rw [List.length_map,ln,sizeLine_eq]; omega,out.toList,e,zia h1,by rw [Array.toArray_toList]; exact he⟩
 exact ⟨.ref (s.heap.objs.size+1),_,I.laid (t':=s.toks) (fun b o q=>sortedAll_old q) (Nat.le_succ _) new,rfl,q _ _ (I.hok.fresh (Nat.le_succ _)) h2 h3⟩
end
end L2
namespace Sw
open L2
abbrev WS:=Int×List WI×List (Nat×Int)
def ctime (free:Int):List WI->Int
 | []=>free
 | i :: _=>if wAt i > free then wAt i else free
def pickF (s:Ti) (x:WS):Option WI:=nextF (markAt s.us s.lat s.re (ctime x.1 x.2.1)) x.2.1 none
def goF (s:Ti) (x:WS):WS:=match pickF s x with
 | some c=>(ctime x.1 x.2.1+c.2.1.2.2.1,x.2.1.erase c,x.2.2++[(c.1,ctime x.1 x.2.1)])
 | none=>x
def goOn (lim:Option Int) (x:WS):Prop:=x.2.1≠[]/\∀ a,lim=some a->ctime x.1 x.2.1<a
instance (lim:Option Int) (x:WS):Decidable (goOn lim x):=by
 unfold goOn
 cases lim with
 | none=>exact decidable_of_iff (x.2.1≠[]) ⟨fun h=>⟨h,fun a e=>by cases e⟩,fun h=>h.1⟩
 | some b=>exact decidable_of_iff (x.2.1≠[]/\ctime x.1 x.2.1<b) ⟨fun h=>⟨h.1,fun a e=>by cases e; exact h.2⟩,fun h=>⟨h.1,h.2 b rfl⟩⟩
def runF (s:Ti) (lim:Option Int):Nat->WS->WS
 | 0,x=>x
 | n+1,x=>if goOn lim x then runF s lim n (goF s x) else x
structure WOk (s:Ti) (T:List WI) (G:List WI) (x:WS):Prop where
 iv:WInv s x.1 T G x.2.1
 nd:(x.2.1.map (·.1)).Nodup
 tl:x.2.1≠[]->s.lat<=ctime x.1 x.2.1
 f0:0<=x.1
section
variable {s:Ti} {T G:List WI} {x:WS} {D B:Int}
theorem zfm (free:Int) (l:List WI):free<=ctime free l:=by
 cases l with
 | nil=>exact Int.le_refl _
 | cons i r =>
  show free<=if wAt i > free then wAt i else free
  split <;> omega
theorem WOk.pick (w:WOk s T G x) (o:TideOk D B s.lat s.re s.us) (ne:x.2.1≠[]):∃ c,pickF s x=some c/\c∈x.2.1:=by
 obtain ⟨i,hi,nb⟩:=w.iv.begun o (zfm _ _) (w.tl ne) ne
 obtain ⟨c,hc⟩:=zjk (m:=markAt s.us s.lat s.re (ctime x.1 x.2.1)) (l:=x.2.1) (c:=none) (.inr ⟨i,hi,nb⟩)
 refine ⟨c,hc,?_⟩
 rcases zgn hc with ⟨a,_⟩ | e
 ·exact a
 ·cases e
theorem zsa:∀ {l:List WI} {c:WI},(l.map (·.1)).Nodup->((l.erase c).map (·.1)).Nodup:=fun {l c} h=>by
 have:((l.erase c).map (·.1)).Sublist (l.map (·.1)):=(List.erase_sublist).map _
 exact this.nodup h
theorem WOk.step (w:WOk s T G x) (o:TideOk D B s.lat s.re s.us) (ne:x.2.1≠[]):∃ c,c∈x.2.1/\pickF s x=some c/\WOk s T (G++[c]) (goF s x)/\(goF s x).2.1.length+1=x.2.1.length:=by
 obtain ⟨c,hc,cm⟩:=w.pick o ne
 have e:goF s x=(ctime x.1 x.2.1+c.2.1.2.2.1,x.2.1.erase c,x.2.2++[(c.1,ctime x.1 x.2.1)]):=by unfold goF; rw [hc]
 have cT:c∈T:=w.iv.pm.mem_iff.mpr (List.mem_append_right _ cm)
 have l1:=(w.iv.ok c cT).l1
 have f0:=w.f0
 have cg:=zfm x.1 x.2.1
 refine ⟨c,cm,hc,?_,?_⟩
 ·rw [e]
  refine ⟨w.iv.goes o (zfm _ _) (w.tl ne) cm,zsa w.nd,fun _=>?_,?_⟩
  ·have a:=zfm (ctime x.1 x.2.1+c.2.1.2.2.1) (x.2.1.erase c)
   have b:=w.tl ne
   show s.lat<=ctime (ctime x.1 x.2.1+c.2.1.2.2.1) (x.2.1.erase c)
   omega
  ·show 0<=ctime x.1 x.2.1+c.2.1.2.2.1
   omega
 ·rw [e]
  show (x.2.1.erase c).length+1=x.2.1.length
  rw [List.length_erase_of_mem cm]
  have:=List.length_pos_of_mem cm
  omega
theorem WOk.comes (w:WOk s T G x) (o:TideOk D B s.lat s.re s.us) {D' B':Int} {q:Q4} (o':TideOk D' B' (s.come q).lat (s.come q).re (s.come q).us) (hl:s.lat<=q.1) (l1:1<=q.2.2.1) (s1:1<=q.2.2.2) (b0:0<=s.beg q) {pl:Nat} (np:∀ i∈x.2.1,i.1≠pl) (en:¬ goOn (some q.1) x) :
    WOk (s.come q) (T++[(pl,q,s.beg q,s.fin q)]) G (x.1,x.2.1++[(pl,q,s.beg q,s.fin q)],x.2.2):=by
  refine ⟨w.iv.comes o o' hl l1 s1 b0 pl,?_,fun _=>?_,w.f0⟩
  · rw [List.map_append]
    refine List.nodup_append.mpr ⟨w.nd,by simp,fun a ha b hb=>?_⟩
    obtain ⟨i,hi,rfl⟩:=List.mem_map.mp ha
    have:b=pl:=by simpa using hb
    subst this
    exact np i hi
  · show q.1<=ctime x.1 (x.2.1++[(pl,q,s.beg q,s.fin q)])
    cases c:x.2.1 with
    | nil =>
      show q.1<=if q.1 > x.1 then q.1 else x.1
      split <;> omega
    | cons i r =>
      have:¬ ctime x.1 x.2.1<q.1:=fun z=>en ⟨by rw [c]; simp,fun a e=>by cases e; exact z⟩
      rw [c] at this
      show q.1<=ctime x.1 (i :: r)
      omega
theorem WOk.nil:WOk Ti.nil [] [] (0,[],[]):=⟨WInv.nil,by simp,fun z=>absurd rfl z,Int.le_refl _⟩
theorem runF_go {lim:Option Int} {n:Nat} (h:goOn lim x):runF s lim (n+1) x=runF s lim n (goF s x):=by
 show (if goOn lim x then runF s lim n (goF s x) else x) = _
 rw [if_pos h]
theorem runF_stop {lim:Option Int} (h:¬ goOn lim x):∀ n,runF s lim n x=x
 | 0=>rfl
 | n+1=>by
  show (if goOn lim x then runF s lim n (goF s x) else x) = _
  rw [if_neg h]
end
theorem nextF_snoc {m:Rat} {i:WI}:∀ {l:List WI} {c:Option WI},nextF m (l++[i]) c=bestF m i (nextF m l c)
 | [],c=>rfl
 | j :: r,c=>nextF_snoc (l:=r)
theorem erase_idx:∀ {l:List WI} {c:WI} {k:Nat},(l.map (·.1)).Nodup->l[k]? = some c->l.erase c=l.eraseIdx k
 | [],c,k,_,h=>by simp at h
 | i :: r,c,0,_,h=>by
  have:i=c:=by simpa using h
  subst this
  simp
 | i :: r,c,k+1,nd,h=>by
  have h:r[k]? = some c:=by simpa using h
  rw [List.map_cons,List.nodup_cons] at nd
  have ne:i≠c:=fun e=>nd.1 (by rw [e]; exact List.mem_map.mpr ⟨c,List.mem_of_getElem? h,rfl⟩)
  rw [List.erase_cons_tail (by simpa using ne),List.eraseIdx_cons_succ,erase_idx nd.2 h]
end Sw
namespace L2
open PySem PySem.Spec PyProof.Rows
structure SrcD (K:PySem.W.Frag) (mg:Str->Option Value) (x:Str) (st:Stmt) (ps:List Str) (dss:List (List V)):Prop where
 ex:∃ (f:Addr) (fd:FuncData),FunE K x x st f fd/\(∀ dvs∈dss,BindsV K fd ps dvs)/\PySem.W.keepIn K (.ref f)=true/\mg x=some (.ref f)
structure DefD (P:Program) (w:World) (K:PySem.W.Frag) (mg:Str->Option Value) (base:Heap) (CX:CXT) (k:Nat) (x:Str) (ps:List Str) (dss:List (List V)) (sp:Sp):Prop where
 ex:∃ (f:Addr) (fd:FuncData),FnOk P w K mg base CX k f fd ps sp/\(∀ dvs∈dss,BindsV K fd ps dvs)/\PySem.W.keepIn K (.ref f)=true/\mg x=some (.ref f)
theorem SrcD.okN {P:Program} {w:World} {K:PySem.W.Frag} {mg:Str->Option Value} {base:Heap} {CX:CXT} {x:Str} {st:Stmt} {N ps:List Str} {dss:List (List V)} {k:Nat} {sp:Sp} (F:SrcD K mg x st ps dss) (S:FnScope N ps (zag st)) (len:∀ vs H Q E,sp vs H Q E->vs.length=ps.length)
    (hbody:∀ (f:Addr) (cdv:Value) (A:Around) (outer:List Env) (s:Shared) (H:Hp) (vs:List V) (Q:VK) (E:XK),Room k (A.deeper (envOfC x (zag st) s.heap.objs.size f cdv))->sp vs H Q E ->
      ∃ t,PSs (cxOf CX P w K mg base N x (zag st) f cdv A outer s H E).nox (zar st) t/\t { nx:=fun _ H'=>Q .non H',rt:=Q } (start N vs) H):DefD P w K mg base CX (k+1) x ps dss sp:=by
  obtain ⟨f,fd,F,b,kp,m⟩:=F.ex
  obtain ⟨oc,od,dV,kV,doc,pm,an,cdv,ct,osl,rfl,lk,hcd⟩:=F.ex
  exact ⟨f,_,fn_of lk hcd S len fun A outer s H vs Q E hr hsp=>by
    obtain ⟨t,h,q⟩:=hbody f cdv A outer s H vs Q E hr hsp
    exact ⟨t,h.nox,q⟩,b,kp,m⟩
theorem zfh {X:Cx} {CX:CXT} {k:Nat} {x:Str} {ps:List Str} {dvs:List V} {dss:List (List V)} {sp:Sp} {Ek:XH} {p pos:Pos} {e:Expr} {es:List Expr} {t:TA} (D:DefD X.prog X.w X.K X.mg X.base CX k x ps dss sp) (hin:dvs∈dss) (hr:Room k X.A) (hg:Gl X x) (hx:zeu CX X Ek) (ha:PA X (e :: es) t)
    (hdb:(x == ("__debug__" : Str))=false:=by decide) (he:starEach (e :: es) X.env=(false,eval e X.env) :: starEach es X.env:=by rfl) (hpl:(backTo pos (starEach es X.env)).any (·.1)=false:=by rfl) :
    PE X (.Call (.Name x p) (e :: es) [] pos) (tCallX (fun vs=>sp (vs++dvs)) Ek t):=by
  obtain ⟨f,fd,F,hb,hk,hm⟩:=D.ex
  intro pins s σ H Q I h
  refine wpAny_Call_Name_kw (zhs I hg hm ?_ hdb)
  exact PySem.W.callWith_K (h₀:=X.base) I.ok.mod.kin hk (thn (ha pos pins s σ H _ I h) fun us s1 ⟨vs,H1,I1,r,q⟩=>⟨I1.kIn,zmh F hr (hb _ hin) hx I1 r q⟩) he hpl
end L2
namespace Sw
open L2
def dealS (qs:List Q4):Nat->WS
 | 0=>(0,[],[])
 | k+1=>match qs[k]? with
  | some q=>((runF (Ti.nil.after (qs.take k)) (some q.1) (dealS qs k).2.1.length (dealS qs k)).1,(runF (Ti.nil.after (qs.take k)) (some q.1) (dealS qs k).2.1.length (dealS qs k)).2.1++[(k,q,(Ti.nil.after (qs.take k)).beg q,(Ti.nil.after (qs.take k)).fin q)],(runF (Ti.nil.after (qs.take k)) (some q.1) (dealS qs k).2.1.length (dealS qs k)).2.2)
  | none=>dealS qs k
structure DI (n:Nat) (M:Int) (c:Nat) (s:Ti) (k:Nat) (T G:List WI) (D:Int) (x:WS):Prop where
 ro:RunOk n M c s k D
 wo:WOk s T G x
 ln:x.2.1.length+x.2.2.length=k
 zi:∀ i∈x.2.1,SzQ 2000 i.2.2.1/\SzQ 2000 i.2.2.2
 tb:∀ i∈x.2.1,0<=wAt i/\wAt i<100000000000000/\i.2.1.2.2.1<=1000000
 pl:∀ i∈x.2.1,i.1<k
 fb:x.1+1000000*x.2.1.length<=100000000000000+1000000*k
section
variable {n:Nat} {M:Int} {a c:Nat} {s:Ti} {k:Nat} {T G:List WI} {D:Int} {x:WS}
end
end Sw
namespace Sw
open L2
def lenAt (qs:List Q4) (p:Nat):Int:=((qs[p]?).map fun q=>q.2.2.1).getD 0
def zih (qs:List Q4) (gn:List (Nat×Int)):Int:=match gn.getLast? with
 | none=>0
 | some g=>g.2+lenAt qs g.1
theorem zii {m:Rat}:∀ {l:List WI} {c:Option WI} {x:WI},nextF m l c=some x->(∀ i∈l,¬ m<i.2.2.1->x.2.2.2<=i.2.2.2)/\∀ d,c=some d->x.2.2.2<=d.2.2.2
  | [],c,x,h=>⟨fun i hi=>absurd hi List.not_mem_nil,fun d e=>by
      have h:c=some x:=h
      rw [e] at h
      cases h
      exact Rat.le_refl⟩
  | i :: r,c,x,h=>by
    have h:nextF m r (bestF m i c)=some x:=h
    obtain ⟨a,b⟩:=zii h
    have key:(¬ m<i.2.2.1->x.2.2.2<=i.2.2.2)/\∀ d,c=some d->x.2.2.2<=d.2.2.2:=by
      unfold bestF at b
      by_cases nb:m<i.2.2.1
      · rw [if_pos nb] at b
        exact ⟨fun z=>absurd nb z,b⟩
      · rw [if_neg nb] at b
        cases c with
        | none=>exact ⟨fun _=>b i rfl,fun d e=>by cases e⟩
        | some d =>
          dsimp only at b
          by_cases lt:i.2.2.2<d.2.2.2
          · rw [if_pos lt] at b
            have:=b i rfl
            exact ⟨fun _=>this,fun d' e=>by cases e; grind⟩
          · rw [if_neg lt] at b
            have:=b d rfl
            exact ⟨fun _=>by grind,fun d' e=>by cases e; exact this⟩
    refine ⟨fun j hj nb=>?_,key.2⟩
    rcases List.mem_cons.mp hj with e | e
    · subst e; exact key.1 nb
    · exact a j e nb
section
variable {n:Nat} {M:Int} {a c:Nat} {qs:List Q4} {s:Ti} {k:Nat} {T G:List WI} {D:Int} {x:WS}
end
end Sw
namespace Sw
open L2
def pileF (l:List WI) (w:Int):Int:=(l.map fun i=>if i.2.1.2.1=w then i.2.1.2.2.1 else 0).sum
def overF (rm:Int->Option Int) (l:List WI) (q:Q4):Bool:=match rm q.2.1 with
 | none=>false
 | some r=>decide (pileF l q.2.1+q.2.2.1 > r)
def dealR1 (rm:Int->Option Int) (k:Nat) (q:Q4) (z:Ti×WS×List Nat):Ti×WS×List Nat :=
 let y:=runF z.1 (some q.1) z.2.1.2.1.length z.2.1
 if overF rm y.2.1 q then (z.1,y,z.2.2++[k]) else (z.1.come q,(y.1,y.2.1++[(k,q,z.1.beg q,z.1.fin q)],y.2.2),z.2.2)
def dealR (rm:Int->Option Int) (qs:List Q4):Nat->Ti×WS×List Nat
 | 0=>(Ti.nil,(0,[],[]),[])
 | k+1=>match qs[k]? with
  | some q=>dealR1 rm k q (dealR rm qs k)
  | none=>dealR rm qs k
theorem dealR_go {rm:Int->Option Int} {qs:List Q4} {k:Nat} {q:Q4} (e:qs[k]? = some q):dealR rm qs (k+1)=dealR1 rm k q (dealR rm qs k):=by
 rw [dealR,e]
def dealtR (rm:Int->Option Int) (qs:List Q4):WS:=runF (dealR rm qs qs.length).1 none (dealR rm qs qs.length).2.1.2.1.length (dealR rm qs qs.length).2.1
def droppedR (rm:Int->Option Int) (qs:List Q4):List Nat:=(dealR rm qs qs.length).2.2
structure DR (n:Nat) (M:Int) (c:Nat) (s:Ti) (t k:Nat) (T G:List WI) (D:Int) (x:WS):Prop where
 ro:RunOk n M c s t D
 wo:WOk s T G x
 ln:x.2.1.length+x.2.2.length=t
 zi:∀ i∈x.2.1,SzQ 2000 i.2.2.1/\SzQ 2000 i.2.2.2
 tb:∀ i∈x.2.1,0<=wAt i/\wAt i<100000000000000/\i.2.1.2.2.1<=1000000
 pl:∀ i∈x.2.1,i.1<k
 fb:x.1+1000000*x.2.1.length<=100000000000000+1000000*t
section
variable {n:Nat} {M:Int} {a c:Nat} {s:Ti} {t k:Nat} {T G:List WI} {D:Int} {x:WS}
theorem DR.step (h:DR n M c s t k T G D x) (ne:x.2.1≠[]):∃ G',DR n M c s t k T G' D (goF s x)/\(goF s x).2.1.length+1=x.2.1.length:=by
 obtain ⟨d,cm,hc,w,l⟩:=h.wo.step h.ro.ok ne
 have e:goF s x=(ctime x.1 x.2.1+d.2.1.2.2.1,x.2.1.erase d,x.2.2++[(d.1,ctime x.1 x.2.1)]):=by unfold goF; rw [hc]
 have ln:=h.ln
 obtain ⟨_,_,cb⟩:=h.tb d cm
 have fb:=h.fb
 refine ⟨G++[d],⟨h.ro,w,?_,?_,?_,?_,?_⟩,l⟩
 ·rw [e] at l ⊢
  have l:(x.2.1.erase d).length+1=x.2.1.length:=l
  show (x.2.1.erase d).length+(x.2.2++[(d.1,ctime x.1 x.2.1)]).length=t
  rw [List.length_append]
  simp only [List.length_cons,List.length_nil]
  omega
 ·rw [e]; exact fun i hi=>h.zi i (List.mem_of_mem_erase hi)
 ·rw [e]; exact fun i hi=>h.tb i (List.mem_of_mem_erase hi)
 ·rw [e]; exact fun i hi=>h.pl i (List.mem_of_mem_erase hi)
 ·rw [e] at l ⊢
  have l:(x.2.1.erase d).length+1=x.2.1.length:=l
  show ctime x.1 x.2.1+d.2.1.2.2.1+1000000*((x.2.1.erase d).length:Int)<=_
  have:ctime x.1 x.2.1<=100000000000000+1000000*t-1000000*(x.2.1.length:Int):=by
   cases q:x.2.1 with
   | nil=>exact absurd q ne
   | cons i r =>
    have ti:=h.tb i (by rw [q]; simp)
    rw [q] at fb ln
    show (if wAt i > x.1 then wAt i else x.1)<=_
    split <;> omega
  omega
theorem DR.run (lim:Option Int):∀ (m:Nat) {G:List WI} {x:WS},DR n M c s t k T G D x->x.2.1.length<=m->∃ G',DR n M c s t k T G' D (runF s lim m x)/\¬ goOn lim (runF s lim m x)
 | 0,G,x,w,h=>⟨G,w,fun z=>z.1 (List.eq_nil_of_length_eq_zero (by show x.2.1.length = 0; omega))⟩
 | m+1,G,x,w,h=>by
  unfold runF
  by_cases d:goOn lim x
  ·rw [if_pos d]
   obtain ⟨G',w',l⟩:=w.step d.1
   exact DR.run lim m w' (by omega)
  ·rw [if_neg d]
   exact ⟨G,w,d⟩
theorem DR.next (h:DR n M c s t k T G D x):DR n M c s t (k+1) T G D x:=⟨h.ro,h.wo,h.ln,h.zi,h.tb,fun i hi=>Nat.lt_succ_of_lt (h.pl i hi),h.fb⟩
theorem DR.comes (F:Fit n M a c) (h:DR n M c s t k T G D x) {q:Q4} (hk:t<n) (p:PcOk M q) (hl:s.lat<=q.1) (en:¬ goOn (some q.1) x) :
    ∃ D',DR n M c (s.come q) (t+1) (k+1) (T++[(k,q,s.beg q,s.fin q)]) G D' (x.1,x.2.1++[(k,q,s.beg q,s.fin q)],x.2.2):=by
  obtain ⟨D',j,_,_,ro,g1,g2,b0,be,eB⟩:=h.ro.come F hk p hl
  obtain ⟨p0,p1,n1,n2,s1,s2⟩:=p
  have ln:=h.ln
  have fb:=h.fb
  refine ⟨D',ro,h.wo.comes h.ro.ok ro.ok hl n1 s1 b0 (fun i hi=>by have:=h.pl i hi; omega) en,?_,fun i hi=>?_,fun i hi=>?_,fun i hi=>?_,?_⟩
  · show (x.2.1++[(k,q,s.beg q,s.fin q)]).length+x.2.2.length=t+1
    rw [List.length_append]
    simp only [List.length_cons,List.length_nil]
    omega
  · rcases List.mem_append.mp hi with z | z
    · exact h.zi i z
    · have:i = _:=List.mem_singleton.mp z
      rw [this]
      exact ⟨(ro.ok.gb.szB g1 b0 (by grind)).mono (by decide),(ro.ok.gb.szB g2 (by grind) eB).mono (by decide)⟩
  · rcases List.mem_append.mp hi with z | z
    · exact h.tb i z
    · have:i = _:=List.mem_singleton.mp z
      rw [this]; exact ⟨p0,p1,n2⟩
  · rcases List.mem_append.mp hi with z | z
    · have:=h.pl i z; omega
    · have:i = _:=List.mem_singleton.mp z
      rw [this]; exact Nat.lt_succ_self k
  · show x.1+1000000*((x.2.1++[(k,q,s.beg q,s.fin q)]).length:Int)<=_
    rw [List.length_append]
    simp only [List.length_cons,List.length_nil]
    omega
theorem DR.nil:DR n M c Ti.nil 0 0 [] [] 1 (0,[],[]):=⟨RunOk.nil,WOk.nil,rfl,fun i h=>absurd h List.not_mem_nil,fun i h=>absurd h List.not_mem_nil,fun i h=>absurd h List.not_mem_nil,by decide⟩
end
theorem dealR_ok {n:Nat} {M:Int} {a c:Nat} {rm:Int->Option Int} {qs:List Q4} (g:Good n M a c qs):∀ {k:Nat},k<=qs.length->∃ t T G D,t<=k/\DR n M c (dealR rm qs k).1 t k T G D (dealR rm qs k).2.1/\(∀ j q,k<=j->qs[j]? = some q->(dealR rm qs k).1.lat<=q.1)/\t+(dealR rm qs k).2.2.length=k
 | 0,_=>⟨0,[],[],1,Nat.le_refl _,DR.nil,fun j q _ hq=>(g.pc q (List.mem_of_getElem? hq)).1,rfl⟩
 | k+1,hk=>by
  obtain ⟨t,T,G,D,tk,h,hl,le⟩:=dealR_ok (rm:=rm) g (k:=k) (by omega)
  have e:qs[k]? = some (qs[k]'(by omega)):=List.getElem?_eq_getElem _
  generalize qs[k]'(by omega)=q at e
  obtain ⟨G',h',en⟩:=h.run (some q.1) _ (Nat.le_refl _)
  rw [dealR_go e]
  unfold dealR1
  dsimp only
  by_cases o:overF rm (runF (dealR rm qs k).1 (some q.1) (dealR rm qs k).2.1.2.1.length (dealR rm qs k).2.1).2.1 q=true
  ·rw [if_pos o]
   refine ⟨t,T,G',D,by omega,h'.next,fun j q' hj hq'=>hl j q' (by omega) hq',?_⟩
   show t+((dealR rm qs k).2.2++[k]).length=k+1
   rw [List.length_append]
   simp only [List.length_cons,List.length_nil]
   omega
  ·rw [if_neg o]
   obtain ⟨D',h2⟩:=h'.comes g.F (by have:=g.ln; omega) (g.pc q (List.mem_of_getElem? e)) (hl k q (Nat.le_refl _) e) en
   refine ⟨t+1,_,G',D',by omega,h2,fun j q' hj hq'=>?_,by show t+1+(dealR rm qs k).2.2.length=k+1; omega⟩
   show q.1<=q'.1
   have:=g.pw
   rw [List.pairwise_iff_getElem] at this
   have b1:=(List.getElem?_eq_some_iff.mp e)
   have b2:=(List.getElem?_eq_some_iff.mp hq')
   have:=this k j b1.1 b2.1 (by omega)
   rw [b1.2,b2.2] at this
   exact this
end Sw
namespace Sw
open L2
def zcq (T:List WI):Ti:=Ti.nil.after (T.map fun i=>i.2.1)
inductive LP (T:List WI):List (Nat×Int)->Nat->List WI->Prop
  | nil:LP T [] 0 []
  | go {gs:List (Nat×Int)} {t t':Nat} {Q:List WI} {g:Nat×Int} {c:WI}:LP T gs t Q->t<=t'->t'<=T.length->(∀ i∈(T.take t').drop t,wAt i<=g.2)->(∀ i,T[t']? = some i->g.2<wAt i) ->
      nextF (markAt (zcq (T.take t')).us (zcq (T.take t')).lat (zcq (T.take t')).re g.2) (Q++(T.take t').drop t) none=some c->c.1=g.1->LP T (gs++[g]) t' ((Q++(T.take t').drop t).erase c)
theorem LP.more {T:List WI} {i:WI}:∀ {gs:List (Nat×Int)} {t:Nat} {Q:List WI},LP T gs t Q->(∀ g∈gs,g.2<wAt i)->LP (T++[i]) gs t Q
 | _,_,_,.nil,_=>.nil
 | _,_,_,.go (t:=t) (t':=t') (g:=g) h a b c d e f,hg=>by
  have et:(T++[i]).take t'=T.take t':=List.take_append_of_le_length b
  rw [<- et] at c e ⊢
  refine .go (h.more fun g' hg'=>hg g' (List.mem_append.mpr (.inl hg'))) a (by rw [List.length_append]; omega) c (fun j hj=>?_) e f
  by_cases lt:t' < T.length
  ·rw [List.getElem?_append_left lt] at hj
   exact d j hj
  ·have:t'=T.length:=by omega
   rw [this] at hj
   have:i=j:=by simpa using hj
   rw [<- this]
   exact hg g (List.mem_append.mpr (.inr (List.mem_singleton.mpr rfl)))
structure JR (T:List WI) (s:Ti) (x:WS):Prop where
 td:s=zcq T
 ex:∃ t Q,LP T x.2.2 t Q/\t<=T.length/\x.2.1=Q++T.drop t
 mo:x.2.2.Pairwise (fun a b=>a.2<=b.2)
 fr:∀ g∈x.2.2,g.2<=x.1
 bd:∀ g∈x.2.2,g.2<1000000000000000
section
variable {n:Nat} {M:Int} {a c:Nat} {s:Ti} {t k:Nat} {T G:List WI} {D:Int} {x:WS}
theorem JR.step (hn:n<=60) (h:DR n M c s t k T G D x) (j:JR T s x) (ne:x.2.1≠[]):∃ G',DR n M c s t k T G' D (goF s x)/\JR T s (goF s x)/\(goF s x).2.1.length+1=x.2.1.length/\∃ g,(goF s x).2.2=x.2.2++[g]/\g.2=ctime x.1 x.2.1:=by
 obtain ⟨d,cm,hc,w,l⟩:=h.wo.step h.ro.ok ne
 obtain ⟨G1,d1,_⟩:=h.step ne
 have e:goF s x=(ctime x.1 x.2.1+d.2.1.2.2.1,x.2.1.erase d,x.2.2++[(d.1,ctime x.1 x.2.1)]):=by unfold goF; rw [hc]
 obtain ⟨t0,Q,lp,tl,eq⟩:=j.ex
 have lat:∀ i∈T.drop t0,wAt i<=ctime x.1 x.2.1:=fun i hi=>by
  have m1:i∈x.2.1:=by rw [eq]; exact List.mem_append.mpr (.inr hi)
  have a1:wAt i<=s.lat:=h.wo.iv.at_ i m1
  have a2:=h.wo.tl ne
  omega
 have ct:=zfm x.1 x.2.1
 have cl:ctime x.1 x.2.1<1000000000000000:=by
  have fb:=h.fb
  have kn:=h.ro.kn
  have tb:=h.tb
  cases hx:x.2.1 with
  | nil=>exact absurd hx ne
  | cons i r =>
   have:=(tb i (by rw [hx]; simp)).2.1
   show (if wAt i > x.1 then wAt i else x.1) < _
   split <;> omega
 have dl:1<=d.2.1.2.2.1:=(h.wo.iv.ok d (h.wo.iv.pm.mem_iff.mpr (List.mem_append.mpr (.inr cm)))).l1
 refine ⟨G1,d1,⟨j.td,⟨T.length,x.2.1.erase d,?_,Nat.le_refl _,?_⟩,?_,?_,?_⟩,l,(d.1,ctime x.1 x.2.1),?_,rfl⟩
 ·rw [e]
  have key:=LP.go (T:=T) (t':=T.length) (g:=(d.1,ctime x.1 x.2.1)) (c:=d) lp tl (Nat.le_refl _) (by rw [List.take_length]; exact lat) (fun i hi=>by simp at hi) (by
   rw [List.take_length,<- eq,<- j.td]; exact hc) rfl
  rw [List.take_length,<- eq] at key
  exact key
 ·rw [e,List.drop_length,List.append_nil]
 ·rw [e]
  refine List.pairwise_append.mpr ⟨j.mo,List.pairwise_singleton _ _,fun a ha b hb=>?_⟩
  rw [List.mem_singleton.mp hb]
  have:=j.fr a ha
  show a.2<=ctime x.1 x.2.1
  omega
 ·rw [e]
  intro g hg
  show g.2<=ctime x.1 x.2.1+d.2.1.2.2.1
  rcases List.mem_append.mp hg with z | z
  ·have:=j.fr g z
   omega
  ·rw [List.mem_singleton.mp z]
   show ctime x.1 x.2.1<=_
   omega
 ·rw [e]
  intro g hg
  rcases List.mem_append.mp hg with z | z
  ·exact j.bd g z
  ·rw [List.mem_singleton.mp z]
   exact cl
 ·rw [e]
theorem JR.run (hn:n<=60) (lim:Option Int):∀ (m:Nat) {G:List WI} {x:WS},DR n M c s t k T G D x->JR T s x->x.2.1.length<=m->∃ G',DR n M c s t k T G' D (runF s lim m x)/\JR T s (runF s lim m x)/\¬ goOn lim (runF s lim m x)/\∀ b,lim=some b->(∀ g∈x.2.2,g.2<b)->∀ g∈(runF s lim m x).2.2,g.2<b
 | 0,G,x,w,j,h=>⟨G,w,j,fun z=>z.1 (List.eq_nil_of_length_eq_zero (by show x.2.1.length = 0; omega)),fun b _ hb=>hb⟩
 | m+1,G,x,w,j,h=>by
  unfold runF
  by_cases d:goOn lim x
  ·rw [if_pos d]
   obtain ⟨G',w',j',l,g,eg,gt⟩:=JR.step hn w j d.1
   obtain ⟨G2,w2,j2,en,gb⟩:=JR.run hn lim m w' j' (by omega)
   refine ⟨G2,w2,j2,en,fun b hb h0=>gb b hb fun g' hg'=>?_⟩
   rw [eg] at hg'
   rcases List.mem_append.mp hg' with z | z
   ·exact h0 g' z
   ·have:g'=g:=List.mem_singleton.mp z
    rw [this,gt]
    exact d.2 b hb
  ·rw [if_neg d]
   exact ⟨G,w,j,d,fun b _ hb=>hb⟩
theorem JR.comes (j:JR T s x) {q:Q4} {k:Nat} (gb:∀ g∈x.2.2,g.2<q.1):JR (T++[(k,q,s.beg q,s.fin q)]) (s.come q) (x.1,x.2.1++[(k,q,s.beg q,s.fin q)],x.2.2):=by
 obtain ⟨t0,Q,lp,tl,eq⟩:=j.ex
 refine ⟨?_,⟨t0,Q,lp.more gb,by rw [List.length_append]; omega,?_⟩,j.mo,j.fr,j.bd⟩
 ·have:=j.td
  unfold zcq at this ⊢
  rw [List.map_append]
  show s.come q=Ti.nil.after (_++[q])
  rw [Ti.after_snoc,<- this]
 ·show x.2.1++_ = _
  rw [eq,List.drop_append_of_le_length tl,List.append_assoc]
end
structure TR (qs:List Q4) (k:Nat) (T:List WI) (dr:List Nat):Prop where
 pl:T.map (fun i=>i.1)=(List.range k).filter fun p=>!dr.contains p
 it:∀ i∈T,qs[i.1]? = some i.2.1
 dk:∀ p∈dr,p<k
 tg:∀ (t:Nat) (i:WI),T[t]? = some i->i.2.2.1=(zcq (T.take t)).beg i.2.1/\i.2.2.2=(zcq (T.take t)).fin i.2.1
theorem TR.drop {qs:List Q4} {k:Nat} {T:List WI} {dr:List Nat} (h:TR qs k T dr):TR qs (k+1) T (dr++[k]):=by
 refine ⟨?_,h.it,fun p hp=>?_,h.tg⟩
 ·rw [h.pl,List.range_succ,List.filter_append,List.filter_cons_of_neg (by simp),List.filter_nil,List.append_nil]
  refine List.filter_congr fun p hp=>?_
  have:=List.mem_range.mp hp
  rw [List.contains_append]
  have ne:¬ p=k:=by omega
  simp [ne]
 ·rcases List.mem_append.mp hp with z | z
  ·have:=h.dk p z; omega
  ·have:p=k:=List.mem_singleton.mp z
   omega
theorem TR.come {qs:List Q4} {k:Nat} {T:List WI} {dr:List Nat} (h:TR qs k T dr) {q:Q4} {s:Ti} (td:s=zcq T) (hq:qs[k]? = some q):TR qs (k+1) (T++[(k,q,s.beg q,s.fin q)]) dr:=by
 have nk:¬ k∈dr:=fun z=>by have:=h.dk k z; omega
 refine ⟨?_,fun i hi=>?_,fun p hp=>by have:=h.dk p hp; omega,fun t i hi=>?_⟩
 ·rw [List.map_append,h.pl,List.range_succ,List.filter_append,List.filter_cons_of_pos (by simpa using nk),List.filter_nil]
  rfl
 ·rcases List.mem_append.mp hi with z | z
  ·exact h.it i z
  ·have:i = _:=List.mem_singleton.mp z
   rw [this]; exact hq
 ·by_cases lt:t<T.length
  ·rw [List.getElem?_append_left lt] at hi
   rw [List.take_append_of_le_length (by omega)]
   exact h.tg t i hi
  ·have e:t=T.length:=by
    have:=(List.getElem?_eq_some_iff.mp hi).1
    rw [List.length_append] at this
    simp only [List.length_cons,List.length_nil] at this
    omega
   subst e
   have:(k,q,s.beg q,s.fin q)=i:=by simpa using hi
   subst this
   rw [List.take_append_of_le_length (Nat.le_refl _),List.take_of_length_le (Nat.le_refl _),<- td]
   exact ⟨rfl,rfl⟩
theorem zhq {n:Nat} {M:Int} {a c:Nat} {rm:Int->Option Int} {qs:List Q4} (g:Good n M a c qs):∀ {k:Nat},k<=qs.length->∃ t T G D,t<=k/\DR n M c (dealR rm qs k).1 t k T G D (dealR rm qs k).2.1/\JR T (dealR rm qs k).1 (dealR rm qs k).2.1/\TR qs k T (dealR rm qs k).2.2/\(∀ j q,k<=j->qs[j]? = some q->(dealR rm qs k).1.lat<=q.1)/\(∀ j q,k<=j->qs[j]? = some q->∀ g∈(dealR rm qs k).2.1.2.2,g.2<q.1)/\t+(dealR rm qs k).2.2.length=k
 | 0,_=>⟨0,[],[],1,Nat.le_refl _,DR.nil,⟨rfl,⟨0,[],.nil,Nat.le_refl _,rfl⟩,.nil,fun g h=>absurd h List.not_mem_nil,fun g h=>absurd h List.not_mem_nil⟩,⟨rfl,fun i h=>absurd h List.not_mem_nil,fun p h=>absurd h List.not_mem_nil,fun t i h=>by cases h⟩,fun j q _ hq=>(g.pc q (List.mem_of_getElem? hq)).1,fun j q _ _ g h=>absurd h List.not_mem_nil,rfl⟩
 | k+1,hk=>by
  obtain ⟨t,T,G,D,tk,h,jr,tr,hl,gb,le⟩:=zhq (rm:=rm) g (k:=k) (by omega)
  have e:qs[k]? = some (qs[k]'(by omega)):=List.getElem?_eq_getElem _
  generalize qs[k]'(by omega)=q at e
  obtain ⟨G',h',jr',en,gb'⟩:=JR.run g.F.n1 (some q.1) _ h jr (Nat.le_refl _)
  have gb2:=gb' q.1 rfl (gb k q (Nat.le_refl _) e)
  have later:∀ j q',k+1<=j->qs[j]? = some q'->q.1<=q'.1:=fun j q' hj hq'=>by
   have:=g.pw
   rw [List.pairwise_iff_getElem] at this
   have b1:=(List.getElem?_eq_some_iff.mp e)
   have b2:=(List.getElem?_eq_some_iff.mp hq')
   have:=this k j b1.1 b2.1 (by omega)
   rw [b1.2,b2.2] at this
   exact this
  rw [dealR_go e]
  unfold dealR1
  dsimp only
  by_cases o:overF rm (runF (dealR rm qs k).1 (some q.1) (dealR rm qs k).2.1.2.1.length (dealR rm qs k).2.1).2.1 q=true
  ·rw [if_pos o]
   refine ⟨t,T,G',D,by omega,h'.next,jr',tr.drop,fun j q' hj hq'=>hl j q' (by omega) hq',fun j q' hj hq' g1 hg1=>?_,?_⟩
   ·have:=gb2 g1 hg1
    have:=later j q' hj hq'
    omega
   show t+((dealR rm qs k).2.2++[k]).length=k+1
   rw [List.length_append]
   simp only [List.length_cons,List.length_nil]
   omega
  ·rw [if_neg o]
   obtain ⟨D',h2⟩:=h'.comes g.F (by have:=g.ln; omega) (g.pc q (List.mem_of_getElem? e)) (hl k q (Nat.le_refl _) e) en
   refine ⟨t+1,_,G',D',by omega,h2,jr'.comes gb2,tr.come jr'.td e,fun j q' hj hq'=>later j q' hj hq',fun j q' hj hq' g1 hg1=>?_,by show t+1+(dealR rm qs k).2.2.length=k+1; omega⟩
   have:=gb2 g1 hg1
   have:=later j q' hj hq'
   omega
theorem zqp {n:Nat} {M:Int} {a c:Nat} {rm:Int->Option Int} {qs:List Q4} (g:Good n M a c qs):∃ T:List WI,TR qs qs.length T (droppedR rm qs)/\LP T (dealtR rm qs).2.2 T.length []/\(dealtR rm qs).2.2.Pairwise (fun a b=>a.2<=b.2)/\∀ g∈(dealtR rm qs).2.2,g.2<1000000000000000:=by
 obtain ⟨t,T,G,D,tk,h,jr,tr,hl,gb,le⟩:=zhq (rm:=rm) g (k:=qs.length) (Nat.le_refl _)
 obtain ⟨G',h',jr',en,_⟩:=JR.run g.F.n1 none _ h jr (Nat.le_refl _)
 refine ⟨T,tr,?_⟩
 obtain ⟨t0,Q,lp,tl,eq⟩:=jr'.ex
 have e0:(dealtR rm qs).2.1 = []:=by
  cases z:(dealtR rm qs).2.1 with
  | nil=>rfl
  | cons i r=>exact absurd ⟨(by show (dealtR rm qs).2.1≠[]; rw [z]; simp),fun a y=>by cases y⟩ en
 have e1:Q++T.drop t0 = []:=by rw [<- eq]; exact e0
 rw [List.append_eq_nil_iff] at e1
 have e2:T.length-t0 = 0:=by rw [<- List.length_drop,e1.2]; rfl
 have e3:t0=T.length:=by omega
 rw [e1.1,e3] at lp
 exact ⟨lp,jr'.mo,jr'.bd⟩
theorem TR.good {n:Nat} {M:Int} {a c:Nat} {qs:List Q4} (g:Good n M a c qs) {T:List WI} {dr:List Nat} (h:TR qs qs.length T dr):Good n M a c (T.map fun i=>i.2.1):=by
 have lt:T.length<=qs.length:=by
  have e:=congrArg List.length h.pl
  have:=List.length_filter_le (fun p=>!dr.contains p) (List.range qs.length)
  rw [List.length_range] at this
  rw [List.length_map] at e
  omega
 have pw:T.Pairwise (fun i j=>i.1<j.1):=by
  have:(T.map fun i=>i.1).Pairwise (· < ·):=by rw [h.pl]; exact List.pairwise_lt_range.filter _
  exact List.pairwise_map.mp this
 refine ⟨g.F,by rw [List.length_map]; have:=g.ln; omega,fun q hq=>?_,?_⟩
 ·obtain ⟨i,hi,rfl⟩:=List.mem_map.mp hq
  exact g.pc _ (List.mem_of_getElem? (h.it i hi))
 ·rw [List.pairwise_map]
  have all:T.Pairwise (fun i j=>i∈T/\j∈T/\i.1<j.1):=by
   rw [List.pairwise_iff_getElem] at pw ⊢
   exact fun x y hx hy lt=>⟨List.getElem_mem _,List.getElem_mem _,pw x y hx hy lt⟩
  refine all.imp fun {i j} ⟨hi,hj,lt⟩=>?_
  have q:=g.pw
  rw [List.pairwise_iff_getElem] at q
  have b1:=(List.getElem?_eq_some_iff.mp (h.it i hi))
  have b2:=(List.getElem?_eq_some_iff.mp (h.it j hj))
  have:=q i.1 j.1 b1.1 b2.1 lt
  rw [b1.2,b2.2] at this
  exact this
def LF (T:List WI):List (Nat×Int)->Nat->List WI->Prop
  | [],t,Q=>t=T.length/\Q = []
  | g :: gs,t,Q=>∃ t' c,t<=t'/\t'<=T.length/\(∀ i∈(T.take t').drop t,wAt i<=g.2)/\(∀ i,T[t']? = some i->g.2<wAt i) /\
      nextF (markAt (zcq (T.take t')).us (zcq (T.take t')).lat (zcq (T.take t')).re g.2) (Q++(T.take t').drop t) none=some c/\c.1=g.1/\LF T gs t' ((Q++(T.take t').drop t).erase c)
theorem LP.front {T:List WI}:∀ {gs:List (Nat×Int)} {t:Nat} {Q:List WI},LP T gs t Q->∀ {rest:List (Nat×Int)},LF T rest t Q->LF T (gs++rest) 0 []
 | _,_,_,.nil,_,h=>h
 | _,_,_,.go (t':=t') (g:=g) (c:=c) p a b c1 d e f,rest,h=>by
  rw [List.append_assoc]
  exact p.front (rest:=[g]++rest) ⟨t',c,a,b,c1,d,e,f,h⟩
theorem zhe {n:Nat} {M:Int} {a c:Nat} {rm:Int->Option Int} {qs:List Q4} (g:Good n M a c qs):∃ T:List WI,TR qs qs.length T (droppedR rm qs)/\LF T (dealtR rm qs).2.2 0 []/\(dealtR rm qs).2.2.Pairwise (fun a b=>a.2<=b.2)/\∀ g∈(dealtR rm qs).2.2,g.2<1000000000000000:=by
 obtain ⟨T,tr,lp,mo,bd⟩:=zqp (rm:=rm) g
 refine ⟨T,tr,?_,mo,bd⟩
 have:=lp.front (rest:=[]) ⟨rfl,rfl⟩
 rw [List.append_nil] at this
 exact this
end Sw
namespace L2
open PySem PySem.Spec PyProof.Rows
section
variable {X:Cx}
end
section
variable {X:Cx} {pins:List (Addr×Obj)} {σ:St} {H:Hp} {s:Shared} {a vw:Addr} {kvs:List (Key×V)} {Q:VK}
end
end L2
namespace Sw
open L2
section
variable {fs:List F4} {w:Nat->Int}
end
end Sw
namespace L2
open PySem PySem.Spec PyProof.Rows
section
variable {X:Cx}
end
end L2
namespace L2
open PySem PySem.Spec PyProof.Rows
section
variable {X:Cx}
end
end L2
namespace Sw
open L2
def hL (qs:List Q4) (dn:List Nat) (mo:Rat):Nat->List Nat
 | 0=>[]
 | i+1=>match qs[i]? with
  | some q=>if i ∉ dn/\q.2.1 ∉ (hL qs dn mo i).map (whoAt qs)/\(q.1:Rat)<=mo then hL qs dn mo i++[i] else hL qs dn mo i
  | none=>hL qs dn mo i
end Sw
namespace Sw
open L2
section
variable {fs:List F4} {w:Nat->Int}
def cT (fs:List F4) (t:Rat) (i k:Nat):Rat:=if i∈hdP fs (stS fs k).1 (stS fs k).2/\(stS fs k).1<t then (shr fs i:Rat) / (shP fs (hdP fs (stS fs k).1 (stS fs k).2):Rat)*(min (stS fs (k+1)).1 t-(stS fs k).1) else 0
end
end Sw
namespace Sw
open L2
section
variable {n:Nat} {M:Int} {a c:Nat} {fs:List F4} {D:Int} {w:Nat->Int}
end
end Sw
namespace Sw
open L2
structure KR (qs:List Q4) (k:Nat) (dr:List Nat) (x:WS):Prop where
 pm:(x.2.2.map (·.1)++x.2.1.map (·.1)).Perm ((List.range k).filter fun p=>!dr.contains p)
 it:∀ i∈x.2.1,qs[i.1]? = some i.2.1
 so:x.2.1.Pairwise (fun i j=>i.1<j.1)
 dk:∀ p∈dr,p<k
 fr:x.1=zih qs x.2.2
 bz:∀ (j:Nat) (g:Nat×Int),x.2.2[j]? = some g->∃ p q,qs[p]? = some q/\g.2=(if q.1 > zih qs (x.2.2.take j) then q.1 else zih qs (x.2.2.take j))/\p<k/\p ∉ dr/\p ∉ (x.2.2.take j).map (·.1)/\∀ p',p' < p->p'∈dr\/p'∈(x.2.2.take j).map (·.1)
section
variable {qs:List Q4} {k:Nat} {dr:List Nat} {x:WS} {s:Ti}
theorem KR.mem (h:KR qs k dr x) {p:Nat}:(p∈x.2.2.map (·.1)\/p∈x.2.1.map (·.1))↔p<k/\p ∉ dr:=by
 rw [<- List.mem_append,h.pm.mem_iff,List.mem_filter,List.mem_range]
 simp
theorem KR.nd (h:KR qs k dr x):(x.2.2.map (·.1)++x.2.1.map (·.1)).Nodup:=h.pm.nodup_iff.mpr (List.nodup_range.filter _)
theorem KR.nil (qs:List Q4):KR qs 0 [] (0,[],[]):=⟨.refl _,fun i h=>absurd h List.not_mem_nil,.nil,fun p h=>absurd h List.not_mem_nil,rfl,fun j g h=>by cases h⟩
theorem KR.go (h:KR qs k dr x):KR qs k dr (goF s x)/\(goF s x=x\/∃ c∈x.2.1,goF s x=(ctime x.1 x.2.1+c.2.1.2.2.1,x.2.1.erase c,x.2.2++[(c.1,ctime x.1 x.2.1)])):=by
 unfold goF
 cases hc:pickF s x with
 | none=>exact ⟨h,.inl rfl⟩
 | some c =>
  have cm:c∈x.2.1:=by
   rcases zgn hc with ⟨a,_⟩ | e
   ·exact a
   ·cases e
  refine ⟨⟨?_,fun i hi=>h.it i (List.mem_of_mem_erase hi),h.so.sublist List.erase_sublist,h.dk,?_,?_⟩,.inr ⟨c,cm,rfl⟩⟩
  ·refine List.Perm.trans ?_ h.pm
   dsimp only
   rw [List.map_append,List.append_assoc]
   refine List.Perm.append_left _ ?_
   exact ((List.perm_cons_erase cm).map (·.1)).symm
  ·dsimp only
   unfold zih
   rw [List.getLast?_append]
   show _=ctime x.1 x.2.1+lenAt qs c.1
   unfold lenAt
   rw [h.it c cm]
   rfl
  ·intro j g hg
   dsimp only at hg ⊢
   by_cases lt:j<x.2.2.length
   ·rw [List.getElem?_append_left lt] at hg
    rw [List.take_append_of_le_length (by omega)]
    exact h.bz j g hg
   ·have ej:j=x.2.2.length:=by
     have:=(List.getElem?_eq_some_iff.mp hg).1
     rw [List.length_append] at this
     simp only [List.length_cons,List.length_nil] at this
     omega
    subst ej
    have eg:(c.1,ctime x.1 x.2.1)=g:=by simpa using hg
    subst eg
    rw [List.take_append_of_le_length (Nat.le_refl _),List.take_of_length_le (Nat.le_refl _)]
    have nd:=h.nd
    have so:=h.so
    have it:=h.it
    have mem:=fun p=>h.mem (p:=p)
    have fr:=h.fr
    cases hx:x.2.1 with
    | nil=>rw [hx] at cm; cases cm
    | cons i r =>
     rw [hx] at nd so it mem
     have mi:=(mem i.1).mp (.inr (by simp))
     refine ⟨i.1,i.2.1,it i (by simp),?_,mi.1,mi.2,fun z=>?_,fun p' lt'=>?_⟩
     ·rw [<- fr]; rfl
     ·exact (List.nodup_append.mp nd).2.2 _ z _ (by simp) rfl
     ·by_cases pd:p'∈dr
      ·exact .inl pd
      ·right
       rcases (mem p').mpr ⟨by omega,pd⟩ with y | y
       ·exact y
       ·exfalso
        rw [List.map_cons,List.mem_cons] at y
        rcases y with y | y
        ·omega
        ·obtain ⟨i',hi',rfl⟩:=List.mem_map.mp y
         have:=(List.pairwise_cons.mp so).1 i' hi'
         omega
theorem KR.come (h:KR qs k dr x) {q:Q4} {b e:Rat} (hq:qs[k]? = some q):KR qs (k+1) dr (x.1,x.2.1++[(k,q,b,e)],x.2.2):=by
 have nk:k ∉ dr:=fun z=>by have:=h.dk k z; omega
 refine ⟨?_,fun i hi=>?_,?_,fun p hp=>by have:=h.dk p hp; omega,h.fr,fun j g hg=>?_⟩
 ·dsimp only
  rw [List.map_append,<- List.append_assoc,List.range_succ,List.filter_append,List.filter_cons_of_pos (by simpa using nk),List.filter_nil]
  exact h.pm.append_right _
 ·rcases List.mem_append.mp hi with z | z
  ·exact h.it i z
  ·rw [List.mem_singleton.mp z]; exact hq
 ·refine List.pairwise_append.mpr ⟨h.so,List.pairwise_singleton _ _,fun i hi j hj=>?_⟩
  rw [List.mem_singleton.mp hj]
  exact (h.mem.mp (.inr (List.mem_map.mpr ⟨i,hi,rfl⟩))).1
 ·obtain ⟨p,q',a1,a2,a3,a4⟩:=h.bz j g hg
  exact ⟨p,q',a1,a2,by omega,a4⟩
theorem KR.drop (h:KR qs k dr x):KR qs (k+1) (dr++[k]) x:=by
 refine ⟨?_,h.it,h.so,fun p hp=>?_,h.fr,fun j g hg=>?_⟩
 ·refine h.pm.trans (.of_eq ?_)
  rw [List.range_succ,List.filter_append,List.filter_cons_of_neg (by simp),List.filter_nil,List.append_nil]
  refine List.filter_congr fun p hp=>?_
  have:=List.mem_range.mp hp
  rw [List.contains_append]
  have ne:¬ p=k:=by omega
  simp [ne]
 ·rcases List.mem_append.mp hp with z | z
  ·have:=h.dk p z; omega
  ·have:p=k:=List.mem_singleton.mp z
   omega
 ·obtain ⟨p,q',a1,a2,a3,a4,a5,a6⟩:=h.bz j g hg
  refine ⟨p,q',a1,a2,by omega,fun z=>?_,a5,fun p' lt=>?_⟩
  ·rcases List.mem_append.mp z with y | y
   ·exact a4 y
   ·have:p=k:=List.mem_singleton.mp y
    omega
  ·rcases a6 p' lt with y | y
   ·exact .inl (List.mem_append.mpr (.inl y))
   ·exact .inr y
def NB (b:Int) (x:WS):Prop:=x.2.1≠[]->b<=ctime x.1 x.2.1
theorem KR.run (l0:∀ q∈qs,0<=q.2.2.1) (lim:Option Int):∀ (m:Nat) {x:WS},KR qs k dr x->KR qs k dr (runF s lim m x)/\∀ b,NB b x->NB b (runF s lim m x)/\∃ rest,(runF s lim m x).2.2=x.2.2++rest/\∀ g∈rest,b<=g.2
 | 0,x,h=>⟨h,fun b nb=>⟨nb,[],(List.append_nil _).symm,fun g hg=>absurd hg List.not_mem_nil⟩⟩
 | m+1,x,h=>by
  unfold runF
  by_cases d:goOn lim x
  ·rw [if_pos d]
   obtain ⟨h1,way⟩:=h.go (s:=s)
   obtain ⟨h2,al⟩:=KR.run l0 lim m h1
   refine ⟨h2,fun b nb=>?_⟩
   rcases way with e | ⟨c,cm,e⟩
   ·rw [e] at al ⊢
    exact al b nb
   ·have lc:=l0 _ (List.mem_of_getElem? (h.it c cm))
    have bc:=nb d.1
    have nb1:NB b (goF s x):=fun _=>by
     have:=zfm (goF s x).1 (goF s x).2.1
     have e1:(goF s x).1=ctime x.1 x.2.1+c.2.1.2.2.1:=by rw [e]
     omega
    obtain ⟨n2,rest,er,ge⟩:=al b nb1
    refine ⟨n2,(c.1,ctime x.1 x.2.1) :: rest,?_,fun g hg=>?_⟩
    ·rw [er,e]
     simp
    ·rcases List.mem_cons.mp hg with y | y
     ·rw [y]; exact bc
     ·exact ge g y
  ·rw [if_neg d]
   exact ⟨h,fun b nb=>⟨nb,[],(List.append_nil _).symm,fun g hg=>absurd hg List.not_mem_nil⟩⟩
end
section
variable {n:Nat} {M:Int} {a c:Nat} {rm:Int->Option Int} {qs:List Q4}
theorem Good.l0 (g:Good n M a c qs):∀ q∈qs,0<=q.2.2.1:=fun q hq=>by have:=(g.pc q hq).2.2.1; omega
theorem zgo (g:Good n M a c qs):∀ {k:Nat},k<=qs.length->KR qs k (dealR rm qs k).2.2 (dealR rm qs k).2.1
 | 0,_=>KR.nil qs
 | k+1,hk=>by
  have h:=zgo g (k:=k) (by omega)
  have e:qs[k]? = some (qs[k]'(by omega)):=List.getElem?_eq_getElem _
  generalize qs[k]'(by omega)=q at e
  have h1:=(KR.run (s:=(dealR rm qs k).1) g.l0 (some q.1) (dealR rm qs k).2.1.2.1.length h).1
  rw [dealR_go e]
  unfold dealR1
  dsimp only
  split
  ·exact h1.drop
  ·exact h1.come e
theorem NB.come {b:Int} {x:WS} {i:WI} (h:NB b x) (hb:b<=wAt i):NB b (x.1,x.2.1++[i],x.2.2):=fun _=>by
 unfold NB at h
 cases e:x.2.1 with
 | nil =>
  show b<=if wAt i > x.1 then wAt i else x.1
  split <;> omega
 | cons j r =>
  rw [e] at h
  exact h (by simp)
theorem later (g:Good n M a c qs) {b:Int}:∀ (m:Nat) {k:Nat},k+m=qs.length->NB b (dealR rm qs k).2.1->(∀ j q,k<=j->qs[j]? = some q->b<=q.1) ->
    (∃ rest,(dealtR rm qs).2.2=(dealR rm qs k).2.1.2.2++rest/\∀ g∈rest,b<=g.2)/\∃ ext,droppedR rm qs=(dealR rm qs k).2.2++ext/\∀ p∈ext,k<=p
  | 0,k,hk,nb,_=>by
    have ek:k=qs.length:=by omega
    subst ek
    have h:=zgo (rm:=rm) g (k:=qs.length) (Nat.le_refl _)
    obtain ⟨_,rest,er,ge⟩:=(KR.run (s:=(dealR rm qs qs.length).1) g.l0 none (dealR rm qs qs.length).2.1.2.1.length h).2 b nb
    exact ⟨⟨rest,er,ge⟩,[],(List.append_nil _).symm,fun p hp=>absurd hp List.not_mem_nil⟩
  | m+1,k,hk,nb,hb=>by
    have h:=zgo (rm:=rm) g (k:=k) (by omega)
    have e:qs[k]? = some (qs[k]'(by omega)):=List.getElem?_eq_getElem _
    generalize qs[k]'(by omega)=q at e
    obtain ⟨nb1,rest1,er1,ge1⟩:=(KR.run (s:=(dealR rm qs k).1) g.l0 (some q.1) (dealR rm qs k).2.1.2.1.length h).2 b nb
    have bq:=hb k q (Nat.le_refl _) e
    have ed:=dealR_go (rm:=rm) e
    unfold dealR1 at ed
    dsimp only at ed
    have nb2:NB b (dealR rm qs (k+1)).2.1:=by
      rw [ed]
      split
      · exact nb1
      · exact nb1.come bq
    have g2:(dealR rm qs (k+1)).2.1.2.2=(dealR rm qs k).2.1.2.2++rest1:=by
      rw [ed,<- er1]
      split <;> rfl
    obtain ⟨ext1,x1,x2⟩:∃ ext,(dealR rm qs (k+1)).2.2=(dealR rm qs k).2.2++ext/\∀ p∈ext,k<=p:=by
      rw [ed]
      split
      · exact ⟨[k],rfl,fun p hp=>by have:=List.mem_singleton.mp hp; omega⟩
      · exact ⟨[],(List.append_nil _).symm,fun p hp=>absurd hp List.not_mem_nil⟩
    obtain ⟨⟨rest,er,ge⟩,ext,ex,xk⟩:=later g m (k:=k+1) (by omega) nb2 fun j q' hj hq'=>hb j q' (by omega) hq'
    refine ⟨⟨rest1++rest,by rw [er,g2,List.append_assoc],fun g' hg'=>?_⟩,ext1++ext,by rw [ex,x1,List.append_assoc],fun p hp=>?_⟩
    · rcases List.mem_append.mp hg' with y | y
      · exact ge1 g' y
      · exact ge g' y
    · rcases List.mem_append.mp hp with y | y
      · exact x2 p y
      · have:=xk p y; omega
def stB (gs:List (Nat×Int)) (p:Nat) (b:Int):Bool:=gs.any fun g=>g.1 == p && decide (b<=g.2)
def heldF (qs:List Q4) (gs:List (Nat×Int)) (k:Nat) (w b:Int):Int:=((List.range k).map fun p=>if whoAt qs p=w/\stB gs p b=true then lenAt qs p else 0).sum
theorem zqq {a b:List Int} (h:a.Perm b):a.sum=b.sum:=by
 induction h with
 | nil=>rfl
 | cons x _ ih=>rw [List.sum_cons,List.sum_cons,ih]
 | swap x y l=>simp only [List.sum_cons]; omega
 | trans _ _ i1 i2=>rw [i1,i2]
theorem zjn (P:Nat->Bool) (f:Nat->Int):∀ l:List Nat,((l.filter P).map f).sum=(l.map fun p=>if P p=true then f p else 0).sum
 | []=>rfl
 | p :: r=>by
  rw [List.filter_cons,List.map_cons,List.sum_cons,<- zjn P f r]
  by_cases c:P p=true
  ·rw [if_pos c,if_pos c]; rfl
  ·rw [if_neg c,if_neg c]; omega
theorem zij (g:Good n M a c qs):KR qs qs.length (droppedR rm qs) (dealtR rm qs):=(KR.run (s:=(dealR rm qs qs.length).1) g.l0 none (dealR rm qs qs.length).2.1.2.1.length (zgo (rm:=rm) g (Nat.le_refl _))).1
theorem zjo (g:Good n M a c qs):(dealtR rm qs).2.1 = []:=by
 obtain ⟨t,T,G,D,tk,h,_⟩:=zhq (rm:=rm) g (k:=qs.length) (Nat.le_refl _)
 obtain ⟨G',h',en⟩:=DR.run none _ h (Nat.le_refl _)
 cases z:(dealtR rm qs).2.1 with
 | nil=>rfl
 | cons i r=>exact absurd ⟨(by show (dealtR rm qs).2.1≠[]; rw [z]; simp),fun a y=>by cases y⟩ en
theorem zqr (g:Good n M a c qs) {k:Nat} {q:Q4} (e:qs[k]? = some q) (w:Int):pileF (runF (dealR rm qs k).1 (some q.1) (dealR rm qs k).2.1.2.1.length (dealR rm qs k).2.1).2.1 w=heldF qs (dealtR rm qs).2.2 k w q.1:=by
 have hk:=(List.getElem?_eq_some_iff.mp e).1
 obtain ⟨t,T,G,D,tk,hd,jr,tr,hl,gb,le⟩:=zhq (rm:=rm) g (k:=k) (by omega)
 obtain ⟨G',hd',jr',en,gb'⟩:=JR.run g.F.n1 (some q.1) _ hd jr (Nat.le_refl _)
 have gb2:=gb' q.1 rfl (gb k q (Nat.le_refl _) e)
 have h0:=zgo (rm:=rm) g (k:=k) (by omega)
 have h:=(KR.run (s:=(dealR rm qs k).1) g.l0 (some q.1) (dealR rm qs k).2.1.2.1.length h0).1
 have fin:=zij (rm:=rm) g
 have wn:=zjo (rm:=rm) g
 have up:∀ j q',k<=j->qs[j]? = some q'->q.1<=q'.1:=fun j q' hj hq'=>by
  rcases Nat.lt_or_ge k j with z | z
  ·have p:=g.pw
   rw [List.pairwise_iff_getElem] at p
   have b1:=(List.getElem?_eq_some_iff.mp e)
   have b2:=(List.getElem?_eq_some_iff.mp hq')
   have:=p k j b1.1 b2.1 z
   rw [b1.2,b2.2] at this
   exact this
  ·have:j=k:=by omega
   subst this
   rw [e] at hq'
   cases hq'
   exact Int.le_refl _
 have nb:NB q.1 (runF (dealR rm qs k).1 (some q.1) (dealR rm qs k).2.1.2.1.length (dealR rm qs k).2.1):=fun ne=>by
  rcases Int.lt_or_le (ctime (runF (dealR rm qs k).1 (some q.1) (dealR rm qs k).2.1.2.1.length (dealR rm qs k).2.1).1 (runF (dealR rm qs k).1 (some q.1) (dealR rm qs k).2.1.2.1.length (dealR rm qs k).2.1).2.1) q.1 with z | z
  ·exact absurd ⟨ne,fun b y=>by cases y; exact z⟩ en
  ·exact z
 have ed:=dealR_go (rm:=rm) e
 unfold dealR1 at ed
 dsimp only at ed
 generalize runF (dealR rm qs k).1 (some q.1) (dealR rm qs k).2.1.2.1.length (dealR rm qs k).2.1=y at gb2 h nb ed ⊢
 have nb2:NB q.1 (dealR rm qs (k+1)).2.1:=by
  rw [ed]
  split
  ·exact nb
  ·exact nb.come (Int.le_refl _)
 have g2:(dealR rm qs (k+1)).2.1.2.2=y.2.2:=by
  rw [ed]
  split <;> rfl
 obtain ⟨ext1,x1,x2⟩:∃ ext,(dealR rm qs (k+1)).2.2=(dealR rm qs k).2.2++ext/\∀ p∈ext,k<=p:=by
  rw [ed]
  split
  ·exact ⟨[k],rfl,fun p hp=>by have:=List.mem_singleton.mp hp; omega⟩
  ·exact ⟨[],(List.append_nil _).symm,fun p hp=>absurd hp List.not_mem_nil⟩
 obtain ⟨⟨rest,er,ge⟩,ext,ex,xk⟩:=later (rm:=rm) g (qs.length-(k+1)) (k:=k+1) (by omega) nb2 fun j q' hj hq'=>up j q' (by omega) hq'
 rw [g2] at er
 rw [x1] at ex
 have nd:=fin.nd
 have mem:=fun p=>fin.mem (p:=p)
 rw [wn,List.map_nil,List.append_nil,er,List.map_append] at nd
 rw [wn] at mem
 have key:∀ p,p∈y.2.1.map (·.1)↔p<k/\stB (dealtR rm qs).2.2 p q.1=true:=fun p=>by
  unfold stB
  rw [List.any_eq_true]
  constructor
  ·intro hp
   obtain ⟨a1,a2⟩:=h.mem.mp (.inr hp)
   have a3:p ∉ droppedR rm qs:=by
    rw [ex]
    intro z
    rcases List.mem_append.mp z with z | z
    ·rcases List.mem_append.mp z with z | z
     ·exact a2 z
     ·have:=x2 p z; omega
    ·have:=xk p z; omega
   have pg:p∈(dealtR rm qs).2.2.map (·.1):=by
    rcases (mem p).mpr ⟨by omega,a3⟩ with z | z
    ·exact z
    ·cases z
   obtain ⟨g1,hg1,rfl⟩:=List.mem_map.mp pg
   refine ⟨a1,g1,hg1,?_⟩
   rw [er] at hg1
   rcases List.mem_append.mp hg1 with z | z
   ·exfalso
    exact (List.nodup_append.mp h.nd).2.2 _ (List.mem_map.mpr ⟨g1,z,rfl⟩) _ hp rfl
   ·have:=ge g1 z
    simp [this]
  ·rintro ⟨a1,g1,hg1,hb⟩
   simp only [Bool.and_eq_true,beq_iff_eq,decide_eq_true_eq] at hb
   obtain ⟨rfl,hb⟩:=hb
   have a3:=((mem g1.1).mp (.inl (List.mem_map.mpr ⟨g1,hg1,rfl⟩))).2
   have a2:g1.1 ∉ (dealR rm qs k).2.2:=fun z=>a3 (by rw [ex]; exact List.mem_append.mpr (.inl (List.mem_append.mpr (.inl z))))
   rcases h.mem.mpr ⟨a1,a2⟩ with z | z
   ·exfalso
    rw [er] at hg1
    rcases List.mem_append.mp hg1 with v | v
    ·have:=gb2 g1 v; omega
    ·exact (List.nodup_append.mp nd).2.2 _ z _ (List.mem_map.mpr ⟨g1,v,rfl⟩) rfl
   ·exact z
 have pm:(y.2.1.map (·.1)).Perm ((List.range k).filter fun p=>stB (dealtR rm qs).2.2 p q.1):=(List.perm_ext_iff_of_nodup (List.nodup_append.mp h.nd).2.1 (List.nodup_range.filter _)).mpr fun p=>by
  rw [key,List.mem_filter,List.mem_range]
 have e1:pileF y.2.1 w=((y.2.1.map (·.1)).map fun p=>if whoAt qs p=w then lenAt qs p else 0).sum:=by
  unfold pileF
  rw [List.map_map]
  congr 1
  refine List.map_congr_left fun i hi=>?_
  have hi:=h.it i hi
  show _=if whoAt qs i.1=w then lenAt qs i.1 else 0
  rw [zrx hi]
  unfold lenAt
  rw [hi]
  rfl
 rw [e1,zqq (pm.map _),zjn]
 unfold heldF
 congr 1
 refine List.map_congr_left fun p _=>?_
 by_cases c1:stB (dealtR rm qs).2.2 p q.1=true
 ·rw [if_pos c1]
  by_cases c2:whoAt qs p=w
  ·rw [if_pos c2,if_pos ⟨c2,c1⟩]
  ·rw [if_neg c2,if_neg (fun z=>c2 z.1)]
 ·rw [if_neg c1,if_neg (fun z=>c1 z.2)]
def overL (rm:Int->Option Int) (qs:List Q4) (gs:List (Nat×Int)) (k:Nat):Bool:=match qs[k]? with
 | none=>false
 | some q=>match rm q.2.1 with
  | none=>false
  | some r=>decide (heldF qs gs k q.2.1 q.1+q.2.2.1 > r)
theorem zjp (g:Good n M a c qs):∀ {k:Nat},k<=qs.length->(dealR rm qs k).2.2=(List.range k).filter (overL rm qs (dealtR rm qs).2.2)
 | 0,_=>rfl
 | k+1,hk=>by
  have ih:=zjp g (k:=k) (by omega)
  have e:qs[k]? = some (qs[k]'(by omega)):=List.getElem?_eq_getElem _
  generalize qs[k]'(by omega)=q at e
  have ov:overF rm (runF (dealR rm qs k).1 (some q.1) (dealR rm qs k).2.1.2.1.length (dealR rm qs k).2.1).2.1 q=overL rm qs (dealtR rm qs).2.2 k:=by
   unfold overF overL
   rw [e]
   dsimp only
   cases rm q.2.1 with
   | none=>rfl
   | some r=>dsimp only; rw [zqr g e]
  rw [dealR_go e,List.range_succ,List.filter_append,<- ih]
  unfold dealR1
  dsimp only
  rw [ov]
  cases ho:overL rm qs (dealtR rm qs).2.2 k with
  | true=>rw [if_pos rfl,List.filter_cons_of_pos ho,List.filter_nil]
  | false=>rw [if_neg (by decide),List.filter_cons_of_neg (by rw [ho]; decide),List.filter_nil,List.append_nil]
end
end Sw
namespace L2
open PySem PySem.Spec PyProof.Rows
section
variable {X:Cx}
end
section
variable {X:Cx}
end
end L2
namespace L2
open PySem PySem.Spec PyProof.Rows
def optS:Option Str->V
 | none=>.non
 | some x=>.str x
structure FR (fs:List (Str×V)) (most:Int) (pm:Addr) (ch:V) (pt pg:Addr) (tu:Option Str):Prop where
 mo:fs.lookup ("most" : Str)=some (.int most)
 me:fs.lookup ("members" : Str)=some (.ref pm)
 ch:fs.lookup ("chosen" : Str)=some ch
 qu:fs.lookup ("queue" : Str)=some (.ref pt)
 re:fs.lookup ("rests" : Str)=some (.ref pg)
 tu:fs.lookup ("turn" : Str)=some (optS tu)
 no:∀ m:Str,¬ m = "most" -> ¬ m = "members" -> ¬ m = "chosen" -> ¬ m = "queue" -> ¬ m = "rests" -> ¬ m = "turn" -> fs.lookup m=none
 len:fs.length<900
structure Rx (C Cm:Addr) (H:Hp) (a:At5) (most:Int) (nm:Nm) (q:List Str) (rs:Nm) (tu:Option Str) (ch:V):Prop where
 ex:∃ dx fs,H a.p=some (.ins C dx fs)/\FR fs most a.pm ch a.pt a.pg tu
 mb:Mb Cm H a.pm a.ps nm
 hq:H a.pt=some (.lst (q.map V.str))
 hr:H a.pg=some (.dK (kvsOf rs))
 n3:a.pg≠a.ps
 n4:a.p≠a.pm
section
variable {C Cm:Addr} {H H':Hp} {a:At5} {most:Int} {nm nm':Nm} {q q':List Str} {rs rs':Nm} {tu tu':Option Str} {ch ch':V}
end
end L2
namespace Sw
open L2 PySem
section
variable {most:Int} {nm:Nm} {q:List Str} {rs:Nm} {tu:Option Str}
end
end Sw
namespace L2
open PySem PySem.Spec PyProof.Rows
def SameD (K:PySem.W.Frag) (H:Hp) (ka kb:List (Key×V)):Prop:=ka.length=kb.length/\∀ kv∈ka,∃ v d,valV kb kv.1=some v/\Deep K H kv.2 d/\Deep K H v d/\PySem.SeqAt.shaped d=true
def rEqDD (K:PySem.W.Frag) (b:Bool):R2:=fun x y H Q=>∃ a c ka kb,x = .ref a/\y = .ref c/\Rd H a (.dK ka)/\Rd H c (.dK kb)/\SameD K H ka kb/\Q (.bl b) H
section
variable {X:Cx}
theorem zqs {pins:List (Addr×Obj)} {σ:St} {H:Hp} {s:Shared} {A:Around} (hu:A.in1.units+64<cLine) (I:Inv X pins σ H s) {kb:List (Key×V)} {vb:List (Key×Value)} (rb:KV kb vb):∀ {ka:List (Key×V)} {va:List (Key×Value)},KV ka va->(∀ kv∈ka,∃ v d,valV kb kv.1=some v/\Deep X.K H kv.2 d/\Deep X.K H v d/\PySem.SeqAt.shaped d=true)->PySem.W.KeqHits A.in1 s vb va true
 | _,_,.nil,_=>.nil
 | _,_,.cons (a:=p) (b:=q) h t,al=>by
  obtain ⟨v,d,e1,e2,e3,e4⟩:=al p (by simp)
  have ih:=zqs hu I rb t fun kv hkv=>al kv (List.mem_cons_of_mem _ hkv)
  have rv:=rb.val p.1
  rw [e1] at rv
  obtain ⟨qk,qv⟩:=q
  have hk:p.1=qk:=h.1
  have hv:RelV p.2 qv:=h.2
  subst hk
  cases hy:valueAt vb p.1 with
  | none=>rw [hy] at rv; cases rv
  | some y =>
   rw [hy] at rv
   have ry:RelV v y:=rv
   obtain ⟨as,ra⟩:=zck I e2 hv
   obtain ⟨bs,rb'⟩:=zck I e3 ry
   have eq:=PySem.W.keq_at (A:=A) ra rb' e4 e4 hu
   have:=PySem.W.KeqHits.hit hy eq ih
   rw [zhn d (PySem.SeqAt.canLay_of_shaped e4)] at this
   exact this
theorem zuv (K:PySem.W.Frag) (h:X.K=K) (hu:X.A.units+66<cLine):OpR X (compareOp .NotEq) (rEqDD K false):=by
 subst h
 intro pins s σ H x y v u Q I rx ry h
 obtain ⟨a,b,ka,kb,rfl,rfl,ha,hb,⟨hl,al⟩,q⟩:=h
 cases (show v=Value.ref a from rx)
 cases (show u=Value.ref b from ry)
 obtain ⟨_,sa,va,ra,da⟩:=dk_rd I.hok ha
 obtain ⟨_,sb,vb,rb,db⟩:=dk_rd I.hok hb
 have e:va.length=vb.length:=by rw [<- ra.length,<- rb.length]; exact hl
 refine PySem.W.keq_ne (r:=true) sa sb da db (by omega) (fun _=>zqs (A:=X.A) (by have:X.A.in1.units=X.A.units+1:=rfl; omega) I rb ra al) ?_
 rw [e,beq_self_eq_true]
 exact ⟨.bl false,H,I,rfl,q⟩
def zxj:List V->Hp->VK->Prop:=fun xs H Q=>∃ a kvs,xs = [.ref a]/\H a=some (.dK kvs)/\∀ l,H l=none->Q (.ref l) (upd H l (.dK kvs))
theorem zoi:CallR X (.type "dict") zxj:=by
 intro pins s σ H xs us Q I r h
 obtain ⟨a,kvs,rfl,ha,q⟩:=h
 obtain ⟨u,rfl,ru⟩:=vals1 r
 cases (show u=Value.ref a from ru)
 obtain ⟨z,hd,vs,rel,dd⟩:=dk_of I.hok ha
 refine kt_call_dict hd dd (by rw [<- rel.length]; exact z) fun h' dm hs=>?_
 have hb:sysModules<s.heap.objs.size:=I.big
 have k:∀ b o,s.heap.get? b=some o->h'.get? b=some o:=fun b o e=>by
  have lt:=Heap.lt_size e
  rw [hs.2 b (Nat.ne_of_lt lt)]
  exact Heap.get?_push_of_some _ e
 exact ⟨.ref s.heap.objs.size,_,I.laid (t':=s.toks) k (Nat.le_refl _) (ztd z (beq_eq_false_iff_ne.mpr (Nat.ne_of_gt hb)) rel dm),rfl,q _ I.fresh⟩
end
end L2
namespace L2
open PySem PySem.Spec PyProof.Rows
end L2
namespace L2
open PySem PySem.Spec PyProof.Rows
section
variable {X:Cx}
end
end L2
namespace L2
open PySem PySem.Spec PyProof.Rows
section
variable {prog:Program} {w:World} {A:Around} {E:Value->Shared->Prop} {h:Heap} {g:Array GenState} {d:Drawn} {t:Nat} {os:OsState} {a:Addr} {its:Array Value} {n:Nat}
end
section
variable {prog:Program} {w:World} {A:Around} {R:Result->Shared->Prop}
end
section
variable {X:Cx}
end
end L2
namespace Sw
open L2
section
variable {fs:List F4} {w:Nat->Int}
end
end Sw
namespace Sw
open L2
structure Cho (T:List WI) (s:Int) (c:WI) (rest:List WI):Prop where
 ex:∃ t m,t<=T.length/\(∀ i∈T.take t,wAt i<=s)/\(∀ i,T[t]? = some i->s<wAt i)/\m=markAt (zcq (T.take t)).us (zcq (T.take t)).lat (zcq (T.take t)).re s/\c∈T.take t/\¬ m<c.2.2.1/\∀ d∈rest,d∈T.drop t\/m<d.2.2.1\/c.2.2.2<=d.2.2.2
inductive Chs (T:List WI):List (Nat×Int)->List WI->Prop
 | nil:Chs T [] []
 | cons {g:Nat×Int} {c:WI} {gs:List (Nat×Int)} {cs:List WI}:c.1=g.1->Cho T g.2 c cs->Chs T gs cs->Chs T (g :: gs) (c :: cs)
theorem LF.walk {T:List WI}:∀ {gs:List (Nat×Int)} {t:Nat} {Q:List WI},LF T gs t Q->t<=T.length->(∀ i∈Q,i∈T.take t)->gs.Pairwise (fun a b=>a.2<=b.2)->(∀ g∈gs,∀ i∈T.take t,wAt i<=g.2)->∃ cs,cs.Perm (Q++T.drop t)/\Chs T gs cs
 | [],t,Q,h,_,_,_,_=>by
  obtain ⟨e1,e2⟩:=h
  subst e1 e2
  exact ⟨[],by rw [List.drop_length]; exact .refl _,.nil⟩
 | g :: gs,t,Q,h,ht,hQ,mo,past=>by
  obtain ⟨t',c,a1,a2,a3,a4,a5,a6,a7⟩:=h
  have sp:T.take t++(T.take t').drop t=T.take t':=by
   have:=List.take_append_drop t (T.take t')
   rw [List.take_take,Nat.min_eq_left a1] at this
   exact this
  have all1:∀ i∈T.take t',wAt i<=g.2:=fun i hi=>by
   rw [<- sp] at hi
   rcases List.mem_append.mp hi with z | z
   ·exact past g (List.mem_cons_self ..) i z
   ·exact a3 i z
  have inL:∀ i∈Q++(T.take t').drop t,i∈T.take t':=fun i hi=>by
   rw [<- sp]
   rcases List.mem_append.mp hi with z | z
   ·exact List.mem_append.mpr (.inl (hQ i z))
   ·exact List.mem_append.mpr (.inr z)
  have cm:c∈Q++(T.take t').drop t/\¬ markAt (zcq (T.take t')).us (zcq (T.take t')).lat (zcq (T.take t')).re g.2<c.2.2.1:=by
   rcases zgn a5 with z | z
   ·exact z
   ·cases z
  obtain ⟨mo1,mo2⟩:=List.pairwise_cons.mp mo
  obtain ⟨cs,pm,ch⟩:=LF.walk a7 a2 (fun i hi=>inL i (List.mem_of_mem_erase hi)) mo2 fun g' hg' i hi=>by
   have:=mo1 g' hg'
   have:=all1 i hi
   omega
  have sd:T.drop t=(T.take t').drop t++T.drop t':=by
   have e:T.drop t=(T.take t'++T.drop t').drop t:=by rw [List.take_append_drop]
   rw [e,List.drop_append_of_le_length (by rw [List.length_take]; omega)]
  refine ⟨c :: cs,?_,.cons a6 ⟨t',_,a2,all1,a4,rfl,inL c cm.1,cm.2,fun d hd=>?_⟩ ch⟩
  ·rw [sd,<- List.append_assoc]
   refine (pm.cons c).trans ?_
   exact ((List.perm_cons_erase cm.1).append_right (T.drop t')).symm
  ·rcases List.mem_append.mp (pm.subset hd) with z | z
   ·right
    have dm:=List.mem_of_mem_erase z
    by_cases y:markAt (zcq (T.take t')).us (zcq (T.take t')).lat (zcq (T.take t')).re g.2<d.2.2.1
    ·exact .inl y
    ·exact .inr ((zii a5).1 d dm y)
   ·exact .inl z
theorem Chs.len {T:List WI}:∀ {gs:List (Nat×Int)} {cs:List WI},Chs T gs cs->cs.map (·.1)=gs.map (·.1)
 | _,_,.nil=>rfl
 | _,_,.cons e _ h=>by rw [List.map_cons,List.map_cons,h.len,e]
end Sw
namespace Sw
open L2
structure Told (n:Nat) (M:Int) (a c:Nat) (T:List WI):Prop where
 g:Good n M a c (T.map fun i=>i.2.1)
 tg:∀ (t:Nat) (i:WI),T[t]? = some i->i.2.2.1=(zcq (T.take t)).beg i.2.1/\i.2.2.2=(zcq (T.take t)).fin i.2.1
 nd:(T.map fun i=>i.1).Nodup
def wLen (i:WI):Int:=i.2.1.2.2.1
section
variable {n:Nat} {M:Int} {a c:Nat} {T:List WI}
def Busy (gs:List (Nat×Int)) (cs:List WI):Prop:=∀ (k:Nat) (g:Nat×Int) (c:WI),gs[k]? = some g->cs[k]? = some c->(∀ d∈cs.drop k,g.2<=wAt d)\/∃ k' g' c',k=k' + 1/\gs[k']? = some g'/\cs[k']? = some c'/\g.2=g'.2+wLen c'
end
end Sw
namespace Sw
open L2
theorem zuw {n:Nat} {M:Int} {a c:Nat} {qs:List Q4} (g:Good n M a c qs) {i j:Nat} {p q:Q4} (hp:qs[i]? = some p) (hq:qs[j]? = some q) (le:i<=j):p.1<=q.1:=by
 rcases Nat.lt_or_ge i j with z | z
 ·have pw:=g.pw
  rw [List.pairwise_iff_getElem] at pw
  have b1:=(List.getElem?_eq_some_iff.mp hp)
  have b2:=(List.getElem?_eq_some_iff.mp hq)
  have:=pw i j b1.1 b2.1 z
  rw [b1.2,b2.2] at this
  exact this
 ·have:j=i:=by omega
  subst this
  rw [hp] at hq
  cases hq
  exact Int.le_refl _
section
variable {n:Nat} {M:Int} {a c:Nat} {rm:Int->Option Int} {qs:List Q4}
theorem zux (g:Good n M a c qs) {dr:List Nat} {x:WS} (h:KR qs qs.length dr x) (hn:x.2.1 = []) {cs:List WI} (em:cs.map (·.1)=x.2.2.map (·.1)) (it:∀ i∈cs,qs[i.1]? = some i.2.1):Busy x.2.2 cs:=by
 intro k g1 c1 hg hc
 obtain ⟨p,q,hq,e,pk,pd,pt,pf⟩:=h.bz k g1 hg
 have mem:=fun p=>h.mem (p:=p)
 have nd:=h.nd
 rw [hn,List.map_nil,List.append_nil] at nd
 rw [hn] at mem
 have spl:x.2.2.map (·.1)=(x.2.2.take k).map (·.1)++(x.2.2.drop k).map (·.1):=by rw [<- List.map_append,List.take_append_drop]
 have rest:g1.2=q.1->∀ d∈cs.drop k,g1.2<=wAt d:=fun eq d hd=>by
  have m1:d.1∈(x.2.2.drop k).map (·.1):=by
   rw [List.map_drop,<- em,<- List.map_drop]
   exact List.mem_map.mpr ⟨d,hd,rfl⟩
  have m2:d.1∈x.2.2.map (·.1):=by rw [spl]; exact List.mem_append.mpr (.inr m1)
  have hk:=(mem d.1).mp (.inl m2)
  have le:p<=d.1:=by
   rcases Nat.lt_or_ge d.1 p with z | z
   ·exfalso
    rcases pf d.1 z with y | y
    ·exact hk.2 y
    ·rw [spl] at nd
     exact (List.nodup_append.mp nd).2.2 _ y _ m1 rfl
   ·exact z
  rw [eq]
  exact zuw g hq (it d (List.mem_of_mem_drop hd)) le
 by_cases cc:q.1 > zih qs (x.2.2.take k)
 ·rw [if_pos cc] at e
  exact .inl (rest e)
 ·rw [if_neg cc] at e
  cases k with
  | zero =>
   left
   refine rest ?_
   have z:zih qs (x.2.2.take 0) = 0:=by rw [List.take_zero]; rfl
   have:=(g.pc q (List.mem_of_getElem? hq)).1
   omega
  | succ k =>
   right
   have hl:k<x.2.2.length:=by have:=(List.getElem?_eq_some_iff.mp hg).1; omega
   have hl2:k<cs.length:=by have:=(List.getElem?_eq_some_iff.mp hc).1; omega
   have e1:x.2.2[k]? = some (x.2.2[k]'hl):=List.getElem?_eq_getElem _
   have e2:cs[k]? = some (cs[k]'hl2):=List.getElem?_eq_getElem _
   generalize x.2.2[k]'hl=g' at e1
   generalize cs[k]'hl2=c' at e2
   refine ⟨k,g',c',rfl,e1,e2,?_⟩
   have et:x.2.2.take (k+1)=x.2.2.take k++[g']:=by rw [List.take_succ_eq_append_getElem hl,(List.getElem?_eq_some_iff.mp e1).2]
   have ec:c'.1=g'.1:=by
    have z1:(cs.map (·.1))[k]? = some c'.1:=by rw [List.getElem?_map,e2]; rfl
    have z2:(x.2.2.map (·.1))[k]? = some g'.1:=by rw [List.getElem?_map,e1]; rfl
    rw [em,z2] at z1
    exact (Option.some.inj z1).symm
   rw [e,et]
   unfold zih lenAt wLen
   rw [List.getLast?_append]
   simp only [List.getLast?_singleton,Option.some_or]
   rw [<- ec,it c' (List.mem_of_getElem? e2)]
   rfl
theorem zmm (g:Good n M a c qs):∃ T cs,TR qs qs.length T (droppedR rm qs)/\Told n M a c T/\Chs T (dealtR rm qs).2.2 cs/\cs.Perm T/\Busy (dealtR rm qs).2.2 cs:=by
 obtain ⟨T,tr,lf,mo,bd⟩:=zhe (rm:=rm) g
 obtain ⟨cs,pm,ch⟩:=LF.walk lf (Nat.zero_le _) (fun i h=>absurd h List.not_mem_nil) mo fun g _ i hi=>by rw [List.take_zero] at hi; cases hi
 have pm:cs.Perm T:=pm
 refine ⟨T,cs,tr,⟨tr.good g,tr.tg,?_⟩,ch,pm,zux g (zij g) (zjo g) ch.len fun i hi=>tr.it i (pm.subset hi)⟩
 rw [tr.pl]
 exact List.nodup_range.filter _
end
end Sw
namespace L2
open PySem PySem.Spec PyProof.Rows PySem.MeetsSeq
def zuy:V->List V->Hp->VK->Prop:=fun x vs H Q=>∃ (l:Addr) (ns:List Int) (k:Int) (j:Nat),x = .ref l/\vs = [.int k]/\H l=some (.lst (ns.map V.int))/\ns.length<sizeLine/\ns[j]? = some k/\(∀ m,m<j->ns[m]?≠some k)/\Q (.int (j:Int)) H
def isI (k:Int):Value->Bool
 | .int n _=>n == k
 | _=>false
section
variable {X:Cx}
theorem zsb (hu:X.A.units+66<cLine):MtM X "list.index" zuy:=by
 intro pins s σ H x vs v us Q I rx rv h
 obtain ⟨l,ns,k,j,rfl,rfl,hH,hz,hj,hno,q⟩:=h
 cases rx
 obtain ⟨u,rfl,ru⟩:=rv.one
 obtain ⟨tu,rfl⟩:=ru
 obtain ⟨z,its,n,r,hl,e⟩:=I.lstM hH
 have len:=r.length
 rw [List.length_map] at hl len
 have jl:j<ns.length:=(List.getElem?_eq_some_iff.mp hj).1
 have at_:∀ m (hm:m<its.length),∃ n t,ns[m]? = some n/\its[m] = Value.int n t:=fun m hm=>by
  obtain ⟨x,h1,h2⟩:=zkl r (List.getElem?_eq_getElem hm)
  rw [List.getElem?_map] at h1
  cases c:ns[m]? with
  | none=>rw [c] at h1; cases h1
  | some n =>
   rw [c] at h1
   have:V.int n=x:=Option.some.inj h1
   subst this
   obtain ⟨t,ht⟩:=h2
   exact ⟨n,t,rfl,ht⟩
 have hs:sizeLine = 16777216:=sizeLine_eq
 refine call_meets F.slot_list_index ⟨_,e,rfl⟩ F.entry_list_index (F.args_list_index_2 _ _) (SeqAt.list_indexAt l its.toArray n none #[] (.int k tu) (isI k) j (by rw [List.size_toArray]; omega) (by omega) ?_ fun m hm lt=>?_) ⟨e,fun y hy=>?_,.int j,H,I.tok _,⟨_,rfl⟩,q⟩
 ·obtain ⟨n',t',h1,h2⟩:=at_ j (by omega)
  rw [hj] at h1
  cases h1
  show isI k its[j] = true
  rw [h2]
  show (k == k)=true
  simp
 ·have hm':m<its.length:=by simpa using hm
  obtain ⟨n',t',h1,h2⟩:=at_ m hm'
  show isI k its[m] = false
  rw [h2]
  show (n' == k)=false
  have:=hno m lt
  rw [h1] at this
  simp only [beq_eq_false_iff_ne]
  exact fun z=>this (by rw [z])
 ·have hy:y∈its:=by simpa using hy
  obtain ⟨m,hm,rfl⟩:=List.getElem_of_mem hy
  obtain ⟨n',t',h1,h2⟩:=at_ m hm
  rw [h2]
  obtain ⟨as,ra⟩:=zck I (Deep.int n') (show RelV (.int n') (.int n' t') from ⟨_,rfl⟩)
  obtain ⟨bs,rb⟩:=zck I (Deep.int k) (show RelV (.int k) (.int k tu) from ⟨_,rfl⟩)
  have:=SeqAt.eqAt_reads (.int n') (.int k) X.A.in1 s _ _ as bs ra rb rfl rfl (PySem.SeqAt.room_of_shaped (show PySem.SeqAt.shaped (PyData.int n')=true from rfl) (by show X.A.units+1+64<cLine; omega))
  have e:PyData.eqv (.int n') (.int k)=isI k (.int n' t'):=by
   simp [PyData.eqv,isI]
  rw [<- e]
  exact this
end
end L2
namespace Sw
open L2
end Sw
namespace Sw
open L2
section
variable {n:Nat} {M:Int} {a c:Nat} {qs:List Q4}
end
end Sw
namespace Sw
open L2
section
variable {ss:List S3} {L:Int} {m:Nat}
def eS (ss:List S3) (i:Nat):Rat:=(buS ss i:Rat) / (shS ss i:Rat)
end
end Sw
namespace Sw
open L2
section
variable {n:Nat} {M:Int} {a c:Nat} {qs:List Q4} {A:Int} {sh:Int->Int}
def gP (fs:List F4) (x:Rat) (p:Nat):Rat:=((fs[p]?).map fun f=>(f.2.2.2:Rat)*dn f x).getD 0
def gS (fs:List F4) (x:Rat):Rat:=tq ((List.range fs.length).map (gP fs x))
end
end Sw
namespace L2
open PySem PySem.Spec PyProof.Rows
section
variable {X:Cx}
end
end L2
namespace L2
open PySem PySem.Spec PyProof.Rows
section
variable {X:Cx}
end
end L2
namespace L2
open PySem PySem.Spec PyProof.Rows
def sg (c:Nat):Str:=⟨#[c]⟩
section
variable {X:Cx} {tg:Expr}
end
theorem zik:∀ {zs:List Str} {us:List Value},Vals (zs.map V.str) us->∃ l:List (Str×Tok),us=strValues l/\l.map (·.1)=zs
 | [],_,h=>by cases h; exact ⟨[],rfl,rfl⟩
 | z :: r,_,h=>by
  cases h with
  | cons h t =>
   obtain ⟨tk,rfl⟩:=h
   obtain ⟨l,e1,e2⟩:=zik t
   exact ⟨(z,tk) :: l,by rw [e1]; rfl,by rw [List.map_cons,e2]⟩
def rJoin (K:PySem.W.Frag):V->List V->Hp->VK->Prop:=fun x vs H Q=>∃ (z:Str) (l:Addr) (zs:List Str),x = .str z/\vs = [.ref l]/\H l=some (.lst (zs.map V.str))/\JoinOk z zs=true/\Q (.str (Txt.join z zs)) H
section
variable {X:Cx}
theorem zmn (K:PySem.W.Frag):MtR X "str.join" (rJoin K):=by
 intro pins s σ H x vs v us Q I rx rv h
 obtain ⟨z,l,zs,rfl,rfl,hl,ok,q⟩:=h
 obtain ⟨t,rfl⟩:=rx
 obtain ⟨u,rfl,ru⟩:=rv.one
 cases ru
 obtain ⟨lz,its,n,r,hn,e⟩:=I.lstM hl
 obtain ⟨ps,rfl,hp⟩:=zik r
 exact SC.join (D:=l) (l:=ps) (texts:=zs) ⟨_,e,rfl,_,rfl⟩ hp ok fun t' k=>⟨.str _,H,I.tok _,⟨_,rfl⟩,q⟩
def rStrI:List V->Hp->VK->Prop:=fun xs H Q=>∃ n:Int,xs = [.int n]/\n.natAbs.log2<1920/\Q (.str (Str.ofString (toString n))) H
theorem zbq:CallR X (.type "str") rStrI:=by
 intro pins s σ H xs us Q I r h
 obtain ⟨n,rfl,hn,q⟩:=h
 obtain ⟨u,rfl,t,rfl⟩:=vals1 r
 exact PySem.P.str_of_int hn ⟨.str _,H,I.tok _,⟨_,rfl⟩,q⟩
end
end L2
namespace L2
open PySem PySem.Spec PyProof.Rows
end L2
namespace L2
open PySem PySem.Spec PyProof.Rows
section
variable {M:Model} {A:Around} {E:Value->Shared->Prop} {s:Shared} {B:Heap} {env:Env} {outer:List Env} {L e:Addr} {cls:Value} {dct:Option Addr}
end
section
variable {X:Cx} {pins:List (Addr×Obj)} {σ:St} {H H':Hp} {s:Shared} {h':Heap}
end
section
variable {P:Program} {w:World} {X:Cx} {scope:Scope} {cl:List (Str×Addr)} {N:List Str} {Ek:XH} {fp:List Addr} {s s':Shared} {H H':Hp} {pins:List (Addr×Obj)} {τ:St}
end
section
variable {P:Program} {w:World} {K:PySem.W.Frag} {mg:Str->Option Value} {base:Heap} {N:List Str} {qual:Str} {sc:Scope} {f:Addr} {cd:Value} {A:Around} {outer:List Env} {s₀:Shared} {H₀:Hp} {E:XK}
end
end L2
namespace Sw
open PySem L2
def figs:Str:=Str.ofString "0123456789"
theorem zqt:figs.cps.toList = [48,49,50,51,52,53,54,55,56,57]:=by decide +kernel
theorem dig_iff {c:Nat}:c∈figs.cps.toList↔48<=c/\c<=57:=by
 rw [zqt]
 simp only [List.mem_cons,List.not_mem_nil,or_false]
 omega
theorem zem {x y:Str} (h:x.cps.toList=y.cps.toList):x=y:=by
 obtain ⟨a⟩:=x
 obtain ⟨b⟩:=y
 have:a=b:=by
  apply Array.toList_inj.mp
  exact h
 rw [this]
theorem len_list (x:Str):x.cps.toList.length=x.length:=Array.length_toList
def zth (z:Str):Prop:=z.cps.toList[0]? = some 48/\1<z.length
def Digs (z:Str):Prop:=∀ c∈z.cps.toList,c∈figs.cps.toList
instance (z:Str):Decidable (zth z):=by unfold zth; exact inferInstance
instance (z:Str):Decidable (Digs z):=by unfold Digs; exact inferInstance
def numS (n:Int):Str:=Str.ofString (toString n)
theorem app_assoc (a b c:Str):a++b++c=a++(b++c):=zem (by
 show ((a.cps++b.cps)++c.cps).toList=(a.cps++(b.cps++c.cps)).toList
 simp)
theorem empty_app (a:Str):Str.empty++a=a:=zem (by
 show ((#[]:Array Nat)++a.cps).toList=a.cps.toList
 simp)
theorem app_len (a b:Str):(a++b).length=a.length+b.length:=by
 show (a.cps++b.cps).size = _
 rw [Array.size_append]; rfl
theorem zfx (sep:Str) (zs:List Str):Txt.join sep zs=Str.join sep zs:=StrLaws.glued_eq_join sep zs
theorem zil {zs:List Str} {m:Nat} (h:∀ z∈zs,z.length<=m):(zs.map (·.length)).sum<=m*zs.length:=by
 induction zs with
 | nil=>exact Nat.zero_le _
 | cons z r ih =>
  have h1:=h z (by simp)
  have h2:=ih fun y hy=>h y (List.mem_cons_of_mem _ hy)
  rw [List.map_cons,List.sum_cons,List.length_cons,Nat.mul_add]
  omega
theorem join_ok {sep:Str} {zs:List Str} {m:Nat} (h:∀ z∈zs,z.length<=m) (hm:m<=2000) (hl:zs.length<=200) (hs:sep.length<=16):JoinOk sep zs=true:=by
 refine PyProof.Rows.joinOk_of_weight ?_ hs
 have h1:=zil h
 have:=Nat.mul_le_mul hm hl
 omega
theorem join_len {sep:Str} {zs:List Str} {m:Nat} (h:∀ z∈zs,z.length<=m):(Txt.join sep zs).length<=(m+sep.length)*zs.length:=by
 rw [zfx]
 have h1:=StrLaws.join_length_le sep zs
 have h2:=zil h
 rw [Nat.add_mul]
 have:zs.length*sep.length=sep.length*zs.length:=Nat.mul_comm _ _
 omega
end Sw
namespace PySem
open Sem (wp)
open Builtin Builtin.Str Builtin.Int
namespace F
theorem nolen_lri:typeLookup (.type "list_reverseiterator") "__len__" = pure none:=by rw [typeLookup_type,builtinLookup_eq_fast]; kernel_rfl
theorem hint_lri:typeLookup (.type "list_reverseiterator") "__length_hint__" = pure (some (.builtin "list_reverseiterator.__length_hint__")):=by rw [typeLookup_type,builtinLookup_eq_fast]; kernel_rfl
end F
section
variable {prog:Program} {w:World} {A:Around} {E:Value->Shared->Prop} {s:Shared} {I:Addr} {fp wr:List Addr} {G:Array GenState->Array GenState->Prop} {n:Nat} {P:Nat->Value->Prop} {St:Nat->Shared->Prop}
theorem zoj {Q:List Value->Shared->Prop} (W:WalksS prog w A.in1 I fp wr G n P St) (hT:∀ i s,St i s->s.TypeIs (.ref I) "list_reverseiterator") (hst:St 0 s) (hfp:∀ b∈fp,b<s.heap.objs.size) (hI:I∈fp)
    (hQ:∀ s' acc,Moved wr G s s'->ItemsOf P acc n->Q acc.toList s') (hn:n<=sizeLine):wpAny (model prog w) A (collect (.ref I)) Q E s:=by
  have nf:s.heap.objs.size ∉ fp:=fun hm=>Nat.lt_irrefl _ (hfp _ hm)
  have nI:s.heap.objs.size≠I:=fun e=>nf (e ▸ hI)
  unfold collect
  refine wpAny_bind (wpAny_runValue (codeAny_builtin F.entry_proto_collect ?_))
  rw [Around.under_plainId F.plain_proto_collect _]
  refine (show wpAny (model prog w) A.in1 (newList [] >>= fun l=>again (.builtin "list.__iadd__" ⟨[l,.ref I],[]⟩)) _ _ s from ?_)
  refine wpAny_bind (wpAny_newObj_type (wpAny_pure ⟨plainId_quiet F.plain_list_iadd _,codeAny_builtin F.entry_list_iadd ?_⟩))
  rw [Around.under_plainId F.plain_list_iadd _]
  have st1:=W.frame 0 s (s.heap.push { cls:=.type "list", data:=.seq ([]:List Value).toArray }) s.toks hst (Nat.le_refl _) fun b _ o e=>Heap.get?_push_of_some _ e
  have g1:(s.heap.push { cls:=.type "list", data:=.seq ([]:List Value).toArray }).get? s.heap.objs.size=some { cls:=.type "list", data:=.seq ([]:List Value).toArray }:=Heap.get?_push_size _ rfl
  have h1:Builtin.List.listSameRef (.ref s.heap.objs.size) (.ref I)=false:=by simp [Builtin.List.listSameRef,nI]
  refine (show wpAny (model prog w) A.in1 (Builtin.List.listExtendWith (.ref s.heap.objs.size) (.ref I) (.ref s.heap.objs.size)) _ _ _ from ?_)
  unfold Builtin.List.listExtendWith
  refine wpAny_bind (wpAny_typeOf (hT 0 _ st1) ?_)
  rw [if_neg (by rw [h1]; decide)]
  refine wpAny_bind (W.self 0 _ _ _ st1 ?_)
  refine wpAny_bind (wpAny_holding ?_)
  unfold Builtin.List.listLengthHint
  refine wpAny_bind (wpAny_specialOf (hT 0 _ st1) F.nolen_lri ?_)
  refine (show wpAny (model prog w) A.in1 (specialOf (Value.ref I) (Str.ofString "__length_hint__") >>= _) _ _ _ from ?_)
  refine wpAny_bind (wpAny_specialOf (hT 0 _ st1) F.hint_lri ?_)
  generalize hid:("list_reverseiterator.__length_hint__" : String)=id0
  wp_delta
  rw [show splitId id0=some ("list_reverseiterator", "__length_hint__") from by subst hid; decide +kernel]
  subst hid
  refine wpAny_bind (wpAny_isInstance (b:=true) (hT 0 _ st1) (by rw [isSubtype_type]; kernel_rfl) ?_)
  refine wpAny_pure ?_
  rw [if_neg (by decide)]
  refine wpAny_pure ⟨plainId_quiet F.plain_extend_loop _,codeAny_extend_loopS W hn _ nf _ n 0 _ _ _ rfl (Nat.zero_le _) st1 g1 (ItemsOf.nil P) fun s' acc' c' hm hS' hacc=>?_⟩
  refine (show wpAny (model prog w) A (load s.heap.objs.size >>= _) _ _ s' from ?_)
  exact wpAny_bind (wpAny_load hS' (wpAny_pure (hQ s' acc' (Moved.drop_new (o:={ cls:=.type "list", data:=.seq ([]:List Value).toArray }) (tk:=s.toks) hm (Nat.le_refl _)) hacc)))
end
theorem zsc {prog:Program} {w:World} {A:Around} {E:Value->Shared->Prop} {s:Shared} {x:Str} {t:Tok} {Q:Value->Shared->Prop} {I D:Addr} {l:List (Str×Tok)} (hh:A.handled=none)
    (hit:s.heap.IsRevIter I D (((strValues l).toArray.size:Int)-1)) (hl:s.heap.IsList D (strValues l).toArray) (hne:D≠I) (hok:JoinOk x (l.map (·.1)).reverse=true) (hn:l.length<=sizeLine)
    (hq:∀ s' t' k,Moved [I] (fun a b=>b=a) s s'->Q (.str (Txt.join x (l.map (·.1)).reverse) t') { s' with toks:=k }) :
    wpAny (model prog w) A (call (.builtin "str.join") [.str x t,.ref I]) Q E s:=by
  have W:WalksS prog w A.in1.in1 I [I,D] [I] (fun a b=>b=a) (strValues l).toArray.size _ _:=(Walks.listRev (A:=A.in1.in1) hh I D hne (strValues l).toArray).toS
  have sz:(strValues l).toArray.size=l.length:=by simp [strValues]
  have hT:∀ i (s:Shared),(i<=(strValues l).toArray.size/\s.heap.IsRevIter I D (((strValues l).toArray.size:Int)-1-(i:Int))/\s.heap.IsList D (strValues l).toArray)->s.TypeIs (.ref I) "list_reverseiterator" := fun i s h=>h.2.1.typeIs
  have h0:(0:Nat)<=(strValues l).toArray.size/\s.heap.IsRevIter I D (((strValues l).toArray.size:Int)-1-((0:Nat):Int))/\s.heap.IsList D (strValues l).toArray:=⟨Nat.zero_le _,by
    have:((strValues l).toArray.size:Int)-1-((0:Nat):Int)=((strValues l).toArray.size:Int)-1:=by omega
    rw [this]; exact hit,hl⟩
  refine wpAny_call (codeAny_call_builtin F.slot_str_join.plain F.entry_str_join (F.slot_str_join.check _ _ _ _ _ _ _ _ (typeIs_str _ _ _) (F.args_str_join_2 _ _) ?_))
  rw [join_tree_other]
  refine wpAny_bind (wpAny_typeOf hit.typeIs ?_)
  refine (show wpAny (model prog w) A.in1 ((pyIter (.ref I)).tryCatch _ >>= fun it=>collect it >>= fun items=>joinTail x items) _ _ s from ?_)
  refine wpAny_bind (wpAny_tryCatch (W.of_in1.self 0 s _ _ h0 ?_))
  have fp:∀ b∈[I,D],b<s.heap.objs.size:=fun b hb=>by
    rcases List.mem_cons.mp hb with e | e
    · obtain ⟨o,ho,_⟩:=hit
      rw [e]; exact Heap.lt_size ho
    · obtain ⟨o,ho,_⟩:=hl
      rw [List.mem_singleton.mp e]; exact Heap.lt_size ho
  refine wpAny_bind (zoj W hT h0 fp (by simp) (fun s' acc hm hacc=>?_) (by rw [sz]; exact hn))
  have ea:acc.toList=strValues l.reverse:=by
    apply List.ext_getElem?
    intro i
    obtain ⟨a1,a2⟩:=hacc
    by_cases hi:i<l.length
    · have hi2:i<acc.size:=by rw [a1,sz]; exact hi
      have e:=a2 i _ (Array.getElem?_eq_getElem hi2)
      rw [Array.getElem?_toList,Array.getElem?_eq_getElem hi2,<- e]
      simp only [strValues,List.size_toArray,List.length_map,List.getElem?_toArray,List.getElem?_map]
      rw [List.getElem?_reverse hi]
    · rw [Array.getElem?_toList,Array.getElem?_eq_none (by rw [a1,sz]; omega),List.getElem?_eq_none (by simp [strValues]; omega)]
  rw [ea]
  have hok2:JoinOk x (l.reverse.map (·.1))=true:=by rw [List.map_reverse]; exact hok
  have hq2:∀ t' k,Q (.str (Txt.join x (l.reverse.map (·.1))) t') { s' with toks:=k }:=fun t' k=>by rw [List.map_reverse]; exact hq s' t' k hm
  generalize l.reverse=r at hok2 hq2
  unfold JoinOk at hok2
  rw [Bool.not_eq_true'] at hok2
  have g:Gives (joinTail x (strValues r)) (joinMade x r):=by
    have g0:=gives_joinTail x r hok2
    cases r with
    | nil=>exact g0
    | cons p r=>cases r with
      | nil=>exact g0
      | cons q r'=>exact g0
  exact g prog w A (wants Q E) s' (post_join r ⟨joinFit_length hok2,hq2⟩)
end PySem
namespace L2
open PySem PySem.Spec PyProof.Rows
def zxk:V->List V->Hp->VK->Prop:=fun x vs H Q=>∃ (z:Str) (i:Int),x = .str z/\vs = [.int i]/\PadOk i=true/\Q (.str (Txt.zfill z i)) H
section
variable {X:Cx}
theorem zsd:MtR X "str.zfill" zxk:=by
 intro pins s σ H x vs v us Q I rx rv h
 obtain ⟨z,i,rfl,rfl,hp,q⟩:=h
 obtain ⟨t,rfl⟩:=rx
 obtain ⟨w,rfl,rw⟩:=rv.one
 obtain ⟨u,rfl⟩:=rw
 exact SC.zfill hp fun t' k=>⟨.str _,H,I.tok _,⟨_,rfl⟩,q⟩
def znq (K:PySem.W.Frag) (to:TE) (ta:TA):TE:=fun σ H Q=>to σ H fun x H1=>∃ z,x = .str z/\ta σ H1 fun vs H2=>∃ (a:Addr) (zs:List Str),vs = [.ref a]/\H2 a=some (.lst (zs.map V.str))/\JoinOk z zs.reverse=true/\Q (.str (Txt.join z zs.reverse)) H2
theorem zok (K:PySem.W.Frag) {o l:Expr} {to:TE} {ta:TA} {apos cpos p pos:Pos} (hc:X.calm=true) (hg:Gl X "reversed") (hm:X.mg "reversed" = none) (ho:PE X o to) (ha:PA X [l] ta)
    (hbase:attributeBase o "join" X.env (eval o X.env)=eval o X.env:=by rfl)
    (hfew:((backTo cpos (starEach [.Call (.Name "reversed" p) [l] [] pos] X.env)).all (fun x=>!x.1) && (backToKw cpos (keywordEach [] X.env)).all (fun x=>x.1.isSome)
      && decide ([Expr.Call (.Name "reversed" p) [l] [] pos].length+([]:List Keyword).length+(if ([]:List Keyword).isEmpty then 0 else 1)<30))=true:=by rfl)
    (hline:(apos.endLine == cpos.line)=true:=by rfl)
    (hs:starEach [.Call (.Name "reversed" p) [l] [] pos] X.env = [(false,eval (.Call (.Name "reversed" p) [l] [] pos) X.env)]:=by rfl) (hs2:starEach [l] X.env = [(false,eval l X.env)]:=by rfl) :
    PE X (.Call (.Attribute o "join" apos) [.Call (.Name "reversed" p) [l] [] pos] [] cpos) (znq K to ta):=by
  intro pins s σ H Q I h
  refine wpAny_Call_method_late hbase hfew hline rfl (thn (ho pins s σ H _ I h) fun v s1 ⟨x,H1,I1,r1,q1⟩=>?_)
  obtain ⟨z,rfl,q1⟩:=q1
  obtain ⟨t,rfl⟩:=r1
  refine ⟨"str", "str.join", PySem.F.plainAttrs_str,PySem.F.slot_str_join,PySem.F.type_str_join,typeIs_str _ _ _,(fun a e=>by cases e),?_⟩
  rw [hs]
  refine Calls.callWith_builtin rfl (Calls.evalArgs_plain (Calls.spliced_cons ?_))
  refine Call_ (zht I1 hg hm boot_reversed (PyProof.Rows.callWith_type1 (thn (ha pos pins s1 σ H1 _ I1 q1) fun us s2 ⟨vs,H2,I2,r2,q2⟩=>?_) hs2 rfl))
  obtain ⟨a,zs,rfl,hl,ok,q⟩:=q2
  obtain ⟨u,rfl,r⟩:=Vals.one r2
  cases r
  obtain ⟨lz,its,n,r,hn,e⟩:=I2.lstM hl
  obtain ⟨ps,rfl,rfl⟩:=zik r
  have il:s2.heap.IsList a (strValues ps).toArray:=⟨_,e,rfl,_,rfl⟩
  refine call_reversed_list il ?_
  refine wpAny_pure ?_
  have hit:(s2.heap.push (revObj a (((strValues ps).toArray.size:Int)-1))).IsRevIter s2.heap.objs.size a (((strValues ps).toArray.size:Int)-1):=⟨_,Heap.get?_push_size _ rfl,rfl,rfl⟩
  have hne:a≠s2.heap.objs.size:=fun z=>by
    obtain ⟨o,ho,_⟩:=il
    exact absurd z (Nat.ne_of_lt (Heap.lt_size ho))
  refine zsc (I2.ok.hd hc) hit (il.at fun o e=>Heap.get?_push_of_some _ e) hne ok (by simpa using lz) fun s' t' k m=>?_
  have hk:∀ b o,s2.heap.get? b=some o->s'.heap.get? b=some o:=fun b o eb=>m.heap b o (fun z=>by
    have:=Heap.lt_size eb
    rw [List.mem_singleton.mp z] at this
    exact Nat.lt_irrefl _ this) (Heap.get?_push_of_some _ eb)
  have es:({ s' with toks:=k }:Shared) = { s2 with heap:=s'.heap,toks:=k }:=by
    obtain ⟨h',g',d',t',o'⟩:=s'
    have e1:=m.gens
    have e2:=m.drawn
    have e3:=m.os
    simp only at e1 e2 e3
    subst e1 e2 e3
    rfl
  rw [es]
  exact ⟨.str _,H2,I2.kept hk,⟨_,rfl⟩,q⟩
end
section
variable {X:Cx}
end
end L2
namespace Sw
open PySem L2 PyProof.Rows
theorem zuz (a b:String):Str.ofString (a++b)=Str.ofString a++Str.ofString b:=zem (by
 have e:(Str.ofString a++Str.ofString b).cps=(Str.ofString a).cps++(Str.ofString b).cps:=rfl
 rw [e,Array.toList_append,signs_ofString,signs_ofString,signs_ofString,String.toList_append,List.map_append])
theorem zej (a b:Str):(a++b).cps.toList=a.cps.toList++b.cps.toList:=by
 have e:(a++b).cps=a.cps++b.cps:=rfl
 rw [e,Array.toList_append]
theorem zfn (m:Nat):(numS (m:Int)).cps.toList=(Nat.toDigits 10 m).map Char.toNat:=PySem.W.KIN.signs_num m
theorem num_neg {m:Nat} (h:0<m):numS (-(m:Int))=Str.ofString "-" ++ numS (m:Int):=by
 obtain ⟨k,rfl⟩:∃ k,m=k+1:=⟨m-1,by omega⟩
 unfold numS
 rw [<- zuz]
 rfl
theorem zse (m:Nat):Digs (numS (m:Int)):=fun c hc=>by
 rw [zfn] at hc
 obtain ⟨ch,hch,rfl⟩:=List.mem_map.mp hc
 have r:=Nat.isDigit_of_mem_toDigits (by decide) (by decide) hch
 refine dig_iff.mpr ?_
 simp only [Char.isDigit,Bool.and_eq_true,decide_eq_true_eq] at r
 obtain ⟨r1,r2⟩:=r
 exact ⟨r1,r2⟩
theorem zqu (m:Nat):NumText.AllDigits (numS (m:Int)).cps.toList:=fun c hc=>dig_iff.mp (zse m c hc)
def ofL (l:List Nat):Str:=⟨l.toArray⟩
theorem zsf (l:List Nat):(ofL l).cps.toList=l:=rfl
def slash:Str:=Str.ofString "/"
def Below (h:Str):Prop:=h.cps.toList[0]? = some 45
instance (h:Str):Decidable (Below h):=by unfold Below; exact inferInstance
def fracS (q:Int×Int):Str:=if q.2 = 1 then numS q.1 else numS q.1++slash++numS q.2
end Sw
namespace L2
open PySem PySem.Spec PyProof.Rows
def zxl:V->List V->Hp->VK->Prop:=fun x vs H Q=>∃ (z:Str) (i:Int),x = .str z/\vs = [.int i]/\PadOk i=true/\Q (.str (Txt.rjust z i)) H
theorem zsg {X:Cx}:MtR X "str.rjust" zxl:=by
 intro pins s σ H x vs v us Q I rx rv h
 obtain ⟨z,i,rfl,rfl,hp,q⟩:=h
 obtain ⟨t,rfl⟩:=rx
 obtain ⟨w,rfl,rw⟩:=rv.one
 obtain ⟨u,rfl⟩:=rw
 exact SC.rjust hp fun t' k=>⟨.str _,H,I.tok _,⟨_,rfl⟩,q⟩
theorem zal {X:Cx} {i:Nat} {x:Str} {e:Expr} {te:TE} {pos' pos:Pos} (hN:X.N.Nodup) (hi:X.N[i]? = some x) (he:PE X e te) (hx:Loc X.env.scope x:=by first | exact Or.inl rfl | exact Or.inr rfl) (hs:swapsWith e (some (.Name x pos')) pos.line X.env=pure false:=by rfl) (hf:X.fn x=true\/X.env.scope.names.lookup x=some .local:=by first | exact .inl rfl | exact .inr rfl | assumption) :
    PS X (.Assign [.Name x pos'] e pos) (tAsg te (gName i)):=zwe hN hi hx he hs hf
end L2
namespace Sw
open PySem L2 PyProof.Rows
theorem padOk {n:Nat} (h:n<=1000000):PadOk (n:Int)=true:=by
 unfold PadOk fitsSsize Builtin.Str.tooLong
 have:¬ ((n:Int).toNat > sizeLine):=by rw [Int.toNat_natCast,sizeLine_eq]; omega
 rw [Bool.and_eq_true]
 refine ⟨?_,by simpa using this⟩
 simp
 omega
theorem zim (x:Str) (l r c:Nat):(Builtin.Str.padded x l r c).cps.toList=List.replicate l c++x.cps.toList++List.replicate r c:=by
 unfold Builtin.Str.padded
 simp
def blanks (n:Nat):Str:=ofL (List.replicate n 32)
theorem blanks_len (n:Nat):(blanks n).length=n:=by rw [<- len_list]; unfold blanks; rw [zsf,List.length_replicate]
theorem rjust_eq (x:Str) (w:Nat):Txt.rjust x (w:Int)=blanks (w-x.length)++x:=by
 unfold Txt.rjust
 split
 ·have:w-x.length = 0:=by omega
  rw [this]
  exact zem (by rw [zej]; rfl)
 ·refine zem ?_
  rw [zim,zej,Int.toNat_natCast]
  simp [blanks,ofL]
theorem zln (a:Array Nat):∀ (n:Nat) (b:Array Nat),((List.replicate n a).foldl (·++·) b).toList=b.toList++(List.replicate n a.toList).flatten
 | 0,b=>by simp
 | n+1,b=>by
  rw [List.replicate_succ,List.foldl_cons,zln a n,Array.toList_append,List.replicate_succ,List.flatten_cons,List.append_assoc]
theorem mul_blank (n:Nat):Txt.mul (Str.ofString " ") (n:Int)=blanks n:=by
 have e:Str.ofString " " = ⟨#[32]⟩:=by decide +kernel
 rw [e]
 unfold Txt.mul
 by_cases h0:(n:Int)<1
 ·rw [if_pos h0]
  have:n = 0:=by omega
  rw [this]
  rfl
 ·rw [if_neg h0]
  by_cases h1:n = 1
  ·subst h1
   rw [if_pos (by decide)]
   rfl
  ·rw [if_neg (by simp; constructor; omega; decide)]
   refine zem ?_
   show ((List.replicate (n:Int).toNat #[32]).foldl (·++·) #[]).toList=List.replicate n 32
   rw [zln,Int.toNat_natCast]
   have:∀ k:Nat,(List.replicate k (#[32]:Array Nat).toList).flatten=List.replicate k 32:=fun k=>by
    induction k with
    | zero=>rfl
    | succ k ih=>rw [List.replicate_succ,List.flatten_cons,ih,List.replicate_succ]; rfl
   rw [this]; rfl
abbrev dg (n:Nat):List Char:=Nat.toDigits 10 n
def padD (k r:Nat):List Char:=List.replicate (k-(dg r).length) '0' ++ dg r
theorem zqv {n d:Nat} (hn:0<n) (hd:d<10):dg n++dg d=dg (10*n+d):=Nat.toDigits_append_toDigits (by decide) hn hd
theorem zqw {d:Nat} (h:d<10):(dg d).length = 1:=by rw [dg,Nat.toDigits_of_lt_base h]; rfl
theorem zsi {k r d:Nat} (hk:1<=k) (hr:(dg r).length<=k) (hd:d<10):padD k r++dg d=padD (k+1) (10*r+d):=by
 unfold padD
 by_cases h:r = 0
 ·subst h
  have e:dg 0 = ['0']:=rfl
  rw [e,Nat.mul_zero,Nat.zero_add,zqw hd]
  obtain ⟨j,rfl⟩:∃ j,k=j+1:=⟨k-1,by omega⟩
  have:j+1 - ['0'].length=j:=by simp
  rw [this,show j+1+1-1=j+1 by omega,List.replicate_succ']
 ·rw [<- zqv (by omega) hd,List.length_append,zqw hd,<- List.append_assoc]
  congr 3
  omega
theorem znr:∀ (k q r:Nat),0<q->r<10 ^ (k+1)->(dg r).length<=k+1->dg (10 ^ (k+1)*q+r)=dg q++padD (k+1) r
 | 0,q,r,hq,hr,_=>by
  have hr:r<10:=by simpa using hr
  unfold padD
  rw [zqw hr,show 0+1-1 = 0 by omega,List.replicate_zero,List.nil_append,zqv hq hr]
 | k+1,q,r,hq,hr,_=>by
  have hd:r % 10<10:=Nat.mod_lt _ (by decide)
  have hr':r / 10<10 ^ (k+1):=by
   rw [Nat.div_lt_iff_lt_mul (by decide)]
   rw [Nat.pow_succ] at hr
   omega
  have hl:(dg (r / 10)).length<=k+1:=toDigits_len_pow (by decide) (by omega) hr'
  have er:r = 10*(r / 10)+r % 10:=by omega
  have ih:=znr k q (r / 10) hq hr' hl
  have hp:0<10 ^ (k+1)*q+r / 10:=by
   have:=Nat.mul_pos (Nat.pow_pos (n:=k+1) (show 0<10 by decide)) hq
   omega
  have e:10 ^ (k+1+1)*q+r = 10*(10 ^ (k+1)*q+r / 10)+r % 10:=by
   rw [Nat.pow_succ 10 (k+1),Nat.mul_add,Nat.mul_comm (10 ^ (k+1)) 10,Nat.mul_assoc]
   omega
  rw [e,<- zqv hp hd,ih,List.append_assoc,zsi (by omega) hl hd,<- er]
theorem zfill_num {r:Nat} (h:r<10 ^ 60):(Txt.zfill (numS (r:Int)) 60).cps.toList=(padD 60 r).map Char.toNat:=by
 have hl:(numS (r:Int)).length=(dg r).length:=by rw [<- len_list,zfn,List.length_map]
 have h60:(dg r).length<=60:=toDigits_len_pow (by decide) (by decide) h
 have h0 : '0'.toNat = 48:=rfl
 unfold Txt.zfill padD
 rw [List.map_append,List.map_replicate,h0,<- hl]
 split
 ·have:60-(numS (r:Int)).length = 0:=by omega
  rw [this,zfn]; rfl
 ·have hz:PySem.zfilled (numS (r:Int)) ((60:Int).toNat-(numS (r:Int)).length)=Builtin.Str.padded (numS (r:Int)) ((60:Int).toNat-(numS (r:Int)).length) 0 48:=by
   unfold PySem.zfilled
   split
   ·rename_i e
    have:=(zqu r 43 (Array.mem_toList_iff.mpr (Array.mem_of_getElem? e))).1
    omega
   ·rename_i e
    have:=(zqu r 45 (Array.mem_toList_iff.mpr (Array.mem_of_getElem? e))).1
    omega
   ·rfl
  rw [hz,zim,zfn]
  simp
theorem num_split {q r:Nat} (hq:0<q) (hr:r<10 ^ 60):numS ((10 ^ 60*q+r:Nat):Int)=numS (q:Int)++Txt.zfill (numS (r:Int)) 60:=by
 refine zem ?_
 have hl:(dg r).length<=60:=toDigits_len_pow (by decide) (by decide) hr
 have e:=znr 59 q r hq hr hl
 rw [zej,zfn,zfn,zfill_num hr,<- List.map_append]
 exact congrArg (List.map Char.toNat) e
theorem join0_cons (z:Str):∀ rs:List Str,Txt.join (Str.ofString "") (z :: rs)=z++Txt.join (Str.ofString "") rs
 | []=>by
  rw [zfx,zfx]
  show z=z++Str.empty
  exact zem (by rw [zej]; simp [Str.empty])
 | y :: r=>by
  rw [zfx,zfx]
  show z++Str.ofString "" ++ Str.join (Str.ofString "") (y :: r) = _
  refine zem ?_
  have e:(Str.ofString "").cps.toList = []:=by decide +kernel
  rw [zej,zej,zej,e,List.append_nil]
theorem join0_nil:Txt.join (Str.ofString "") [] = Str.empty:=by rw [zfx]; rfl
theorem app_empty (a:Str):a++Str.empty=a:=zem (by rw [zej]; simp [Str.empty])
end Sw
namespace L2
open PySem PySem.Spec PyProof.Rows
section
variable {X:Cx}
theorem zsj {x0:Str} {i0:Nat} {y:Str} {py spos:Pos} {elt target iter:Expr} {ifs:List Expr} {scope:Scope} {pos:Pos} {cl:List (Str×Addr)} {ts:List Str} {fr:List (Str×Nat)} {wi:TI} {g:TG} {tc:TT} {te:TE} (hcalm:X.calm=true)
    (hclos:closureFor scope X.env=pure cl) (hcs:∀ n,cellsFrom n scope.names cl=(x0,n) :: cl) (hpc:∀ h,pushCells h scope.names=h.push { cls:=.type "cell", data:=.cell none }) (hkind:scope.kind = .function) (hnames:∀ y∈scope.names,y.2 = .local->scope.names.lookup y.1=some .local)
    (hcl:∀ x c,cl.lookup x=some c->X.env.cells.lookup x=some c)
    (hhas:∀ x,((relabel scope X.env).names.lookup x=some .cell\/(relabel scope X.env).names.lookup x=some .free)->x=x0\/∃ c,cl.lookup x=some c) (hfr:FrOk X (relabel scope X.env) fr) (hne:∀ p∈fr,p.1≠x0)
    (hi:PI X target iter wi) (hg:∀ fp s H,PG (zdj X scope cl x0 (ts++fr.map (·.1)) fp s H) target g) (hc:∀ fp s H,PIfs (zdj X scope cl x0 (ts++fr.map (·.1)) fp s H) ifs tc)
    (he:∀ fp s H,PE (zdj X scope cl x0 (ts++fr.map (·.1)) fp s H) elt te) (hsw:swapsWith (.ListComp elt [⟨target,iter,ifs,0⟩] scope pos) (some (.Name y py)) spos.line X.env=pure true) (hN:X.N.Nodup) (hiy:X.N[i0]? = some y) (hy:Loc X.env.scope y)
    (hs:∀ x,foldedSetIterable iter X.env x=pure x:=by intro _; rfl) (hf:X.fn y=true\/X.env.scope.names.lookup y=some .local:=by first | exact .inl rfl | exact .inr rfl | assumption) :
    PS X (.Assign [.Name y py] (.ListComp elt [⟨target,iter,ifs,0⟩] scope pos) spos) (tAsg (tComp ts.length fr wi g tc te) (gName i0)):=by
  intro pins s σ H D I h
  have h:tComp ts.length fr wi g tc te σ H (fun x H1=>D.nx (σ.set i0 (some x)) H1):=h
  rw [exec_Assign_Name_used _ _ _ _ hsw]
  refine wpAny_bind (wpAny_standAt (wpAny_bind ?_))
  show wpAny _ _ (do let _ <- comprehension (.ListComp elt [⟨target,iter,ifs,0⟩] scope pos) scope X.env _ (newList []) false (eval iter X.env) (some (assign (.Name y py) X.env))) _ _ s
  refine wpAny_bind (wpAny_mono (wpAny_comprehension_free (use:=some (assign (.Name y py) X.env)) (Q:=fun _ s'=>SP X pins D .next s') rfl hs hclos hkind hnames (thn (hi pins s σ H _ I h) fun xv s1 h1=>thn h1 fun itv s2 h2=>?_)) (fun _ s' hq=>wpAny_pure (wpAny_pure hq)) fun _ _ e=>e)
  obtain ⟨it,fp,tn,J,H2,rfl,I2,T,st2,f2,hR⟩:=h2
  have D0:H2 s2.heap.objs.size=none:=I2.hok.fresh (Nat.le_refl _)
  obtain ⟨W,⟨m0,w0⟩,turn⟩:=hR s2.heap.objs.size D0
  refine wpAny_newObj_type (zgv hcs hpc ?_)
  have I3:Inv X pins σ (upd H2 s2.heap.objs.size (.lst [])) { s2 with heap:=s2.heap.push { cls:=.type "list", dict:=none,data:=.seq ([]:List Value).toArray } } :=
    I2.laid (t':=s2.toks) (fun _ _ q=>Heap.get?_push_of_some _ q) (Nat.le_refl _) ⟨Nat.zero_le _,[],0,.nil,Heap.get?_push_size _ rfl⟩
  have kp3:∀ b o,s2.heap.get? b=some o->(s2.heap.push { cls:=.type "list", dict:=none,data:=.seq ([]:List Value).toArray }).get? b=some o:=fun b o q=>Heap.get?_push_of_some _ q
  have sz3:(s2.heap.push { cls:=.type "list", dict:=none,data:=.seq ([]:List Value).toArray }).objs.size=s2.heap.objs.size+1:=Heap.size_push ..
  generalize s2.heap.push { cls:=.type "list", dict:=none,data:=.seq ([]:List Value).toArray } = hp3 at I3 kp3 sz3 ⊢
  have kp:∀ b o,hp3.get? b=some o->((hp3.push { cls:=.type "dict", data:=.dict #[] }).push { cls:=.type "cell", data:=.cell none }).get? b=some o:=fun b o e=>Heap.get?_push_of_some _ (Heap.get?_push_of_some _ e)
  have hns₁:((hp3.push { cls:=.type "dict", data:=.dict #[] }).push { cls:=.type "cell", data:=.cell none }).Ns hp3.objs.size (fun _=>none):=(Heap.Ns.new hp3 (.type "dict")).keeps fun b o e=>Heap.get?_push_of_some _ e
  have hnc₁:((hp3.push { cls:=.type "dict", data:=.dict #[] }).push { cls:=.type "cell", data:=.cell none }).IsCell (hp3.objs.size+1) none:=⟨_,by
    have:=Heap.get?_push_size (hp3.push { cls:=.type "dict", data:=.dict #[] }) (o:={ cls:=.type "cell", data:=.cell none }) rfl
    rw [Heap.size_push] at this
    exact this,rfl⟩
  generalize (hp3.push { cls:=.type "dict", data:=.dict #[] }).push { cls:=.type "cell", data:=.cell none } = h₁ at kp hns₁ hnc₁ ⊢
  have flt:∀ b∈fp,b<s2.heap.objs.size:=fun b hb=>by
    obtain ⟨o,e,_⟩:=T.obj _ _ st2 b hb
    exact Heap.lt_size e
  have fr3:∀ b∈fp,(upd H2 s2.heap.objs.size (.lst [])) b=none:=fun b hb=>by rw [zai (Nat.ne_of_lt (flt b hb))]; exact (f2 b hb).1
  have f3:∀ b∈fp,FpOk X pins (upd H2 s2.heap.objs.size (.lst [])) b/\b<hp3.objs.size:=fun b hb=>⟨⟨fr3 b hb,(f2 b hb).2⟩,by rw [sz3]; exact Nat.lt_succ_of_lt (flt b hb)⟩
  have I4:=zqm (ts:=ts) (t':=s2.toks) I3 hkind hcl hhas hfr hne f3 hns₁ hnc₁ kp
  have st4:tn 0 h₁:=T.keep _ _ _ st2 fun b hb o e=>kp b o (kp3 b o e)
  have loop:codeAny (model X.prog X.w) X.A (.compLoop (.ListComp elt [⟨target,iter,ifs,0⟩] scope pos) 0 (.ref it) (.ref s2.heap.objs.size) (compEnvC scope ((x0,hp3.objs.size+1) :: cl) hp3.objs.size X.env))
      (compPost (model X.prog X.w) X.A X.xe (some (assign (.Name y py) X.env)) (fun _ s'=>SP X pins D .next s') (.ref s2.heap.objs.size) hp3.objs.size) { s2 with heap:=h₁,toks:=s2.toks }:=by
    refine zcu (fun n s'=>∃ i τ H',Inv (zdj X scope cl x0 (ts++fr.map (·.1)) fp { s2 with heap:=hp3 } (upd H2 s2.heap.objs.size (.lst []))) [] τ H' s'/\tn i s'.heap/\(∀ b∈fp,H' b=none)/\W i n τ H') ?_ m0 ⟨0,_,_,I4,st4,fr3,w0⟩
    rintro n s5 ⟨i,τ,H5,I5,st5,fr5,w5⟩
    have stat:∀ {H':Hp},(∀ b∈fp,H' b=none)->∀ b∈fp,FpOk (zdj X scope cl x0 (ts++fr.map (·.1)) fp { s2 with heap:=hp3 } (upd H2 s2.heap.objs.size (.lst []))) [] H' b :=
      fun hn b hb=>⟨hn b hb,(I5.ok.exf b hb).1,I5.ok.exfs b hb,.inl hb,(I5.ok.exf b hb).2,fun p hp=>absurd (show p∈([]:List (Addr×Obj)) from hp) (by simp)⟩
    rcases turn i n τ H5 w5 with ⟨stop,qn⟩ | ⟨go,Nn,hN,step⟩
    · refine thn (T.done (zdj X scope cl x0 (ts++fr.map (·.1)) fp { s2 with heap:=hp3 } (upd H2 s2.heap.objs.size (.lst []))) rfl rfl rfl hcalm i [] s5 τ H5 _ I5 (stat fr5) st5 stop) fun r s6 ⟨hr,I6⟩=>?_
      subst hr
      have neC:∀ b o,hp3.get? b=some o->b≠hp3.objs.size:=fun b o e=>Nat.ne_of_lt (Heap.lt_size e)
      have I7:Inv X pins σ H5 s6:=by
        refine I3.call' (s':=s6) (ch:=fp) I6.os ⟨fun b o e n hb hx=>I6.base.keep b o e n hb hx,fun b o e n hb hx=>I6.base.slot b o e n hb hx,I6.base.free,fun b o e hx=>I6.base.there b o e hx,I6.base.tups,I6.base.frzs,I6.base.tbls⟩ I6.hok I6.bare (fun b hb=>?_)
        exact ⟨(f2 b hb).2.2.2.1,(f2 b hb).2.1,(f2 b hb).2.2.2.2.1,(f2 b hb).2.2.2.2.2⟩
      have lC:X.env.locals≠hp3.objs.size:=by
        obtain ⟨_,⟨o,_,_,ho,_⟩,_⟩:=I3.loc
        exact neC _ o ho
      have cC:∀ x c,X.env.cells.lookup x=some c->c≠hp3.objs.size:=fun x c e=>by
        obtain ⟨v,o,ho,_⟩:=I3.cell x c e
        exact neC _ o ho
      have fC:H5 hp3.objs.size=none:=I6.free
      obtain ⟨m,hn,_⟩:=I6.loc
      show wpAny _ _ (assign (.Name y py) X.env (.ref s2.heap.objs.size)) _ _ _
      refine wpAny_assign_Name (zhr I7 hN hiy hy (v:=.ref s2.heap.objs.size) rfl (fun s8 I8 hsb=>?_) hf)
      obtain ⟨al,hs8,hal⟩:=hsb
      have alC:hp3.objs.size≠al:=by
        rcases hal with z | z
        · rw [z]; exact Ne.symm lC
        · exact Ne.symm (cC _ _ z)
      have hs8:Heap.SameBut al s6.heap s8.heap:=hs8
      have hnC:s6.heap.Ns hp3.objs.size m:=hn
      refine ⟨m,hnC.sameBut hs8 alC,fun h' hs'=>⟨σ.set i0 (some (.ref s2.heap.objs.size)),H5,?_,qn⟩⟩
      have hs':Heap.SameBut hp3.objs.size s8.heap h':=hs'
      refine I8.call' (s':={ s8 with heap:=h' }) (ch:=[hp3.objs.size]) rfl ⟨fun b o e n hb hx=>?_,fun b o e n hb hx=>?_,fun b o e n hx=>n,fun b o e hx=>?_,fun _ _ q=>q,fun _ _ _ q=>q,fun b ps q=>⟨#[],by rw [q]; simp⟩⟩ (fun b ob e=>?_) I8.bare (fun b hb=>?_)
      · exact (hs'.2 b (fun z=>hx (by simp [z]))).trans e
      · exact ⟨o.slots,(hs'.2 b (fun z=>hx (by simp [z]))).trans e⟩
      · exact ⟨o,(hs'.2 b (fun z=>hx (by simp [z]))).trans e⟩
      · refine (I8.hok b ob e).stay (fun c v hc q=>(hs'.2 c ?_).trans q) (fun _ q=>q) fun _ _ q=>q
        intro z
        rcases hc with w | w
        · rw [<- w,z,fC] at e; cases e
        · rw [z,fC] at w; cases w
      · have z:b=hp3.objs.size:=by simpa using hb
        subst z
        refine ⟨.inr (Nat.le_trans (Nat.le_trans I2.sz (by rw [sz3]; exact Nat.le_succ _)) (Nat.le_refl _)),Ne.symm lC,cC,fun p hp e=>?_⟩
        obtain ⟨q1,_⟩:=I3.pin p hp
        exact neC _ _ q1 e
    · refine thn (T.item (zdj X scope cl x0 (ts++fr.map (·.1)) fp { s2 with heap:=hp3 } (upd H2 s2.heap.objs.size (.lst []))) rfl rfl rfl hcalm i [] s5 τ H5 _ I5 (stat fr5) st5 go) fun r s6 ⟨u,hr,h6⟩=>?_
      subst hr
      refine thn h6 fun _ s7 ⟨x,H7,I7,r7,y7,st7,fr7⟩=>?_
      have I7':=I7.pinned (stat fr7) (T.obj _ _ st7)
      refine wpAny_mono (hg fp _ _ _ s7 τ H7 x u _ I7' r7 (step x H7 y7)) (fun _ s8 ⟨τ8,H8,I8,q8⟩=>?_) fun _ _ z=>False.elim z
      have again:∀ {τ9:St} {H9:Hp} {s9:Shared},Inv (zdj X scope cl x0 (ts++fr.map (·.1)) fp { s2 with heap:=hp3 } (upd H2 s2.heap.objs.size (.lst []))) ([]++zhv fp s7.heap) τ9 H9 s9->Nn τ9 H9 ->
          ∃ m,m<n/\∃ i τ H',Inv (zdj X scope cl x0 (ts++fr.map (·.1)) fp { s2 with heap:=hp3 } (upd H2 s2.heap.objs.size (.lst []))) [] τ H' s9/\tn i s9.heap/\(∀ b∈fp,H' b=none)/\W i m τ H':=fun {τ9 H9 s9} I9 n9=>by
        obtain ⟨m',hm,w9⟩:=hN τ9 H9 n9
        refine ⟨m',hm,i+1,τ9,H9,I9.unpinned,T.keep _ _ _ st7 fun b hb o e=>(I9.pin (b,o) (List.mem_append_right _ (List.mem_append_right _ (zcz hb e)))).1,fun b hb=>?_,w9⟩
        obtain ⟨o,e,d⟩:=T.obj _ _ st7 b hb
        exact (I9.pin (b,o) (List.mem_append_right _ (List.mem_append_right _ (zcz hb e)))).2.1
      refine wpAny_mono (hc fp _ _ _ s8 τ8 H8 _ I8 q8) (fun ok s9 ⟨H9,I9,q9⟩=>?_) fun _ _ z=>False.elim z
      cases ok with
      | false=>exact again I9 q9
      | true =>
        refine wpAny_mono (he fp _ _ _ s9 τ8 H9 _ I9 q9) (fun y s10 ⟨v,H10,I10,rv,ys,hD,hl,qN⟩=>?_) fun _ _ z=>False.elim z
        refine wpAny_mono (zaz (X:=zdj X scope cl x0 (ts++fr.map (·.1)) fp { s2 with heap:=hp3 } (upd H2 s2.heap.objs.size (.lst []))) _ s10 τ8 H10 (.ref s2.heap.objs.size) [v] (.ref s2.heap.objs.size) [y] (fun _ H=>Nn τ8 H) I10 rfl (.cons rv .nil) ⟨_,ys,v,rfl,rfl,hD,hl,qN⟩) (fun _ s11 ⟨_,H11,I11,_,q11⟩=>again I11 q11) fun _ _ z=>False.elim z
  exact codeAny_compStart_list loop (T.self X.A 0 _ _ _ st4 loop)
theorem zsk {i0:Nat} {y:Str} {py spos:Pos} {elt target iter:Expr} {ifs:List Expr} {scope:Scope} {pos:Pos} {cl:List (Str×Addr)} (x0:Str) (ts:List Str) (fr:List (Str×Nat)) {wi:TI} {g:TG} {tc:TT} {te:TE} (hcalm:X.calm=true)
    (hclos:closureFor scope X.env=pure cl) (hcs:∀ n,cellsFrom n scope.names cl=(x0,n) :: cl) (hpc:∀ h,pushCells h scope.names=h.push { cls:=.type "cell", data:=.cell none }) (hkind:scope.kind = .function) (hnames:∀ y∈scope.names,y.2 = .local->scope.names.lookup y.1=some .local)
    (hcl:ClOk X.env cl) (hhas:clAll (relabel scope X.env).names ((x0,0) :: cl)=true) (hfr:FrOk X (relabel scope X.env) fr) (hne:fr.all (fun p=>p.1 != x0)=true)
    (hi:PI X target iter wi) (hg:∀ fp s H,PG (zdj X scope cl x0 (ts++fr.map (·.1)) fp s H) target g) (hc:∀ fp s H,PIfs (zdj X scope cl x0 (ts++fr.map (·.1)) fp s H) ifs tc)
    (he:∀ fp s H,PE (zdj X scope cl x0 (ts++fr.map (·.1)) fp s H) elt te) (hsw:swapsWith (.ListComp elt [⟨target,iter,ifs,0⟩] scope pos) (some (.Name y py)) spos.line X.env=pure true) (hN:X.N.Nodup) (hiy:X.N[i0]? = some y) (hy:Loc X.env.scope y)
    (hs:∀ x,foldedSetIterable iter X.env x=pure x:=by intro _; rfl) (hf:X.fn y=true\/X.env.scope.names.lookup y=some .local:=by first | exact .inl rfl | exact .inr rfl | assumption) :
    PS X (.Assign [.Name y py] (.ListComp elt [⟨target,iter,ifs,0⟩] scope pos) spos) (tAsg (tComp ts.length fr wi g tc te) (gName i0)) :=
  zsj hcalm hclos hcs hpc hkind hnames hcl.get (fun x q=>by
    obtain ⟨c,e⟩:=zib hhas x q
    rw [List.lookup_cons] at e
    cases hb:x == x0 with
    | true=>exact .inl (beq_iff_eq.mp hb)
    | false=>rw [hb] at e; exact .inr ⟨c,e⟩) hfr (fun p hp=>by
    have:=List.all_eq_true.mp hne p hp
    simpa using this) hi hg hc he hsw hN hiy hy hs hf
theorem zxm {o e:Expr} {es:List Expr} {to:TE} {t:TA} {name:Str} {apos cpos:Pos} {T id:String} {r:V->List V->Hp->VK->Prop} (K:PySem.W.Frag) (hK:X.K=K) (pa:PlainAttrs T) (slot:Slot T name id) (hty:typeOf (.builtin id)=pure (.type "method_descriptor")) (hm:MtR X id r) (ho:PE X o to) (ha:PA X (e :: es) t)
    (hbase:attributeBase o name X.env (eval o X.env)=eval o X.env:=by rfl)
    (hfew:((backTo cpos (starEach (e :: es) X.env)).all (fun x=>!x.1) && (backToKw cpos (keywordEach [] X.env)).all (fun x=>x.1.isSome)
      && decide ((e :: es).length+([]:List Keyword).length+(if ([]:List Keyword).isEmpty then 0 else 1)<30))=true:=by rfl)
    (hline:(apos.endLine == cpos.line)=true:=by rfl) (hs:starEach (e :: es) X.env=(false,eval e X.env) :: starEach es X.env:=by rfl) (hplain:(backTo cpos (starEach es X.env)).any (·.1)=false:=by rfl) :
    PE X (.Call (.Attribute o name apos) (e :: es) [] cpos) (tBM K T r to t):=hK ▸ pe_bm pa slot hty hm ho ha hbase hfew hline hs hplain
def rMaxL (K:PySem.W.Frag):List V->Hp->VK->Prop:=fun xs H Q=>∃ (p:Addr) (ns:List Int),xs = [.ref p]/\SqL K H p (ns.map V.int)/\0<ns.length/\∀ m,m∈ns->(∀ a∈ns,a<=m)->Q (.int m) H
theorem zlo (K:PySem.W.Frag) (h:X.K=K) (hc:X.calm=true):CallR X (.builtin "max") (rMaxL K):=by
 subst h
 intro pins s σ H xs us Q I r h
 obtain ⟨p,ns,rfl,hq,hne,q⟩:=h
 obtain ⟨u,rfl,ru⟩:=vals1 r
 cases (show u=Value.ref p from ru)
 obtain ⟨its,rv,hp,hz⟩:=I.list hq
 have hi:=zgt rv
 obtain ⟨zs,e⟩:=hi.allInts.items
 have hl:=hp.isList
 have hns:ns=zs.toList.map (·.1):=by rw [<- hi.numsOf,<- nums_intItems,<- e]
 have hsz:0<zs.size:=by
  have h3:=hne; rw [hns,List.length_map,Array.length_toList] at h3; exact h3
 rw [e] at hl
 refine max_intList (I.ok.hd hc) hl hsz fun v h' tk hv hk=>?_
 obtain ⟨t,rfl⟩:=intItems_at hv
 obtain ⟨h1,h2⟩:=argBest_gt (numAt zs) (zs.size-1)
 refine ⟨.int (numAt zs (argBest (fun i j=>decide (numAt zs i > numAt zs j)) (zs.size-1))),H,I.kept (t':=tk) hk,⟨t,rfl⟩,q _ ?_ fun a ha=>?_⟩
 ·rw [hns,numAt_eq]; exact getD_mem (by rw [List.length_map,Array.length_toList]; omega)
 ·rw [hns] at ha
  obtain ⟨j,hj,rfl⟩:=mem_getD ha
  rw [List.length_map,Array.length_toList] at hj
  rw [<- numAt_eq]; exact h2 j (by omega)
end
end L2
namespace Sw
open PySem L2 PyProof.Rows
def sPl (rm:Int->Option Int) (qs:List Q4):List Nat:=(List.range qs.length).filter fun p=>!(droppedR rm qs).contains p
def sSub (rm:Int->Option Int) (qs:List Q4):List Q4:=(sPl rm qs).filterMap fun p=>qs[p]?
def sSp (n:Nat) (rm:Int->Option Int) (qs:List Q4):List (Rat×Rat):=spansF (endsF (flowF (fsOf (sSub rm qs) (Ti.nil.tags (sSub rm qs))) (2*n+1) 0 0)) 0 (fun _=>none) (sSub rm qs)
def endT (n:Nat) (rm:Int->Option Int) (qs:List Q4):List Str:=(sSp n rm qs).map fun t=>fracS (t.2.num,(t.2.den:Int))
def endS (n:Nat) (rm:Int->Option Int) (qs:List Q4) (p:Nat):Str:=((endT n rm qs)[(sPl rm qs).idxOf p]?).getD Str.empty
def rowG (n:Nat) (rm:Int->Option Int) (qs:List Q4) (g:Nat×Int):List Str:=match qs[g.1]? with
 | some q=>[numS (g.1:Int),numS q.2.1,numS q.1,numS g.2,numS (g.2+q.2.2.1),endS n rm qs g.1]
 | none=>[]
def rowD (qs:List Q4) (p:Nat):List Str:=match qs[p]? with
 | some q=>[numS (p:Int),numS q.2.1,numS q.1,Str.ofString "-", Str.ofString "-", Str.ofString "-"]
 | none=>[]
def headW:List Str:=[Str.ofString "piece", Str.ofString "sender", Str.ofString "comes", Str.ofString "begins", Str.ofString "ends", Str.ofString "flowed"]
def wordsW (n:Nat) (rm:Int->Option Int) (qs:List Q4):List (List Str):=headW :: ((dealtR rm qs).2.2.map (rowG n rm qs)++(droppedR rm qs).map (rowD qs))
section
variable {n:Nat} {M:Int} {a c:Nat} {rm:Int->Option Int} {qs:List Q4}
theorem zti {T:List WI}:∀ {gs:List (Nat×Int)} {cs:List WI},Chs T gs cs->∀ g∈gs,∃ c∈T,c.1=g.1/\wAt c<=g.2
 | _,_,.nil,g,h=>by cases h
 | _,_,.cons (g:=g0) (c:=c0) e ho r,g,h=>by
  rcases List.mem_cons.mp h with z | z
  ·subst z
   obtain ⟨t,m,_,h1,_,_,h2,_⟩:=ho.ex
   exact ⟨c0,List.mem_of_mem_take h2,e,h1 _ h2⟩
  ·exact zti r g z
structure Went (n:Nat) (M:Int) (a c:Nat) (rm:Int->Option Int) (qs:List Q4):Prop where
 g:Good n M a c (sSub rm qs)
 ls:(sSub rm qs).length=(sPl rm qs).length
 at_:∀ (i:Nat) (p:Nat),(sPl rm qs)[i]? = some p->qs[p]? = (sSub rm qs)[i]?/\p<qs.length
 so:(sPl rm qs).Pairwise (· < ·)
 pm:((dealtR rm qs).2.2.map (·.1)).Perm (sPl rm qs)
 bd:∀ g∈(dealtR rm qs).2.2,0<=g.2/\g.2<1000000000000000
 dr:∀ p∈droppedR rm qs,p<qs.length
 dl:(droppedR rm qs).length<=qs.length
theorem went_of (g:Good n M a c qs):Went n M a c rm qs:=by
 obtain ⟨T,cs,tr,td,ch,pmc,bz⟩:=zmm (rm:=rm) g
 obtain ⟨_,_,_,_,bd⟩:=zhe (rm:=rm) g
 have e1:T.map (fun i=>i.1)=sPl rm qs:=tr.pl
 have e2:sSub rm qs=T.map fun i=>i.2.1:=by
  unfold sSub
  rw [<- e1,List.filterMap_map]
  have:∀ l:List WI,(∀ i∈l,qs[i.1]? = some i.2.1)->l.filterMap ((fun p=>qs[p]?) ∘ fun i=>i.1)=l.map fun i=>i.2.1:=fun l=>by
   induction l with
   | nil=>intro _; rfl
   | cons x r ih =>
    intro h
    rw [List.filterMap_cons_some (f:=(fun p=>qs[p]?) ∘ fun i:WI=>i.1) (b:=x.2.1) (h x (by simp)),ih fun i hi=>h i (List.mem_cons_of_mem _ hi),List.map_cons]
  exact this T tr.it
 have e3:(sSub rm qs).length=(sPl rm qs).length:=by rw [e2,<- e1,List.length_map,List.length_map]
 refine ⟨by rw [e2]; exact td.g,e3,fun i p hp=>?_,?_,?_,fun x hx=>⟨?_,bd x hx⟩,fun p hp=>?_,?_⟩
 ·rw [<- e1,List.getElem?_map] at hp
  cases hT:T[i]? with
  | none=>rw [hT] at hp; cases hp
  | some x =>
   rw [hT] at hp
   have hp:x.1=p:=by simpa using hp
   have hx:=tr.it x (List.mem_of_getElem? hT)
   refine ⟨?_,?_⟩
   ·rw [e2,List.getElem?_map,hT,<- hp,hx]; rfl
   ·rw [<- hp]; exact (List.getElem?_eq_some_iff.mp hx).1
 ·unfold sPl
  exact List.pairwise_lt_range.filter _
 ·rw [<- ch.len,<- e1]
  exact pmc.map _
 ·obtain ⟨y,hy,_,h2⟩:=zti ch x hx
  have:=(td.g.pc y.2.1 (List.mem_map.mpr ⟨y,hy,rfl⟩)).1
  have:0<=wAt y:=this
  omega
 ·exact (zij (rm:=rm) g).dk p hp
 ·have e:=zjp (rm:=rm) g (Nat.le_refl _)
  unfold droppedR
  rw [e]
  exact Nat.le_trans (List.length_filter_le _ _) (by rw [List.length_range]; exact Nat.le_refl _)
theorem Went.sp_len (h:Went n M a c rm qs):(sSp n rm qs).length=(sPl rm qs).length:=by unfold sSp; rw [zji,h.ls]
theorem Went.sp_sz (h:Went n M a c rm qs):∀ t∈sSp n rm qs,SzQ 2400 t.2:=fun t ht=>(zru h.g.F h.g.ln h.g.pc h.g.pw _ t ht).2
end
def widthF (rows:List (List Str)) (k:Nat):Nat:=(rows.map fun r=>((r[k]?).getD Str.empty).length).foldl max 0
def padW (rows:List (List Str)) (r:List Str):List Str:=(r.zip (List.range 6)).map fun p=>blanks (widthF rows p.2-p.1.length)++p.1
def colF (rows:List (List Str)):Str:=Txt.join (Str.ofString "\n") (rows.map fun r=>Txt.join (Str.ofString "  ") (padW rows r))
theorem foldl_max:∀ (l:List Nat) (a:Nat),a<=l.foldl max a/\(∀ x∈l,x<=l.foldl max a)/\(l.foldl max a=a\/l.foldl max a∈l)
 | [],a=>⟨Nat.le_refl _,fun x h=>absurd h List.not_mem_nil,.inl rfl⟩
 | y :: l,a=>by
  obtain ⟨h1,h2,h3⟩:=foldl_max l (max a y)
  rw [List.foldl_cons]
  refine ⟨Nat.le_trans (Nat.le_max_left _ _) h1,fun x hx=>?_,?_⟩
  ·rcases List.mem_cons.mp hx with z | z
   ·rw [z]; exact Nat.le_trans (Nat.le_max_right _ _) h1
   ·exact h2 x z
  ·rcases h3 with z | z
   ·rw [z]
    rcases Nat.le_total a y with q | q
    ·right; rw [Nat.max_eq_right q]; simp
    ·left; exact Nat.max_eq_left q
   ·exact .inr (List.mem_cons_of_mem _ z)
theorem width_is {rows:List (List Str)} {k m:Nat} (h1:m∈rows.map fun r=>((r[k]?).getD Str.empty).length) (h2:∀ z∈rows.map fun r=>((r[k]?).getD Str.empty).length,z<=m):widthF rows k=m:=by
 obtain ⟨_,a2,a3⟩:=foldl_max (rows.map fun r=>((r[k]?).getD Str.empty).length) 0
 have b1:=a2 m h1
 unfold widthF
 rcases a3 with z | z
 ·rw [z] at b1 ⊢; omega
 ·have:=h2 _ z
  omega
theorem width_le {rows:List (List Str)} {k b:Nat} (h:∀ r∈rows,∀ z∈r,z.length<=b):widthF rows k<=b:=by
 obtain ⟨_,_,a3⟩:=foldl_max (rows.map fun r=>((r[k]?).getD Str.empty).length) 0
 unfold widthF
 rcases a3 with z | z
 ·rw [z]; exact Nat.zero_le _
 ·obtain ⟨r,hr,e⟩:=List.mem_map.mp z
  rw [<- e]
  cases hk:r[k]? with
  | none=>exact Nat.zero_le _
  | some x=>exact h r hr x (List.mem_of_getElem? hk)
theorem pad_get {rows:List (List Str)} {r:List Str} {j:Nat} {z:Str} (h:r[j]? = some z) (hj:j<6):(padW rows r)[j]? = some (blanks (widthF rows j-z.length)++z):=by
 unfold padW
 rw [List.getElem?_map]
 have:(r.zip (List.range 6))[j]? = some (z,j):=by
  rw [List.getElem?_zip_eq_some]
  exact ⟨h,by rw [List.getElem?_range hj]⟩
 rw [this]
 rfl
theorem pad_len {rows:List (List Str)} {r:List Str} (h:r.length = 6):(padW rows r).length = 6:=by
 unfold padW
 rw [List.length_map,List.length_zip,h,List.length_range]; rfl
theorem pad_le {rows:List (List Str)} {r:List Str} {b:Nat} (h:∀ r∈rows,∀ z∈r,z.length<=b) (hr:r∈rows):∀ z∈padW rows r,z.length<=b:=fun z hz=>by
 unfold padW at hz
 obtain ⟨p,hp,rfl⟩:=List.mem_map.mp hz
 have h1:=width_le (k:=p.2) h
 have h2:=h r hr p.1 (List.of_mem_zip hp).1
 rw [app_len,blanks_len]
 omega
theorem join_okB {sep:Str} {zs:List Str} {m:Nat} (h:∀ z∈zs,z.length<=m) (hm:m*zs.length+zs.length<=1048576) (hs:sep.length<=16):JoinOk sep zs=true:=by
 refine joinOk_of_weight ?_ hs
 have h1:=zil h
 omega
theorem zmp {n:Int} {k:Nat} (hk:0<k) (h:n.natAbs<10 ^ k):(numS n).length<=k+1:=by
 have g:∀ m:Nat,m<10 ^ k->(numS (m:Int)).length<=k:=fun m hm=>toString_length_le (Int.natCast_nonneg m) hk (by exact_mod_cast hm)
 rcases Int.lt_or_le n 0 with q | q
 ·have e:n = -(n.natAbs:Int):=by omega
  have l1:(Str.ofString "-").length = 1:=by decide +kernel
  have:=g _ h
  rw [e,num_neg (by omega),app_len]
  omega
 ·have e:n=(n.natAbs:Int):=by omega
  have:=g _ h
  rw [e]; omega
theorem ztj:2 ^ 2400<=10 ^ 800:=by
 have e:(2 ^ 3) ^ 800 = 2 ^ (3*800):=(Nat.pow_mul 2 3 800).symm
 have h2:2 ^ 2400<=2 ^ (3*800):=Nat.pow_le_pow_right (by decide) (by decide)
 rw [<- e] at h2
 exact Nat.le_trans h2 (Nat.pow_le_pow_left (by decide) _)
theorem zva {q:Rat} (h:SzQ 2400 q):(fracS (q.num,(q.den:Int))).length<=1700:=by
 have h1:(numS q.num).length<=801:=zmp (by decide) (Nat.lt_of_lt_of_le h.n ztj)
 have h2:(numS (q.den:Int)).length<=801:=zmp (by decide) (Nat.lt_of_lt_of_le h.d ztj)
 unfold fracS
 simp only
 split
 ·omega
 ·have:slash.length = 1:=by decide +kernel
  rw [app_len,app_len]
  omega
theorem Went.end_le {n:Nat} {M:Int} {a c:Nat} {rm:Int->Option Int} {qs:List Q4} (h:Went n M a c rm qs) (p:Nat):(endS n rm qs p).length<=1700:=by
 unfold endS
 cases e:(endT n rm qs)[(sPl rm qs).idxOf p]? with
 | none=>exact Nat.zero_le _
 | some z =>
  have hm:=List.mem_of_getElem? e
  unfold endT at hm
  obtain ⟨t,ht,rfl⟩:=List.mem_map.mp hm
  exact zva (h.sp_sz t ht)
theorem zek {n:Int} (h0:-1000000000000000000<=n) (h1:n<=1000000000000000000):(numS n).length<=2000:=Nat.le_trans (zmp (k:=19) (by decide) (by omega)) (by decide)
theorem words_ok {n:Nat} {M:Int} {a c:Nat} {rm:Int->Option Int} {qs:List Q4} (h:Went n M a c rm qs) (g:Good n M a c qs) (wh:∀ q∈qs,0<=q.2.1/\q.2.1<=1000):∀ r∈wordsW n rm qs,r.length = 6/\∀ z∈r,z.length<=2000:=by
 have n60:qs.length<=60:=by have:=g.ln; have:=g.F.n1; omega
 intro r hr
 unfold wordsW at hr
 rcases List.mem_cons.mp hr with rfl | hr
 ·refine ⟨rfl,?_⟩
  unfold headW
  decide +kernel
 rcases List.mem_append.mp hr with hr | hr
 ·obtain ⟨x,hx,rfl⟩:=List.mem_map.mp hr
  have bd:=h.bd x hx
  have hm:x.1∈sPl rm qs:=h.pm.subset (List.mem_map.mpr ⟨x,hx,rfl⟩)
  obtain ⟨jj,hjj⟩:=List.mem_iff_getElem?.mp hm
  have hlt:=(h.at_ jj x.1 hjj).2
  obtain ⟨q,hq⟩:∃ q,qs[x.1]? = some q:=⟨_,List.getElem?_eq_getElem hlt⟩
  have pc:=g.pc q (List.mem_of_getElem? hq)
  have wq:=wh q (List.mem_of_getElem? hq)
  have q1:=pc.1
  have q2:=pc.2.1
  have q3:=pc.2.2.1
  have q4':=pc.2.2.2.1
  unfold rowG
  rw [hq]
  refine ⟨rfl,fun z hz=>?_⟩
  simp only [List.mem_cons,List.not_mem_nil,or_false] at hz
  rcases hz with rfl | rfl | rfl | rfl | rfl | rfl
  ·exact zek (by omega) (by omega)
  ·exact zek (by omega) (by omega)
  ·exact zek (by omega) (by omega)
  ·exact zek (by omega) (by omega)
  ·exact zek (by omega) (by omega)
  ·exact Nat.le_trans (h.end_le x.1) (by decide)
 ·obtain ⟨p,hp,rfl⟩:=List.mem_map.mp hr
  have hlt:=h.dr p hp
  obtain ⟨q,hq⟩:∃ q,qs[p]? = some q:=⟨_,List.getElem?_eq_getElem hlt⟩
  have pc:=g.pc q (List.mem_of_getElem? hq)
  have wq:=wh q (List.mem_of_getElem? hq)
  have q1:=pc.1
  have q2:=pc.2.1
  have dash:(Str.ofString "-").length<=2000:=by decide +kernel
  unfold rowD
  rw [hq]
  refine ⟨rfl,fun z hz=>?_⟩
  simp only [List.mem_cons,List.not_mem_nil,or_false] at hz
  rcases hz with rfl | rfl | rfl | rfl | rfl | rfl
  ·exact zek (by omega) (by omega)
  ·exact zek (by omega) (by omega)
  ·exact zek (by omega) (by omega)
  ·exact dash
  ·exact dash
  ·exact dash
def accF (ws:List Str):Nat->Str
 | 0=>Str.ofString ""
 | k+1=>if k<5 then accF ws k++(ws[k]?).getD Str.empty++Str.ofString "  " else accF ws k++(ws[k]?).getD Str.empty
theorem acc_six {ws:List Str} (h:ws.length = 6):accF ws 6=Txt.join (Str.ofString "  ") ws:=by
 match ws,h with
 | [a,b,c,d,e,f],_ =>
  rw [zfx]
  show Str.ofString "" ++ a++Str.ofString "  " ++ b++Str.ofString "  " ++ c++Str.ofString "  " ++ d++Str.ofString "  " ++ e++Str.ofString "  " ++ f=a++Str.ofString "  " ++ (b++Str.ofString "  " ++ (c++Str.ofString "  " ++ (d++Str.ofString "  " ++ (e++Str.ofString "  " ++ f))))
  have e0:Str.ofString "" = Str.empty:=by decide +kernel
  rw [e0]
  simp only [empty_app,app_assoc]
theorem acc_len {ws:List Str} {b:Nat} (h:∀ z∈ws,z.length<=b):∀ k,(accF ws k).length<=(b+2)*k
 | 0=>Nat.zero_le _
 | k+1=>by
  have ih:=acc_len h k
  have h2:(Str.ofString "  ").length = 2:=by decide +kernel
  have hw:((ws[k]?).getD Str.empty).length<=b:=by
   cases e:ws[k]? with
   | none=>exact Nat.zero_le _
   | some z=>exact h z (List.mem_of_getElem? e)
  unfold accF
  rw [Nat.mul_add,Nat.mul_one]
  split
  ·rw [app_len,app_len]; omega
  ·rw [app_len]; omega
end Sw
namespace L2
open PySem PySem.Spec PyProof.Rows
def rMulB:R2:=fun x y H Q=>∃ z n,x = .str z/\y = .int n/\0<=n/\n<100000/\z.length<10/\Q (.str (Txt.mul z n)) H
section
variable {X:Cx}
theorem zvb:OpR X (binaryOp .Mult) rMulB:=by
 intro pins s σ H x y v u Q I rx ry h
 obtain ⟨z,n,rfl,rfl,n0,n1,hz,q⟩:=h
 obtain ⟨t,rfl⟩:=rx
 obtain ⟨t',rfl⟩:=ry
 refine SB.mul ⟨?_,fun a b=>?_,fun a b=>?_⟩ fun t' k=>⟨.str _,H,I.tok _,⟨_,rfl⟩,q⟩
 ·simp; omega
 ·have h1:(z.length:Int)*n<=2 ^ 63-1:=by
   have:=Int.mul_le_mul (show (z.length:Int)<=10 by omega) (show n<=100000 by omega) n0 (by decide)
   omega
  have:=(Int.le_ediv_iff_mul_le (show 0<n by omega)).mpr h1
  omega
 ·unfold Builtin.Str.tooLong
  rw [decide_eq_false_iff_not]
  have h1:=Nat.mul_le_mul (show z.length<=10 by omega) (show n.toNat<=100000 by omega)
  have hs:sizeLine = 16777216:=sizeLine_eq
  omega
end
end L2
namespace L2
open PySem PySem.Spec PyProof.Rows PySem.MeetsSeq
section
variable {X:Cx}
end
end L2
local macro_rules | `(tactic| walk_at "rd")=>`(tactic| try simp only [L2.tAsg,L2.tOp,L2.tUn,L2.gName,L2.tVar,L2.tC,L2.rI,L2.rI0,L2.rU,L2.rEq,L2.rNe,L2.scal,L2.tTest,L2.tIfS,L2.tRet,L2.tRetN,L2.tNext,L2.tDrop,L2.tCB,L2.tCons,L2.tNil,L2.tCall,L2.tAndV,L2.tOrV,L2.tNotV,L2.tAnd,L2.tOr,L2.tNot,L2.tB,L2.tIf,L2.tChain,L2.tTup,L2.tLst,L2.tBM,L2.tBM0,L2.tComp_eq,L2.tCallX,L2.tCallN,L2.tDGet,L2.tDGet1,L2.tDGet2,L2.sDPut,L2.tDIn,L2.tDNotIn,L2.tDSd,L2.tDNewK,L2.tTru,L2.tFld_eq,L2.sFld_eq,L2.tMethX_eq,L2.tMakeX,L2.tXmk,L2.tXmk1,L2.tRaise,L2.tTry,L2.tTryAs,L2.hkOf,L2.iList,L2.iTup,L2.iEnum,L2.iRng1,L2.iRng2,L2.iRng3,L2.iEnum1,L2.iRev,L2.tSl,L2.tPart,L2.tNoPart,L2.gTup,L2.gCons,L2.gNil,L2.spInt1,L2.spInt2,L2.spWhole,
 List.getElem?_cons_zero,List.getElem?_cons_succ,List.set_cons_zero,List.set_cons_succ,List.cons_append,List.nil_append,List.append_nil,Option.some.injEq,L2.V.int.injEq,L2.V.bl.injEq,L2.V.ref.injEq,L2.V.str.injEq,List.cons.injEq,exists_eq_left',exists_eq_left,exists_eq_right,exists_and_left,exists_and_right,and_true,true_and,and_self,exists_const,exists_eq,exists_eq',and_assoc,decide_eq_true_eq,Bool.not_eq_true',Bool.not_true,Bool.not_false,Bool.false_eq_true,Bool.true_eq_false,if_true,if_false,decide_eq_false_iff_not,ite_not,↓reduceIte,Int.reduceLT,Int.reduceLE,Int.reducePow,Int.reduceMul,Int.reduceAdd,Int.reduceSub,Int.reduceNeg,Int.reduceToNat,Int.reduceEq,Int.reduceNe,L2.CPow,L2.cmulL_lit,L2.line_lit,L2.line_lt,List.length_cons,List.length_nil,Nat.reduceAdd,Nat.zero_add,L2.cdivL_lit,Int.natAbs_natCast,Int.natAbs_neg,Nat.reducePow,Nat.reduceLT,Nat.reduceLeDiff,Int.natAbs,L2.tPar,ne_eq,not_false_eq_true,not_true_eq_false])
local macro_rules | `(tactic| walk_at "rds")=>`(tactic| try simp only [L2.tSeq,L2.tAsg,L2.tOp,L2.tUn,L2.gName,L2.tVar,L2.tC,L2.rI,L2.rI0,L2.rU,L2.rEq,L2.rNe,L2.scal,L2.tTest,L2.tIfS,L2.tRet,L2.tRetN,L2.tNext,L2.tDrop,L2.tCB,L2.tCons,L2.tNil,L2.tCall,L2.tAndV,L2.tOrV,L2.tNotV,L2.tAnd,L2.tOr,L2.tNot,L2.tB,L2.tIf,L2.tChain,L2.tTup,L2.tLst,L2.tBM,L2.tBM0,L2.tComp_eq,L2.tCallX,L2.tCallN,L2.tDGet,L2.tDGet1,L2.tDGet2,L2.sDPut,L2.tDIn,L2.tDNotIn,L2.tDSd,L2.tDNewK,L2.tTru,L2.tFld_eq,L2.sFld_eq,L2.tMethX_eq,L2.tMakeX,L2.tXmk,L2.tXmk1,L2.tRaise,L2.tTry,L2.tTryAs,L2.hkOf,L2.iList,L2.iTup,L2.iEnum,L2.iRng1,L2.iRng2,L2.iRng3,L2.iEnum1,L2.iRev,L2.tSl,L2.tPart,L2.tNoPart,L2.gTup,L2.gCons,L2.gNil,L2.spInt1,L2.spInt2,L2.spWhole,
 List.getElem?_cons_zero,List.getElem?_cons_succ,List.set_cons_zero,List.set_cons_succ,List.cons_append,List.nil_append,List.append_nil,Option.some.injEq,L2.V.int.injEq,L2.V.bl.injEq,L2.V.ref.injEq,L2.V.str.injEq,List.cons.injEq,exists_eq_left',exists_eq_left,exists_eq_right,exists_and_left,exists_and_right,and_true,true_and,and_self,exists_const,exists_eq,exists_eq',and_assoc,decide_eq_true_eq,Bool.not_eq_true',Bool.not_true,Bool.not_false,Bool.false_eq_true,Bool.true_eq_false,if_true,if_false,decide_eq_false_iff_not,ite_not,↓reduceIte,Int.reduceLT,Int.reduceLE,Int.reducePow,Int.reduceMul,Int.reduceAdd,Int.reduceSub,Int.reduceNeg,Int.reduceToNat,Int.reduceEq,Int.reduceNe,L2.CPow,L2.cmulL_lit,L2.line_lit,L2.line_lt,List.length_cons,List.length_nil,Nat.reduceAdd,Nat.zero_add,L2.cdivL_lit,Int.natAbs_natCast,Int.natAbs_neg,Nat.reducePow,Nat.reduceLT,Nat.reduceLeDiff,Int.natAbs,L2.tPar,ne_eq,not_false_eq_true,not_true_eq_false])
namespace K83
open PySem L2 PyProof.Rows
def top (i:Nat):Stmt:=PySem.Challenge.pw_sharewheel_k83_the_report.main.body.getD i (.Pass ⟨0,0,0,0⟩)
abbrev zeq:Stmt:=top 4
abbrev zgw:Stmt:=top 5
abbrev zjq:Stmt:=top 6
abbrev zgx:Stmt:=top 7
abbrev zgy:Stmt:=top 8
abbrev zjr:Stmt:=top 9
abbrev zgz:Stmt:=top 10
abbrev zfo:Stmt:=top 11
abbrev zer:Stmt:=top 12
abbrev zha:Stmt:=top 13
abbrev zdx:Stmt:=top 15
abbrev zes:Stmt:=top 18
abbrev zdy:Stmt:=top 19
abbrev zdm:Stmt:=top 20
abbrev zjs:Stmt:=top 21
abbrev zhb:Stmt:=top 22
abbrev zdn:Stmt:=top 25
abbrev zdr:Stmt:=top 26
abbrev zdb:Stmt:=top 29
abbrev zbu:Stmt:=top 30
abbrev zdc:Stmt:=top 31
abbrev zbv:Stmt:=top 32
abbrev zdz:Stmt:=top 33
abbrev zct:Stmt:=top 34
abbrev zbz:Stmt:=top 36
abbrev zco:Stmt:=top 37
abbrev zea:Stmt:=top 38
abbrev zdd:Stmt:=top 39
abbrev zde:Stmt:=top 40
abbrev zdo:Stmt:=top 41
abbrev s_law:Stmt:=top 42
theorem sc_divisor:FnScope ["one", "other", "great", "small", "rest"] ["one", "other"] (zag zeq):=⟨rfl,rfl,rfl,by decide +kernel,rfl,by decide +kernel,by decide +kernel⟩
theorem sc_ratio:FnScope ["top", "bottom", "common"] ["top", "bottom"] (zag zgw):=⟨rfl,rfl,rfl,by decide +kernel,rfl,by decide +kernel,by decide +kernel⟩
theorem zvc:FnScope ["one", "other"] ["one", "other"] (zag zjq):=⟨rfl,rfl,rfl,by decide +kernel,rfl,by decide +kernel,by decide +kernel⟩
theorem zsl:FnScope ["one", "other"] ["one", "other"] (zag zgx):=⟨rfl,rfl,rfl,by decide +kernel,rfl,by decide +kernel,by decide +kernel⟩
theorem zsm:FnScope ["one", "other"] ["one", "other"] (zag zgy):=⟨rfl,rfl,rfl,by decide +kernel,rfl,by decide +kernel,by decide +kernel⟩
theorem zvd:FnScope ["one", "other"] ["one", "other"] (zag zjr):=⟨rfl,rfl,rfl,by decide +kernel,rfl,by decide +kernel,by decide +kernel⟩
theorem zsn:FnScope ["one", "other"] ["one", "other"] (zag zgz):=⟨rfl,rfl,rfl,by decide +kernel,rfl,by decide +kernel,by decide +kernel⟩
theorem sc_lesser:FnScope ["one", "other", "least"] ["one", "other"] (zag zfo):=⟨rfl,rfl,rfl,by decide +kernel,rfl,by decide +kernel,by decide +kernel⟩
theorem sc_greater:FnScope ["one", "other", "most"] ["one", "other"] (zag zer):=⟨rfl,rfl,rfl,by decide +kernel,rfl,by decide +kernel,by decide +kernel⟩
theorem sc_least:FnScope ["some", "result", "one"] ["some"] (zag zha):=⟨rfl,rfl,rfl,by decide +kernel,rfl,by decide +kernel,by decide +kernel⟩
theorem zmq:FnScope ["tagged", "mark"] ["tagged", "mark"] (zag zdx):=⟨rfl,rfl,rfl,by decide +kernel,rfl,by decide +kernel,by decide +kernel⟩
theorem sc_tags_of:FnScope ["row", "tide"] ["row"] (zag zes):=⟨rfl,rfl,rfl,by decide +kernel,rfl,by decide +kernel,by decide +kernel⟩
theorem sc_heads_at:FnScope ["row", "tags", "moment", "mark", "heads", "place", "piece", "begin", "end", "come"] ["row", "tags", "moment", "mark"] (zag zdy):=⟨rfl,rfl,rfl,by decide +kernel,rfl,by decide +kernel,by decide +kernel⟩
theorem sc_first_end:FnScope ["tags", "heads", "shares", "moment", "mark", "way"] ["tags", "heads", "shares", "moment", "mark"] (zag zdm):=⟨rfl,rfl,rfl,by decide +kernel,rfl,by decide +kernel,by decide +kernel⟩
theorem sc_flow:FnScope ["row", "tags", "stretches", "moment", "mark", "heads", "shares", "changes", "after"] ["row"] (zag zjs):=⟨rfl,rfl,rfl,by decide +kernel,rfl,by decide +kernel,by decide +kernel⟩
theorem sc_spans:FnScope ["row", "ends", "start", "end", "parts", "place", "rate", "ahead", "told", "piece", "begin"] ["row"] (zag zhb):=⟨rfl,rfl,rfl,by decide +kernel,rfl,by decide +kernel,by decide +kernel⟩
theorem sc_overflows:FnScope ["wheel", "piece", "rooms", "room"] ["wheel", "piece", "rooms"] (zag zdn):=⟨rfl,rfl,rfl,by decide +kernel,rfl,by decide +kernel,by decide +kernel⟩
theorem sc_dealt:FnScope ["row", "rooms", "wheel", "dropped", "place", "piece"] ["row", "rooms"] (zag zdr):=⟨rfl,rfl,rfl,by decide +kernel,rfl,by decide +kernel,by decide +kernel⟩
theorem sc_figures_of:FnScope ["number", "part", "written"] ["number"] (zag zdb):=⟨rfl,rfl,rfl,by decide +kernel,rfl,by decide +kernel,by decide +kernel⟩
theorem sc_show_fraction:FnScope ["one", "sign", "top"] ["one"] (zag zbu):=⟨rfl,rfl,rfl,by decide +kernel,rfl,by decide +kernel,by decide +kernel⟩
theorem sc_words_gone:FnScope ["row", "gone", "places", "flows", "ends", "place", "span", "rows", "start", "piece", "end"] ["row", "gone"] (zag zdc):=⟨rfl,rfl,rfl,by decide +kernel,rfl,by decide +kernel,by decide +kernel⟩
theorem zhi:FnScope ["row", "dropped"] ["row", "dropped"] (zag zbv):=⟨rfl,rfl,rfl,by decide +kernel,rfl,by decide +kernel,by decide +kernel⟩
theorem sc_columned:FnScope ["rows", "widths", "lines", "words"] ["rows"] (zag zdz):=⟨rfl,rfl,rfl,by decide +kernel,rfl,by decide +kernel,by decide +kernel⟩
theorem sc_report:FnScope ["row", "rooms", "told"] ["row", "rooms"] (zag zct):=⟨rfl,rfl,rfl,by decide +kernel,rfl,by decide +kernel,by decide +kernel⟩
theorem zin:FnScope ["_law_script", "_law_k"] ["_law_script", "_law_k"] (zag zbz):=⟨rfl,rfl,rfl,by decide +kernel,rfl,by decide +kernel,by decide +kernel⟩
theorem sc__law_stream:FnScope ["_law_cell", "_law_many", "_law_found", "_law_number", "_law_k"] ["_law_cell", "_law_many"] (zag zco):=⟨rfl,rfl,rfl,by decide +kernel,rfl,by decide +kernel,by decide +kernel⟩
theorem sc__law_row:FnScope ["_law_script", "_law_kind", "_law_way", "_law_at", "_law_row_here", "_law_cell", "_law_xs", "_law_length"] ["_law_script"] (zag zea):=⟨rfl,rfl,rfl,by decide +kernel,rfl,by decide +kernel,by decide +kernel⟩
theorem sc__law_rooms:FnScope ["_law_cell", "_law_row_here", "_law_rooms_here", "_law_xs", "_law_who"] ["_law_cell", "_law_row_here"] (zag zdd):=⟨rfl,rfl,rfl,by decide +kernel,rfl,by decide +kernel,by decide +kernel⟩
theorem sc__law_words:FnScope ["_law_row_here", "_law_goings", "_law_dropped", "_law_places", "_law_ends", "_law_lines", "_law_place", "_law_start", "_law_at", "_law_who", "_law_length", "_law_share", "_law_words_here"] ["_law_row_here", "_law_goings", "_law_dropped"] (zag zde):=⟨rfl,rfl,rfl,by decide +kernel,rfl,by decide +kernel,by decide +kernel⟩
theorem sc__law_laid:FnScope ["_law_lines", "_law_made", "_law_words_here", "_law_row_here", "_law_k", "_law_wide"] ["_law_lines"] (zag zdo):=⟨rfl,rfl,rfl,by decide +kernel,rfl,by decide +kernel,by decide +kernel⟩
theorem sc_law:FnScope ["_law_script", "_law_row_here", "_law_rooms_here", "_law_handed", "_law_found", "_law_goings", "_law_dropped", "_law_kept"] ["_law_script"] (zag s_law):=⟨rfl,rfl,rfl,by decide +kernel,rfl,by decide +kernel,by decide +kernel⟩
abbrev zcv:Stmt:=zec (top 16) 0
theorem zlp:FnScope ["self"] ["self"] (zag zcv):=⟨rfl,rfl,rfl,by decide +kernel,rfl,by decide +kernel,by decide +kernel⟩
abbrev zcw:Stmt:=zec (top 16) 1
theorem sc_Tide_mark:FnScope ["self", "at", "moment", "reached", "heads", "shares", "first_end", "after"] ["self", "at"] (zag zcw):=⟨rfl,rfl,rfl,by decide +kernel,rfl,by decide +kernel,by decide +kernel⟩
abbrev zcx:Stmt:=zec (top 16) 2
theorem sc_Tide_come:FnScope ["self", "piece", "reached", "begin", "end"] ["self", "piece"] (zag zcx):=⟨rfl,rfl,rfl,by decide +kernel,rfl,by decide +kernel,by decide +kernel⟩
abbrev zcj:Stmt:=zec (top 24) 0
theorem zkm:FnScope ["self"] ["self"] (zag zcj):=⟨rfl,rfl,rfl,by decide +kernel,rfl,by decide +kernel,by decide +kernel⟩
abbrev zbh:Stmt:=zec (top 24) 1
theorem zhc:FnScope ["self", "who"] ["self", "who"] (zag zbh):=⟨rfl,rfl,rfl,by decide +kernel,rfl,by decide +kernel,by decide +kernel⟩
abbrev zbl:Stmt:=zec (top 24) 2
theorem zhj:FnScope ["self", "place", "piece"] ["self", "place", "piece"] (zag zbl):=⟨rfl,rfl,rfl,by decide +kernel,rfl,by decide +kernel,by decide +kernel⟩
abbrev zaw:Stmt:=zec (top 24) 3
theorem zfr:FnScope ["self"] ["self"] (zag zaw):=⟨rfl,rfl,rfl,by decide +kernel,rfl,by decide +kernel,by decide +kernel⟩
abbrev zbc:Stmt:=zec (top 24) 4
theorem sc_Wheel_next_to_go:FnScope ["self", "mark", "chosen", "one", "begun"] ["self", "mark"] (zag zbc):=⟨rfl,rfl,rfl,by decide +kernel,rfl,by decide +kernel,by decide +kernel⟩
abbrev zax:Stmt:=zec (top 24) 5
theorem sc_Wheel_make_choice:FnScope ["self", "start", "chosen"] ["self"] (zag zax):=⟨rfl,rfl,rfl,by decide +kernel,rfl,by decide +kernel,by decide +kernel⟩
abbrev zbf:Stmt:=zec (top 24) 6
theorem zgp:FnScope ["self", "at"] ["self", "at"] (zag zbf):=⟨rfl,rfl,rfl,by decide +kernel,rfl,by decide +kernel,by decide +kernel⟩
abbrev zbm:Stmt:=zec (top 24) 7
theorem zhk:FnScope ["self"] ["self"] (zag zbm):=⟨rfl,rfl,rfl,by decide +kernel,rfl,by decide +kernel,by decide +kernel⟩
structure Txt (K:PySem.W.Frag) (mg:Str->Option Value) (c_NoRatio:Addr) (c_Tide:Addr) (c_Wheel:Addr):Prop where
 mg_NoRatio:mg "NoRatio" = some (.ref c_NoRatio)
 xc_NoRatio:XC K c_NoRatio
 kp_NoRatio:PySem.W.keepIn K (.ref c_NoRatio)=true
 ex_NoRatio:PySem.W.excIn K c_NoRatio bmV "ValueError.__new__" = true
 sub_NoRatio_NoRatio:PySem.W.subIn K (.ref c_NoRatio) (.ref c_NoRatio)=some true
 kit_NoRatio_NoRatio:PySem.W.kitOne K (.ref c_NoRatio) (.ref c_NoRatio)=some true
 kit_NoRatio_ValueError:PySem.W.kitOne K (.ref c_NoRatio) (.type "ValueError")=some true
 no_abs:mg "abs" = none
 no_enumerate:mg "enumerate" = none
 no_sum:mg "sum" = none
 no_reversed:mg "reversed" = none
 no_str:mg "str" = none
 no_zip:mg "zip" = none
 no_sorted:mg "sorted" = none
 no_range:mg "range" = none
 no_len:mg "len" = none
 no_max:mg "max" = none
 no_list:mg "list" = none
 no_isinstance:mg "isinstance" = none
 no_dict:mg "dict" = none
 mg_HEADINGS:∃ a,mg "HEADINGS" = some (.ref a)/\∀ H,SqT K H a [.str (Str.ofString "piece"),.str (Str.ofString "sender"),.str (Str.ofString "comes"),.str (Str.ofString "begins"),.str (Str.ofString "ends"),.str (Str.ofString "flowed")]
 src_divisor:Src K mg "divisor" zeq ["one", "other"]
 src_ratio:Src K mg "ratio" zgw ["top", "bottom"]
 src_plus:Src K mg "plus" zjq ["one", "other"]
 src_minus:Src K mg "minus" zgx ["one", "other"]
 src_times:Src K mg "times" zgy ["one", "other"]
 src_over:Src K mg "over" zjr ["one", "other"]
 src_under:Src K mg "under" zgz ["one", "other"]
 src_lesser:Src K mg "lesser" zfo ["one", "other"]
 src_greater:Src K mg "greater" zer ["one", "other"]
 src_least:Src K mg "least" zha ["some"]
 src_heads_of:Src K mg "heads_of" zdx ["tagged", "mark"]
 src_tags_of:Src K mg "tags_of" zes ["row"]
 src_heads_at:Src K mg "heads_at" zdy ["row", "tags", "moment", "mark"]
 src_first_end:Src K mg "first_end" zdm ["tags", "heads", "shares", "moment", "mark"]
 src_flow:Src K mg "flow" zjs ["row"]
 src_spans:Src K mg "spans" zhb ["row"]
 src_overflows:Src K mg "overflows" zdn ["wheel", "piece", "rooms"]
 src_dealt:SrcD K mg "dealt" zdr ["row", "rooms"] [[],[V.non]]
 src_figures_of:Src K mg "figures_of" zdb ["number"]
 src_show_fraction:Src K mg "show_fraction" zbu ["one"]
 src_words_gone:Src K mg "words_gone" zdc ["row", "gone"]
 src_words_dropped:Src K mg "words_dropped" zbv ["row", "dropped"]
 src_columned:Src K mg "columned" zdz ["rows"]
 src_report:SrcD K mg "report" zct ["row", "rooms"] [[],[V.non]]
 src__law_cell_at:Src K mg "_law_cell_at" zbz ["_law_script", "_law_k"]
 src__law_stream:Src K mg "_law_stream" zco ["_law_cell", "_law_many"]
 src__law_row:Src K mg "_law_row" zea ["_law_script"]
 src__law_rooms:Src K mg "_law_rooms" zdd ["_law_cell", "_law_row_here"]
 src__law_words:Src K mg "_law_words" zde ["_law_row_here", "_law_goings", "_law_dropped"]
 src__law_laid:Src K mg "_law_laid" zdo ["_law_lines"]
 mg_Tide:mg "Tide" = some (.ref c_Tide)
 cl_Tide:Cls K c_Tide
 na_Tide_latest:NoAttr K c_Tide "latest"
 na_Tide_reached:NoAttr K c_Tide "reached"
 na_Tide_unflowed:NoAttr K c_Tide "unflowed"
 na_Tide_last_ends:NoAttr K c_Tide "last_ends"
 in_Tide:SrcK K c_Tide "Tide.__init__" zcv ["self"] [[]]
 me_Tide_mark:SrcM K c_Tide "mark" "Tide.mark" zcw ["self", "at"] [[]]
 me_Tide_come:SrcM K c_Tide "come" "Tide.come" zcx ["self", "piece"] [[]]
 mg_Wheel:mg "Wheel" = some (.ref c_Wheel)
 cl_Wheel:Cls K c_Wheel
 na_Wheel_tide:NoAttr K c_Wheel "tide"
 na_Wheel_free:NoAttr K c_Wheel "free"
 na_Wheel_queue:NoAttr K c_Wheel "queue"
 na_Wheel_gone:NoAttr K c_Wheel "gone"
 in_Wheel:SrcK K c_Wheel "Wheel.__init__" zcj ["self"] [[]]
 me_Wheel_piled_up:SrcM K c_Wheel "piled_up" "Wheel.piled_up" zbh ["self", "who"] [[]]
 me_Wheel_take_in:SrcM K c_Wheel "take_in" "Wheel.take_in" zbl ["self", "place", "piece"] [[]]
 me_Wheel_choice_time:SrcM K c_Wheel "choice_time" "Wheel.choice_time" zaw ["self"] [[]]
 me_Wheel_next_to_go:SrcM K c_Wheel "next_to_go" "Wheel.next_to_go" zbc ["self", "mark"] [[]]
 me_Wheel_make_choice:SrcM K c_Wheel "make_choice" "Wheel.make_choice" zax ["self"] [[]]
 me_Wheel_run_up_to:SrcM K c_Wheel "run_up_to" "Wheel.run_up_to" zbf ["self", "at"] [[]]
 me_Wheel_run_out:SrcM K c_Wheel "run_out" "Wheel.run_out" zbm ["self"] [[]]
section
variable {P:Program} {w:World} {K:PySem.W.Frag} {mg:Str->Option Value} {base:Heap} {c_NoRatio c_Tide c_Wheel:Addr}
theorem zqx (T:Txt K mg c_NoRatio c_Tide c_Wheel):Def P w K mg base (CXX P w) 1 "divisor" ["one", "other"] (spInt2 Sw.dv):=by
 refine T.src_divisor.okN (k:=0) sc_divisor (fun vs H Q E h=>?_) (fun f cdv A outer s H vs Q E hr h=>?_)
 ·obtain ⟨a,b,rfl,_⟩:=h
  rfl
 ·obtain ⟨a,b,rfl,k⟩:=h
  refine ⟨_,(zac (zal (i:=2) sc_divisor.nd rfl (zbn zjy rfl T.no_abs boot_abs (zaa (pv 0) zae))) (zac (zal (i:=3) sc_divisor.nd rfl (zbn zjy rfl T.no_abs boot_abs (zaa (pv 1) zae))) (zac (zfk PassesOwn.never (zcb op_ne (pv 3) zaj (zcp _)) (zac (zal (i:=4) sc_divisor.nd rfl (pe_op zeg (pv 2) (pv 3))) (zac (zal (i:=2) sc_divisor.nd rfl (pv 3)) (zan (zal (i:=3) sc_divisor.nd rfl (pv 4)))))) (zan (zay (pv 2)))))),?_⟩
  refine ⟨_,rfl,a,rfl,?_⟩
  refine ⟨_,rfl,b,rfl,?_⟩
  refine zkx (fun σ H'=>H'=H/\∃ g s r,σ = [some (.int a),some (.int b),some (.int g),some (.int s),r]/\0<=g/\0<=s/\Sw.dv g s=Sw.dv a b)
   (fun σ _=>match σ with | [_,_,_,some (.int s),_]=>s.toNat | _=>0) ⟨rfl,_,_,none,rfl,?_,?_,Sw.dv_abs a b⟩ ?_
  ·split <;> omega
  ·split <;> omega
  ·rintro σ H' ⟨rfl,g,s,r,rfl,hg,hs,e⟩
   refine ⟨!decide (V.int s=V.int 0),fun Q hQ=>⟨_,rfl,rfl,_,rfl,hQ⟩,fun hb=>?_,fun hb=>?_⟩
   ·have hs0:s≠0:=by intro z; subst z; simp at hb
    have hsp:0<s:=by omega
    refine ⟨_,rfl,_,rfl,_,_,rfl,rfl,hsp,?_⟩
    refine ⟨_,rfl,?_⟩
    refine ⟨_,rfl,?_⟩
    refine ⟨⟨rfl,s,g % s,_,rfl,hs,Int.emod_nonneg g hs0,by rw [Sw.dv_step]; exact e⟩,?_⟩
    show (g % s).toNat<s.toNat
    have:=Int.emod_lt_of_pos g hsp
    have:=Int.emod_nonneg g hs0
    omega
   ·have hs0:s = 0:=by
     have:V.int s=V.int 0:=by simpa using hb
     exact V.int.inj this
    subst hs0
    rw [Sw.dv_zero g hg] at e
    refine ⟨_,rfl,?_⟩
    show Q (.int g) H'
    rw [e]; exact k
def spRat (cN:Addr):Sp:=fun vs H Q E=>∃ t b z,vs = [.int t,.int b]/\z<=5000/\Sw.Sz z b/\(b≠0->∀ p,H p=none->Q (.ref p) (upd H p (.tup (fq ((t:Rat) / (b:Rat)))))) /\
 (b = 0->∀ e,H e=none->E (.ref e) none (upd H e (excO e cN none false)))
theorem zfy (T:Txt K mg c_NoRatio c_Tide c_Wheel):Def P w K mg base (CXX P w) 2 "ratio" ["top", "bottom"] (spRat c_NoRatio):=by
 have D_divisor:=zqx (P:=P) (w:=w) (base:=base) T
 refine T.src_ratio.okX (k:=1) sc_ratio (fun vs H Q E h=>?_) (fun f cdv A outer s H vs Q E hr h=>?_)
 ·obtain ⟨t,b,z,rfl,_⟩:=h
  rfl
 ·obtain ⟨t,b,z,rfl,z5,sb,k,kx⟩:=h
  refine ⟨_,(zac (ps_if (zcb op_eq (pv 1) zaj (zcp _)) (zan (zrn K rfl rfl zwt (zwu T.ex_NoRatio T.kp_NoRatio rfl T.mg_NoRatio (zaa zce zae)))) zdf) (zac (zal (i:=2) sc_ratio.nd rfl (zao D_divisor (hr.mono (by decide)) rfl passF (zaa (pv 0) (zaa (pv 1) zae)))) (zac (ps_if (zcb op_lt (pv 1) zaj (zcp _)) (zan (zal (i:=2) sc_ratio.nd rfl (pe_un zwf (pv 2)))) zdf) (zan (zay (zcg (zaa (pe_op zne (pv 0) (pv 2)) (zaa (pe_op zne (pv 1) (pv 2)) zae)))))))),?_⟩
  show tSeq _ _ _ [some (.int t),some (.int b),none] H
  refine zad fun R hR=>?_
  walk_at "rd"
  refine ite2 (fun h0=>?_) fun hb=>hR _ _ ?_
  ·refine fun e he=>⟨c_NoRatio,none,zab,T.xc_NoRatio,?_⟩
   rw [zjw]
   exact kx h0 e he
  have k:=k hb
  rw [<- zwx hb] at k
  have hg:0<Sw.dv t b:=Sw.dv_pos hb
  have hz:Sw.Sz 5000 (Sw.dv t b):=(sb.dvd (Sw.dv_r t b) hb).mono z5
  refine zad fun R hR=>?_
  walk_at "rd"
  refine hR _ _ ?_
  refine zad fun R hR=>?_
  have fin:∀ c:Int,(c=Sw.dv t b/\¬ b<0)\/(c = -(Sw.dv t b)/\b<0)->R [some (.int t),some (.int b),some (.int c)] H:=fun c hc=>by
   refine hR _ _ ?_
   walk_at "rd"
   have c0:c≠0:=by rcases hc with ⟨e,_⟩ | ⟨e,_⟩ <;> omega
   have cz:Sw.Sz 5000 c:=by
    rcases hc with ⟨e,_⟩ | ⟨e,_⟩
    ·rw [e]; exact hz
    ·rw [e]; exact hz.neg
   have d1:c ∣ t:=by
    rcases hc with ⟨e,_⟩ | ⟨e,_⟩
    ·rw [e]; exact Sw.dv_l t b
    ·rw [e]; exact Int.neg_dvd.mpr (Sw.dv_l t b)
   have d2:c ∣ b:=by
    rcases hc with ⟨e,_⟩ | ⟨e,_⟩
    ·rw [e]; exact Sw.dv_r t b
    ·rw [e]; exact Int.neg_dvd.mpr (Sw.dv_r t b)
   have e1:t.fdiv c=Sw.rN t b:=by
    rw [Int.fdiv_eq_ediv_of_dvd d1]
    unfold Sw.rN
    rcases hc with ⟨e,q⟩ | ⟨e,q⟩
    ·rw [if_neg q,e]
    ·rw [if_pos q,e]
   have e2:b.fdiv c=Sw.rD t b:=by
    rw [Int.fdiv_eq_ediv_of_dvd d2]
    unfold Sw.rD
    rcases hc with ⟨e,q⟩ | ⟨e,q⟩
    ·rw [if_neg q,e]
    ·rw [if_pos q,e]
   rw [e1,e2]
   exact ⟨⟨c0,cz⟩,⟨c0,cz⟩,k⟩
  walk_at "rds"
  exact ite2 (fun c=>fin _ (.inr ⟨rfl,c⟩)) fun c=>fin _ (.inl ⟨rfl,c⟩)
def zxn:Sp:=fun vs H Q _=>∃ p q a b z,vs = [.ref p,.ref q]/\H p=some (.tup (fq a))/\H q=some (.tup (fq b))/\z<=2400/\Sw.SzQ z a/\Sw.SzQ z b/\∀ r,H r=none->Q (.ref r) (upd H r (.tup (fq (a+b))))
theorem zns (T:Txt K mg c_NoRatio c_Tide c_Wheel):Def P w K mg base (CXX P w) 3 "plus" ["one", "other"] zxn:=by
 have D_ratio:=zfy (P:=P) (w:=w) (base:=base) T
 refine T.src_plus.okN (k:=2) zvc (fun vs H Q E h=>?_) (fun f cdv A outer s H vs Q E hr h=>?_)
 ·obtain ⟨p,q,a,b,z,rfl,_⟩:=h
  rfl
 ·obtain ⟨p,q,a,b,z,rfl,hp,hq,hz,s1,s2,k⟩:=h
  refine ⟨_,(zan (zay (zao D_ratio (hr.mono (by decide)) rfl passN (zaa (pe_op zdu (pe_op zdg (pe_ix (zam K rfl) (pv 0) zaj (fun _ _=>rfl)) (pe_ix (zam K rfl) (pv 1) zaj (fun _ _=>rfl))) (pe_op zdg (pe_ix (zam K rfl) (pv 1) zaj (fun _ _=>rfl)) (pe_ix (zam K rfl) (pv 0) zaj (fun _ _=>rfl)))) (zaa (pe_op zdg (pe_ix (zam K rfl) (pv 0) zaj (fun _ _=>rfl)) (pe_ix (zam K rfl) (pv 1) zaj (fun _ _=>rfl))) zae))))),?_⟩
  show tRet _ _ [some (.ref p),some (.ref q)] H
  have hab:=Int.mul_ne_zero (Sw.q_den_ne a) (Sw.q_den_ne b)
  walk_at "rd"
  refine zaq (.of hp) rfl (zaq (.of hq) rfl ?_)
  walk_at "rd"
  refine ⟨⟨s1.n.mono (by omega),s2.d.mono (by omega)⟩,zaq (.of hq) rfl (zaq (.of hp) rfl ?_)⟩
  walk_at "rd"
  refine ⟨⟨s2.n.mono (by omega),s1.d.mono (by omega)⟩,zaq (.of hp) rfl (zaq (.of hq) rfl ?_)⟩
  walk_at "rd"
  refine ⟨⟨s1.d.mono (by omega),s2.d.mono (by omega)⟩,_,_,z+z,rfl,by omega,s1.d.mul s2.d,fun _=>?_,fun z=>absurd z hab⟩
  rw [Sw.add_q]
  exact k
def zve:Sp:=fun vs H Q _=>∃ p q a b z,vs = [.ref p,.ref q]/\H p=some (.tup (fq a))/\H q=some (.tup (fq b))/\z<=2400/\Sw.SzQ z a/\Sw.SzQ z b/\∀ r,H r=none->Q (.ref r) (upd H r (.tup (fq (a-b))))
theorem zmr (T:Txt K mg c_NoRatio c_Tide c_Wheel):Def P w K mg base (CXX P w) 3 "minus" ["one", "other"] zve:=by
 have D_ratio:=zfy (P:=P) (w:=w) (base:=base) T
 refine T.src_minus.okN (k:=2) zsl (fun vs H Q E h=>?_) (fun f cdv A outer s H vs Q E hr h=>?_)
 ·obtain ⟨p,q,a,b,z,rfl,_⟩:=h
  rfl
 ·obtain ⟨p,q,a,b,z,rfl,hp,hq,hz,s1,s2,k⟩:=h
  refine ⟨_,(zan (zay (zao D_ratio (hr.mono (by decide)) rfl passN (zaa (pe_op zoy (pe_op zdg (pe_ix (zam K rfl) (pv 0) zaj (fun _ _=>rfl)) (pe_ix (zam K rfl) (pv 1) zaj (fun _ _=>rfl))) (pe_op zdg (pe_ix (zam K rfl) (pv 1) zaj (fun _ _=>rfl)) (pe_ix (zam K rfl) (pv 0) zaj (fun _ _=>rfl)))) (zaa (pe_op zdg (pe_ix (zam K rfl) (pv 0) zaj (fun _ _=>rfl)) (pe_ix (zam K rfl) (pv 1) zaj (fun _ _=>rfl))) zae))))),?_⟩
  show tRet _ _ [some (.ref p),some (.ref q)] H
  have hab:=Int.mul_ne_zero (Sw.q_den_ne a) (Sw.q_den_ne b)
  walk_at "rd"
  refine zaq (.of hp) rfl (zaq (.of hq) rfl ?_)
  walk_at "rd"
  refine ⟨⟨s1.n.mono (by omega),s2.d.mono (by omega)⟩,zaq (.of hq) rfl (zaq (.of hp) rfl ?_)⟩
  walk_at "rd"
  refine ⟨⟨s2.n.mono (by omega),s1.d.mono (by omega)⟩,zaq (.of hp) rfl (zaq (.of hq) rfl ?_)⟩
  walk_at "rd"
  refine ⟨⟨s1.d.mono (by omega),s2.d.mono (by omega)⟩,_,_,z+z,rfl,by omega,s1.d.mul s2.d,fun _=>?_,fun z=>absurd z hab⟩
  rw [Sw.sub_q]
  exact k
def zvf:Sp:=fun vs H Q _=>∃ p q a b z,vs = [.ref p,.ref q]/\H p=some (.tup (fq a))/\H q=some (.tup (fq b))/\z<=2400/\Sw.SzQ z a/\Sw.SzQ z b/\∀ r,H r=none->Q (.ref r) (upd H r (.tup (fq (a*b))))
theorem zqy (T:Txt K mg c_NoRatio c_Tide c_Wheel):Def P w K mg base (CXX P w) 3 "times" ["one", "other"] zvf:=by
 have D_ratio:=zfy (P:=P) (w:=w) (base:=base) T
 refine T.src_times.okN (k:=2) zsm (fun vs H Q E h=>?_) (fun f cdv A outer s H vs Q E hr h=>?_)
 ·obtain ⟨p,q,a,b,z,rfl,_⟩:=h
  rfl
 ·obtain ⟨p,q,a,b,z,rfl,hp,hq,hz,s1,s2,k⟩:=h
  refine ⟨_,(zan (zay (zao D_ratio (hr.mono (by decide)) rfl passN (zaa (pe_op zdg (pe_ix (zam K rfl) (pv 0) zaj (fun _ _=>rfl)) (pe_ix (zam K rfl) (pv 1) zaj (fun _ _=>rfl))) (zaa (pe_op zdg (pe_ix (zam K rfl) (pv 0) zaj (fun _ _=>rfl)) (pe_ix (zam K rfl) (pv 1) zaj (fun _ _=>rfl))) zae))))),?_⟩
  show tRet _ _ [some (.ref p),some (.ref q)] H
  have hab:=Int.mul_ne_zero (Sw.q_den_ne a) (Sw.q_den_ne b)
  walk_at "rd"
  refine zaq (.of hp) rfl (zaq (.of hq) rfl ?_)
  walk_at "rd"
  refine ⟨⟨s1.n.mono (by omega),s2.n.mono (by omega)⟩,zaq (.of hp) rfl (zaq (.of hq) rfl ?_)⟩
  walk_at "rd"
  refine ⟨⟨s1.d.mono (by omega),s2.d.mono (by omega)⟩,_,_,z+z,rfl,by omega,s1.d.mul s2.d,fun _=>?_,fun z=>absurd z hab⟩
  rw [Sw.mul_q]
  exact k
def zxo:Sp:=fun vs H Q _=>∃ p q a b z,vs = [.ref p,.ref q]/\H p=some (.tup (fq a))/\H q=some (.tup (fq b))/\z<=2400/\Sw.SzQ z a/\Sw.SzQ z b/\b≠0/\∀ r,H r=none->Q (.ref r) (upd H r (.tup (fq (a / b))))
theorem ztk (T:Txt K mg c_NoRatio c_Tide c_Wheel):Def P w K mg base (CXX P w) 3 "over" ["one", "other"] zxo:=by
 have D_ratio:=zfy (P:=P) (w:=w) (base:=base) T
 refine T.src_over.okN (k:=2) zvd (fun vs H Q E h=>?_) (fun f cdv A outer s H vs Q E hr h=>?_)
 ·obtain ⟨p,q,a,b,z,rfl,_⟩:=h
  rfl
 ·obtain ⟨p,q,a,b,z,rfl,hp,hq,hz,s1,s2,hb,k⟩:=h
  refine ⟨_,(zan (zay (zao D_ratio (hr.mono (by decide)) rfl passN (zaa (pe_op zdg (pe_ix (zam K rfl) (pv 0) zaj (fun _ _=>rfl)) (pe_ix (zam K rfl) (pv 1) zaj (fun _ _=>rfl))) (zaa (pe_op zdg (pe_ix (zam K rfl) (pv 0) zaj (fun _ _=>rfl)) (pe_ix (zam K rfl) (pv 1) zaj (fun _ _=>rfl))) zae))))),?_⟩
  show tRet _ _ [some (.ref p),some (.ref q)] H
  have hn:=Sw.q_num_ne hb
  have hab:=Int.mul_ne_zero (Sw.q_den_ne a) hn
  walk_at "rd"
  refine zaq (.of hp) rfl (zaq (.of hq) rfl ?_)
  walk_at "rd"
  refine ⟨⟨s1.n.mono (by omega),s2.d.mono (by omega)⟩,zaq (.of hp) rfl (zaq (.of hq) rfl ?_)⟩
  walk_at "rd"
  refine ⟨⟨s1.d.mono (by omega),s2.n.mono (by omega)⟩,_,_,z+z,rfl,by omega,s1.d.mul s2.n,fun _=>?_,fun z=>absurd z hab⟩
  rw [Sw.div_q a b hn]
  exact k
def zvg:Sp:=fun vs H Q _=>∃ p q a b,vs = [.ref p,.ref q]/\H p=some (.tup (fq a))/\H q=some (.tup (fq b))/\Sw.SzQ 5000 a/\Sw.SzQ 5000 b/\Q (.bl (decide (a<b))) H
theorem zfi (T:Txt K mg c_NoRatio c_Tide c_Wheel):Def P w K mg base (CXX P w) 1 "under" ["one", "other"] zvg:=by
 refine T.src_under.okN (k:=0) zsn (fun vs H Q E h=>?_) (fun f cdv A outer s H vs Q E hr h=>?_)
 ·obtain ⟨p,q,a,b,rfl,_⟩:=h
  rfl
 ·obtain ⟨p,q,a,b,rfl,hp,hq,s1,s2,k⟩:=h
  refine ⟨_,(zan (zay (zjx op_lt (pe_op zdg (pe_ix (zam K rfl) (pv 0) zaj (fun _ _=>rfl)) (pe_ix (zam K rfl) (pv 1) zaj (fun _ _=>rfl))) (pe_op zdg (pe_ix (zam K rfl) (pv 1) zaj (fun _ _=>rfl)) (pe_ix (zam K rfl) (pv 0) zaj (fun _ _=>rfl))) (zcp _)))),?_⟩
  show tRet _ _ [some (.ref p),some (.ref q)] H
  walk_at "rd"
  refine zaq (.of hp) rfl (zaq (.of hq) rfl ?_)
  walk_at "rd"
  refine ⟨⟨s1.n,s2.d⟩,zaq (.of hq) rfl (zaq (.of hp) rfl ?_)⟩
  walk_at "rd"
  refine ⟨⟨s2.n,s1.d⟩,?_⟩
  rw [show decide (a.num*(b.den:Int)<b.num*(a.den:Int))=decide (a<b) from decide_eq_decide.mpr Sw.q_lt]
  exact k
def zso:Sp:=fun vs H Q _=>∃ p q a b,vs = [.ref p,.ref q]/\H p=some (.tup (fq a))/\H q=some (.tup (fq b))/\Sw.SzQ 5000 a/\Sw.SzQ 5000 b/\∀ r,H r=none->Q (.ref r) (upd H r (.tup (fq (min a b))))
theorem zsp (T:Txt K mg c_NoRatio c_Tide c_Wheel):Def P w K mg base (CXX P w) 2 "lesser" ["one", "other"] zso:=by
 have D_under:=zfi (P:=P) (w:=w) (base:=base) T
 refine T.src_lesser.okN (k:=1) sc_lesser (fun vs H Q E h=>?_) (fun f cdv A outer s H vs Q E hr h=>?_)
 ·obtain ⟨p,q,a,b,rfl,_⟩:=h
  rfl
 ·obtain ⟨p,q,a,b,rfl,hp,hq,s1,s2,k⟩:=h
  refine ⟨_,(zac (zal (i:=2) sc_lesser.nd rfl (zhm (zeb (zao D_under (hr.mono (by decide)) rfl passN (zaa (pv 1) (zaa (pv 0) zae)))) (pv 1) (pv 0))) (zan (zay (zcg (zaa (pe_ix (zam K rfl) (pv 2) zaj (fun _ _=>rfl)) (zaa (pe_ix (zam K rfl) (pv 2) zaj (fun _ _=>rfl)) zae)))))),?_⟩
  show tSeq _ _ _ [some (.ref p),some (.ref q),none] H
  refine zad fun R hR=>?_
  have key:∀ x c,H x=some (.tup (fq c))->c=min a b->R [some (.ref p),some (.ref q),some (.ref x)] H:=fun x c hx e=>by
   refine hR _ _ ?_
   walk_at "rd"
   subst e
   exact zaq (.of hx) rfl (zaq (.of hx) rfl k)
  walk_at "rd"
  refine ⟨q,p,b,a,rfl,hq,hp,s2,s1,?_⟩
  walk_at "rd"
  exact ite2 (fun h=>key q b hq (by rw [Rat.min_def]; grind)) fun h=>key p a hp (by rw [Rat.min_def]; grind)
def zqz:Sp:=fun vs H Q _=>∃ p q a b,vs = [.ref p,.ref q]/\H p=some (.tup (fq a))/\H q=some (.tup (fq b))/\Sw.SzQ 5000 a/\Sw.SzQ 5000 b/\∀ r,H r=none->Q (.ref r) (upd H r (.tup (fq (max a b))))
theorem zlq (T:Txt K mg c_NoRatio c_Tide c_Wheel):Def P w K mg base (CXX P w) 2 "greater" ["one", "other"] zqz:=by
 have D_under:=zfi (P:=P) (w:=w) (base:=base) T
 refine T.src_greater.okN (k:=1) sc_greater (fun vs H Q E h=>?_) (fun f cdv A outer s H vs Q E hr h=>?_)
 ·obtain ⟨p,q,a,b,rfl,_⟩:=h
  rfl
 ·obtain ⟨p,q,a,b,rfl,hp,hq,s1,s2,k⟩:=h
  refine ⟨_,(zac (zal (i:=2) sc_greater.nd rfl (zhm (zeb (zao D_under (hr.mono (by decide)) rfl passN (zaa (pv 0) (zaa (pv 1) zae)))) (pv 1) (pv 0))) (zan (zay (zcg (zaa (pe_ix (zam K rfl) (pv 2) zaj (fun _ _=>rfl)) (zaa (pe_ix (zam K rfl) (pv 2) zaj (fun _ _=>rfl)) zae)))))),?_⟩
  show tSeq _ _ _ [some (.ref p),some (.ref q),none] H
  refine zad fun R hR=>?_
  have key:∀ x c,H x=some (.tup (fq c))->c=max a b->R [some (.ref p),some (.ref q),some (.ref x)] H:=fun x c hx e=>by
   refine hR _ _ ?_
   walk_at "rd"
   subst e
   exact zaq (.of hx) rfl (zaq (.of hx) rfl k)
  walk_at "rd"
  refine ⟨p,q,a,b,rfl,hp,hq,s1,s2,?_⟩
  walk_at "rd"
  exact ite2 (fun h=>key q b hq (by rw [Rat.max_def]; grind)) fun h=>key p a hp (by rw [Rat.max_def]; grind)
def zvh:Sp:=fun vs H Q _=>∃ l ps qs,vs = [.ref l]/\Lst fq H l ps qs/\qs≠[]/\(∀ q∈qs,Sw.SzQ 5000 q)/\∀ r H',Same H H'->H' r=some (.tup (fq (Sw.minL qs)))->Q (.ref r) H'
theorem zms (T:Txt K mg c_NoRatio c_Tide c_Wheel):Def P w K mg base (CXX P w) 3 "least" ["some"] zvh:=by
 have D_lesser:=zsp (P:=P) (w:=w) (base:=base) T
 refine T.src_least.okN (k:=2) sc_least (fun vs H Q E h=>?_) (fun f cdv A outer s H vs Q E hr h=>?_)
 ·obtain ⟨l,ps,qs,rfl,_⟩:=h
  rfl
 ·obtain ⟨l,ps,qs,rfl,L,ne,sz,k⟩:=h
  refine ⟨_,(zac (zal (i:=1) sc_least.nd rfl (pe_ix (zau K rfl) (pv 0) zaj (fun _ _=>rfl))) (zac (zdq PassesOwn.never rfl (zav K rfl (pv 0)) (zap (i:=2) sc_least.nd rfl (by first|left;rfl|right;rfl)) (zan (zal (i:=1) sc_least.nd rfl (zao D_lesser (hr.mono (by decide)) rfl passN (zaa (pv 1) (zaa (pv 2) zae)))))) (zan (zay (pv 1))))),?_⟩
  show tSeq _ _ _ [some (.ref l),none,none] H
  cases qs with
  | nil=>exact absurd rfl ne
  | cons q0 qr =>
   cases ps with
   | nil=>cases L.r
   | cons p0 pr =>
    have h0:H p0=some (.tup (fq q0)):=by
     cases L.r with
     | cons a b=>exact a
    refine zad fun R hR=>?_
    walk_at "rd"
    refine zcd (.of L.hl) (v:=.ref p0) (zcc (xs:=(p0 :: pr).map V.ref) (j:=0) rfl) (hR _ _ ?_)
    refine zad fun R hR=>?_
    refine zbo fun Z hZ=>?_
    walk_at "rd"
    refine ⟨⟨_,.of L.hl⟩,hZ _ _ ?_⟩
    refine zdp (K:=K) (a:=l) (xs:=(p0 :: pr).map V.ref) (fun i σ H'=>Same H H'/\∃ x c v,σ = [some (.ref l),some (.ref x),v]/\H' x=some (.tup (fq c))/\c=((q0 :: qr).take i).foldl min q0/\Sw.SzQ 5000 c) ⟨Same.refl _,p0,q0,none,rfl,h0,rfl,sz q0 (by simp)⟩ (fun i σ H' _ q=>.of (q.1 _ _ L.hl)) ?_ ?_
    ·rintro i v σ H1 hv ⟨sm,x,c,v2,rfl,hx,hc,zc⟩
     obtain ⟨p,hp,rfl⟩:∃ p,(p0 :: pr)[i]? = some p/\V.ref p=v:=by
      rw [List.getElem?_map] at hv
      cases e:(p0 :: pr)[i]? with
      | none=>rw [e] at hv; cases hv
      | some z=>rw [e] at hv; exact ⟨z,rfl,Option.some.inj hv⟩
     obtain ⟨q,hq,hp2⟩:=zen L.r hp
     have zq:=sz q (List.mem_of_getElem? hq)
     show tAsg _ _ _ [some (.ref l),some (.ref x),some (.ref p)] H1
     refine zby fun R' hR'=>?_
     walk_at "rd"
     refine ⟨x,p,c,q,rfl,hx,sm _ _ hp2,zc,zq,fun r hr'=>hR' _ _ ?_⟩
     refine ⟨sm.trans (zaf hr'),r,min c q,_,rfl,zab,?_,zc.min zq⟩
     rw [take_succ_of hq,List.foldl_append,<- hc]
     rfl
    ·rintro σ H1 ⟨sm,x,c,v2,rfl,hx,hc,zc⟩
     refine hR _ _ ?_
     walk_at "rd"
     have ln:=zfe L.r
     rw [List.take_of_length_le (by rw [List.length_map,ln]; exact Nat.le_refl _)] at hc
     rw [hc] at hx
     exact k x H1 sm hx
def zvi:Sp:=fun vs H Q _=>∃ l ps us pm m,vs = [.ref l,.ref pm]/\H l=some (.lst (ps.map V.ref))/\zed H ps us/\H pm=some (.tup (fq m))/\Sw.SzQ 5000 m/\(∀ u∈us,Sw.SzQ 5000 u.1/\Sw.SzQ 5000 u.2.1)/\us.length<=200 /\
 ∀ r rs H',Same H H'->H' r=some (.lst (rs.map V.ref))->zed H' rs (Sw.hds us m)->Q (.ref r) H'
theorem zol (T:Txt K mg c_NoRatio c_Tide c_Wheel):Def P w K mg base (CXX P w) 2 "heads_of" ["tagged", "mark"] zvi:=by
 have D_under:=zfi (P:=P) (w:=w) (base:=base) T
 refine T.src_heads_of.okN (k:=1) zmq (fun vs H Q E h=>?_) (fun f cdv A outer s H vs Q E hr h=>?_)
 ·obtain ⟨l,ps,us,pm,m,rfl,_⟩:=h
  rfl
 ·obtain ⟨l,ps,us,pm,m,rfl,hl,tg,hm,zm,zu,lu,k⟩:=h
  refine ⟨_,(zan (zay (pe_lc ["one"] [("mark", 1)] rfl (by with_unfolding_all rfl) (by decide +kernel) rfl (by decide +kernel) (by exact ⟨rfl,True.intro⟩) (by with_unfolding_all rfl) ⟨⟨rfl,rfl,rfl⟩,True.intro⟩ (zav K rfl (pv 0)) (fun _ _ _=>(zap (i:=0) (show (["one", "mark"]:List Str).Nodup from by decide +kernel) rfl (by first|left;rfl|right;rfl))) (fun _ _ _=>(zga (PW.pt (ziy (zna (zeb (zao D_under (hr.mono (by decide)) rfl passN (zaa (pv 1) (zaa (pe_ix (zam K rfl) (pv 0) zaj (fun _ _=>rfl)) zae))))) (zhu (zeb (zao D_under (hr.mono (by decide)) rfl passN (zaa (pv 1) (zaa (pe_ix (zam K rfl) (pv 0) zaj (fun _ _=>rfl)) zae))))))))) (fun _ _ _=>(pv 0))))),?_⟩
  show tRet _ _ [some (.ref l),some (.ref pm)] H
  have len:=tags_len tg
  walk_at "rd"
  refine ⟨⟨_,.of hl⟩,fun D hD=>?_⟩
  have lD:l≠D:=zah hl hD
  show CompG _ _ _ _ D [none,some (.ref pm)] _ _
  refine zbb (xs:=ps.map V.ref) (fun i τ H'=>Same H H'/\∃ v rs,τ = [v,some (.ref pm)]/\H' D=some (.lst (rs.map V.ref))/\zed H' rs (Sw.hds (us.take i) m)/\rs.length<=i) ⟨zaf hD,none,[],rfl,zab,.nil,Nat.le_refl _⟩ (fun i τ H' _ q=>.of (q.1 _ _ hl)) ?_ ?_
  ·rintro i x τ H1 hx ⟨sm,v,rs,rfl,hrs,tr,lr⟩
   obtain ⟨p,hp,rfl⟩:∃ p,ps[i]? = some p/\V.ref p=x:=by
    rw [List.getElem?_map] at hx
    cases e:ps[i]? with
    | none=>rw [e] at hx; cases hx
    | some z=>rw [e] at hx; exact ⟨z,rfl,Option.some.inj hx⟩
   have hi:i<ps.length:=(List.getElem?_eq_some_iff.mp hp).1
   obtain ⟨u,hu,tu⟩:=zbe tg hp
   obtain ⟨zb,ze⟩:=zu u (List.mem_of_getElem? hu)
   have tu1:=tu.keep fun _ _ q=>sm _ _ q
   obtain ⟨pb,pe,h1,h2,h3⟩:=id tu1
   have hm1:=sm _ _ hm
   have et:Sw.hds (us.take (i+1)) m=Sw.hds (us.take i) m++(if Sw.isHd m u=true then [u] else []):=by
    rw [take_succ_of hu]
    unfold Sw.hds
    rw [List.filter_append]
    congr 1
    rw [List.filter_cons]
    rfl
   have kt:∀ b xs,H1 b=some (.tup xs)->upd H1 D (.lst (rs.map V.ref++[.ref p])) b=some (.tup xs):=fun b xs e=>by
    rw [zai (ne_of e hrs (by intro z; cases z))]; exact e
   walk_at "rd"
   refine zaq (.of h1) rfl ⟨pm,pb,m,u.1,rfl,hm1,h2,zm,zb,?_⟩
   walk_at "rd"
   have no:Sw.isHd m u=false->Same H H1/\∃ x,H1 D=some (HO.lst (List.map V.ref x))/\zed H1 x (Sw.hds (List.take (i+1) us) m)/\x.length<=i+1:=fun e=>by
    refine ⟨sm,rs,hrs,?_,by omega⟩
    rw [et,e,if_neg (by decide),List.append_nil]
    exact tr
   refine ite2 (fun h=>no (by unfold Sw.isHd; rw [decide_eq_true h]; rfl)) fun h=>zaq (.of h1) rfl ⟨pm,pe,m,u.2.1,rfl,hm1,h3,zm,ze,_,rfl,?_⟩
   refine ite2 (fun h4=>?_) fun h4=>no (by unfold Sw.isHd; rw [show decide (m<u.2.1)=false from eq_false_of_ne_true h4,Bool.and_false])
   refine ⟨_,hrs,line_lt (by rw [List.length_map]; omega),fun b o e=>?_,rs++[p],by rw [zab]; simp,?_,by simp; omega⟩
   ·rw [zai (zah e hD)]; exact sm _ _ e
   ·rw [et,if_pos (by unfold Sw.isHd; rw [decide_eq_false h,h4]; rfl)]
    exact paired_snoc (tu1.keep kt) (zdi tr kt)
  ·rintro τ H1 ⟨sm,v,rs,rfl,hrs,tr,lr⟩
   rw [List.take_of_length_le (by rw [List.length_map,len]; exact Nat.le_refl _)] at tr
   exact k D rs H1 sm hrs tr
def ztl (C:Addr):Sp:=fun vs H Q _=>∃ p t lat re us D B,vs = [.ref p,.int t]/\TdM C H p lat re us/\TideOk D B lat re us/\lat<=t/\t<1000000000000000 /\
 ∀ q H',Same H H'->H' q=some (.tup (fq (Sw.markAt us lat re t)))->Q (.ref q) H'
theorem zio (T:Txt K mg c_NoRatio c_Tide c_Wheel):MethD P w K mg base (CXX P w) 4 c_Tide "mark" ["self", "at"] [[]] (ztl c_Tide):=by
 have D_plus:=zns (P:=P) (w:=w) (base:=base) T
 have D_minus:=zmr (P:=P) (w:=w) (base:=base) T
 have D_times:=zqy (P:=P) (w:=w) (base:=base) T
 have D_over:=ztk (P:=P) (w:=w) (base:=base) T
 have D_under:=zfi (P:=P) (w:=w) (base:=base) T
 have D_least:=zms (P:=P) (w:=w) (base:=base) T
 have D_heads_of:=zol (P:=P) (w:=w) (base:=base) T
 refine T.me_Tide_mark.okN (k:=3) sc_Tide_mark (fun vs H Q E h=>?_) (fun f cdv A outer s H vs Q E hr h=>?_)
 ·obtain ⟨p,t,lat,re,us,D,B,rfl,_⟩:=h
  rfl
 ·obtain ⟨p,t,lat,re,us,D,B,rfl,td,ok,hlt,t1,k⟩:=h
  refine ⟨_,(zac (zal (i:=2) sc_Tide_mark.nd rfl (zcg (zaa (zda (pv 0) rfl) (zaa zaj zae)))) (zac (zal (i:=3) sc_Tide_mark.nd rfl (zda (pv 0) rfl)) (zac (zal (i:=4) sc_Tide_mark.nd rfl (zao D_heads_of (hr.mono (by decide)) rfl passN (zaa (zda (pv 0) rfl) (zaa (pv 3) zae)))) (zac (zfk PassesOwn.never (zeo K rfl (pv 4)) (zac (zal (i:=5) sc_Tide_mark.nd rfl (zcg (zaa (zbn (zgb K rfl rfl) rfl T.no_sum boot_sum (zaa (pe_lc ["begin", "end", "share"] [] rfl (by with_unfolding_all rfl) (by decide +kernel) rfl (by decide +kernel) (by exact True.intro) (by with_unfolding_all rfl) True.intro (zav K rfl (pv 4)) (fun _ _ _=>(zci (n:=3) K rfl rfl (zat (zap (i:=0) (show (["begin", "end", "share"]:List Str).Nodup from by decide +kernel) rfl (by first|left;rfl|right;rfl)) (zat (zap (i:=1) (show (["begin", "end", "share"]:List Str).Nodup from by decide +kernel) rfl (by first|left;rfl|right;rfl)) (zat (zap (i:=2) (show (["begin", "end", "share"]:List Str).Nodup from by decide +kernel) rfl (by first|left;rfl|right;rfl)) zcf))))) (fun _ _ _=>zbs) (fun _ _ _=>(pv 2))) zae)) (zaa zaj zae)))) (zac (zal (i:=6) sc_Tide_mark.nd rfl (zao D_least (hr.mono (by decide)) rfl passN (zaa (pe_lc ["begin", "end", "share"] [] rfl (by with_unfolding_all rfl) (by decide +kernel) rfl (by decide +kernel) (by exact True.intro) (by with_unfolding_all rfl) True.intro (zav K rfl (pv 4)) (fun _ _ _=>(zci (n:=3) K rfl rfl (zat (zap (i:=0) (show (["begin", "end", "share"]:List Str).Nodup from by decide +kernel) rfl (by first|left;rfl|right;rfl)) (zat (zap (i:=1) (show (["begin", "end", "share"]:List Str).Nodup from by decide +kernel) rfl (by first|left;rfl|right;rfl)) (zat (zap (i:=2) (show (["begin", "end", "share"]:List Str).Nodup from by decide +kernel) rfl (by first|left;rfl|right;rfl)) zcf))))) (fun _ _ _=>zbs) (fun _ _ _=>(pv 1))) zae))) (zac (zal (i:=7) sc_Tide_mark.nd rfl (zao D_plus (hr.mono (by decide)) rfl passN (zaa (pv 2) (zaa (zao D_times (hr.mono (by decide)) rfl passN (zaa (zao D_minus (hr.mono (by decide)) rfl passN (zaa (pv 6) (zaa (pv 3) zae))) (zaa (pv 5) zae))) zae)))) (zac (ps_if (zeb (zao D_under (hr.mono (by decide)) rfl passN (zaa (zcg (zaa (pv 1) (zaa zaj zae))) (zaa (pv 7) zae)))) (zan (zay (zao D_plus (hr.mono (by decide)) rfl passN (zaa (pv 3) (zaa (zao D_over (hr.mono (by decide)) rfl passN (zaa (zao D_minus (hr.mono (by decide)) rfl passN (zaa (zcg (zaa (pv 1) (zaa zaj zae))) (zaa (pv 2) zae))) (zaa (pv 5) zae))) zae))))) zdf) (zac (zal (i:=2) sc_Tide_mark.nd rfl (pv 7)) (zac (zal (i:=3) sc_Tide_mark.nd rfl (pv 6)) (zan (zal (i:=4) sc_Tide_mark.nd rfl (zao D_heads_of (hr.mono (by decide)) rfl passN (zaa (zda (pv 0) rfl) (zaa (pv 3) zae)))))))))))) (zan (zay (zcg (zaa (pe_ix (zam K rfl) (pv 3) zaj (fun _ _=>rfl)) (zaa (pe_ix (zam K rfl) (pv 3) zaj (fun _ _=>rfl)) zae))))))))),?_⟩
  show tSeq _ _ _ [some (.ref p),some (.int t),none,none,none,none,none,none] H
  obtain ⟨dx,fs,pr,pu,pe,ps,hp,ft,hr',hu,tg⟩:=id td.ex
  refine zad fun R hR=>?_
  walk_at "rd"
  refine zbt hp T.cl_Tide T.na_Tide_latest ft.lat ?_
  walk_at "rd"
  intro x1 f1
  have s1:=zaf (o:=.tup [.int lat,.int 1]) f1
  have h1:=zfs (H:=H) (p:=x1) (n:=lat)
  have hp:=s1 _ _ hp
  have hr':=s1 _ _ hr'
  have hu:=s1 _ _ hu
  have tg:=zbp tg s1
  generalize upd H x1 (.tup [.int lat,.int 1])=H1 at s1 h1 hp hr' hu tg ⊢
  refine hR _ _ ?_
  refine zad fun R hR=>?_
  walk_at "rd"
  refine zbt hp T.cl_Tide T.na_Tide_reached ft.rch (hR _ _ ?_)
  refine zad fun R hR=>?_
  walk_at "rd"
  refine zbt hp T.cl_Tide T.na_Tide_unflowed ft.unf ?_
  have zus:∀ u∈us,Sw.SzQ 5000 u.1/\Sw.SzQ 5000 u.2.1:=fun u h=>ok.zu u h
  refine ⟨pu,ps,us,pr,re,rfl,hu,tg,hr',ok.zr.mono (by decide),zus,by have:=ok.len; omega,fun hd rs H2 s2 hh th=>hR _ _ ?_⟩
  refine zad fun R hR=>?_
  refine zqb (fun m σ H'=>Same H H'/\∃ mo rq n x y z rs v5 v6 v7,σ = [some (.ref p),some (.int t),some (.ref x),some (.ref y),some (.ref z),v5,v6,v7]/\H' x=some (.tup (fq mo))/\H' y=some (.tup (fq rq))/\H' z=some (.lst (rs.map V.ref))/\zed H' rs (Sw.hds us rq) /\
   H' p=some (.ins c_Tide dx fs)/\H' pu=some (.lst (ps.map V.ref))/\zed H' ps us/\Sw.Grd D mo/\0<=mo/\mo<=(t:Rat)/\Sw.Grd D rq/\0<=rq/\rq<=(B:Rat) /\
   Sw.markAt us lat re t=Sw.markF us (t:Rat) (n+1) mo rq/\Sw.ahead us rq<=n/\m=Sw.ahead us rq) (m0:=Sw.ahead us re)
   ⟨s1.trans s2,lat,re,us.length,x1,pr,hd,rs,none,none,none,rfl,s2 _ _ h1,s2 _ _ hr',hh,th,s2 _ _ hp,s2 _ _ hu,zbp tg s2,Sw.Grd.int (by have:=ok.gb.D0; omega) lat,ok.lat0,Rat.intCast_le_intCast.mpr hlt,ok.gre,ok.re0,ok.reB,rfl,Sw.ahead_le _ _,rfl⟩ ?_
  rintro m σ H3 ⟨sm,mo,rq,n,x,y,z,rs,v5,v6,v7,rfl,hx,hy,hz,th,hp,hu,tg,gm,m0,m1,gr,r0,r1,em,an,rfl⟩
  refine ⟨!(rs.map V.ref).isEmpty,fun Q hQ=>⟨_,rfl,_,truL (.of hz),hQ⟩,fun hb=>?_,fun hb=>?_⟩
  ·have hne:Sw.hds us rq≠[]:=by
    intro z
    rw [z] at th
    cases th
    exact absurd hb (by decide)
   have gt:=Sw.fstE_gt hne
   have lth:=tags_len th
   have lhd:(Sw.hds us rq).length<=100:=Nat.le_trans (List.length_filter_le _ _) ok.len
   have hok:∀ u∈Sw.hds us rq,TagOk D B u:=fun u h=>ok.tus u (Sw.hds_mem h).1
   refine zad fun R' hR'=>?_
   walk_at "rd"
   refine ⟨⟨_,.of hz⟩,fun Dl hDl=>?_⟩
   show CompG _ _ _ _ Dl [none,none,none] _ _
   refine zbb (xs:=rs.map V.ref) (fun i τ H'=>Same H3 H'/\∃ w1 w2 w3,τ = [w1,w2,w3]/\H' Dl=some (.lst ((((Sw.hds us rq).take i).map fun u=>u.2.2).map V.int))) ⟨zaf hDl,none,none,none,rfl,zab⟩ (fun i τ H' _ q=>.of (q.1 _ _ hz)) ?_ ?_
   ·rintro i w τ H4 hw ⟨sm4,w1,w2,w3,rfl,hl4⟩
    obtain ⟨pp,hpp,rfl⟩:∃ p,rs[i]? = some p/\V.ref p=w:=by
     rw [List.getElem?_map] at hw
     cases e:rs[i]? with
     | none=>rw [e] at hw; cases hw
     | some z=>rw [e] at hw; exact ⟨z,rfl,Option.some.inj hw⟩
    have hi:i<rs.length:=(List.getElem?_eq_some_iff.mp hpp).1
    obtain ⟨u,hu',tu⟩:=zbe th hpp
    obtain ⟨pb,pe',g1,g2,g3⟩:=tu.keep fun _ _ q=>sm4 _ _ q
    walk_at "rd"
    refine ⟨_,.of g1,rfl,_,_,rfl,_,_,rfl,_,_,rfl,rfl,?_⟩
    unfold tYes
    walk_at "rd"
    refine ⟨_,hl4,line_lt (by simp; omega),fun b o e=>?_,?_⟩
    ·rw [zai (zah e hDl)]; exact sm4 _ _ e
    ·rw [zab,take_succ_of hu',List.map_append,List.map_append]
     rfl
   ·rintro τ H4 ⟨sm4,w1,w2,w3,rfl,hl4⟩
    rw [List.take_of_length_le (by rw [List.length_map,lth]; exact Nat.le_refl _)] at hl4
    refine ⟨Dl,_,rfl,.of hl4,?_⟩
    walk_at "rd"
    intro q5 f5
    have eS:((Sw.hds us rq).map fun u=>u.2.2).sum=Sw.sumS (Sw.hds us rq):=rfl
    rw [eS]
    have hS:=zex hok hne
    have hS2:Sw.sumS (Sw.hds us rq)<=100000000:=by have:=hS.2; omega
    generalize hSv:Sw.sumS (Sw.hds us rq)=S at hS hS2
    have sm5:=sm4.trans (zaf (o:=.tup [.int S,.int 1]) f5)
    have h5:=zfs (H:=H4) (p:=q5) (n:=S)
    generalize upd H4 q5 (.tup [.int S,.int 1])=H5 at sm5 h5 ⊢
    clear hl4 sm4 hDl f5 eS
    refine hR' _ _ ?_
    have hz:=sm5 _ _ hz
    have th:=zbp th sm5
    have hx:=sm5 _ _ hx
    have hy:=sm5 _ _ hy
    have hp:=sm5 _ _ hp
    have hu:=sm5 _ _ hu
    have tg:=zbp tg sm5
    have sm:=sm.trans sm5
    clear sm5
    refine zad fun R' hR'=>?_
    walk_at "rd"
    refine ⟨⟨_,.of hz⟩,fun Dl hDl=>?_⟩
    show CompG _ _ _ _ Dl [none,none,none] _ _
    refine zbb (xs:=rs.map V.ref) (fun i τ H'=>Same H5 H'/\∃ w1 w2 w3 es,τ = [w1,w2,w3]/\Lst fq H' Dl es (((Sw.hds us rq).take i).map fun u=>u.2.1)/\es.length<=i) ⟨zaf hDl,none,none,none,[],rfl,⟨zab,.nil⟩,Nat.le_refl _⟩ (fun i τ H' _ q=>.of (q.1 _ _ hz)) ?_ ?_
    ·rintro i w τ H6 hw ⟨sm4,w1,w2,w3,es,rfl,L6,le6⟩
     obtain ⟨pp,hpp,rfl⟩:∃ p,rs[i]? = some p/\V.ref p=w:=by
      rw [List.getElem?_map] at hw
      cases e:rs[i]? with
      | none=>rw [e] at hw; cases hw
      | some z=>rw [e] at hw; exact ⟨z,rfl,Option.some.inj hw⟩
     have hi:i<rs.length:=(List.getElem?_eq_some_iff.mp hpp).1
     obtain ⟨u,hu',tu⟩:=zbe th hpp
     obtain ⟨pb,pe',g1,g2,g3⟩:=tu.keep fun _ _ q=>sm4 _ _ q
     have kt:∀ b xs,H6 b=some (.tup xs)->upd H6 Dl (.lst (es.map V.ref++[.ref pe'])) b=some (.tup xs):=fun b xs e=>by
      rw [zai (ne_of e L6.hl (by intro z; cases z))]; exact e
     walk_at "rd"
     refine ⟨_,.of g1,rfl,_,_,rfl,_,_,rfl,_,_,rfl,rfl,?_⟩
     unfold tYes
     walk_at "rd"
     refine ⟨_,L6.hl,line_lt (by simp; omega),fun b o e=>?_,es++[pe'],⟨by rw [zab]; simp,?_⟩,by simp; omega⟩
     ·rw [zai (zah e hDl)]; exact sm4 _ _ e
     ·rw [take_succ_of hu',List.map_append]
      exact zdw (kt _ _ g3) (zcm L6.r kt)
    ·rintro τ H6 ⟨sm4,w1,w2,w3,es,rfl,L6,le6⟩
     rw [List.take_of_length_le (by rw [List.length_map,lth]; exact Nat.le_refl _)] at L6
     refine ⟨Dl,es,_,rfl,L6,by simpa using hne,fun q hq=>?_,fun fe H7 sm7 hfe=>hR' _ _ ?_⟩
     ·obtain ⟨u,hu',rfl⟩:=List.mem_map.mp hq
      exact (ok.zu u (Sw.hds_mem hu').1).2
     have eF:Sw.minL ((Sw.hds us rq).map fun u=>u.2.1)=Sw.fstE (Sw.hds us rq):=rfl
     rw [eF] at hfe
     obtain ⟨uf,huf,ef⟩:=Sw.fstE_mem hne
     have tf:=hok uf huf
     have gf:Sw.Grd D (Sw.fstE (Sw.hds us rq)):=by rw [ef]; exact tf.e
     have fB:Sw.fstE (Sw.hds us rq)<=(B:Rat):=by rw [ef]; exact tf.eB
     have an2:=Sw.ahead_lt hne
     have em2:Sw.markF us (t:Rat) (n+1) mo rq=(if (t:Rat)<mo+(Sw.fstE (Sw.hds us rq)-rq)*(S:Rat) then rq+((t:Rat)-mo) / (S:Rat) else Sw.markF us (t:Rat) n (mo+(Sw.fstE (Sw.hds us rq)-rq)*(S:Rat)) (Sw.fstE (Sw.hds us rq))):=by
      show (if Sw.hds us rq = [] then _ else _) = _
      rw [if_neg hne,hSv]
     rw [em2] at em
     generalize Sw.fstE (Sw.hds us rq)=fv at hfe gf fB gt an2 em
     have sm5:=sm4.trans sm7
     have hx:=sm5 _ _ hx
     have hy:=sm5 _ _ hy
     have hp:=sm5 _ _ hp
     have hu:=sm5 _ _ hu
     have tg:=zbp tg sm5
     have h5:=sm5 _ _ h5
     have sm:=sm.trans sm5
     clear sm5 sm4 sm7 L6 hDl hz
     have gb:=ok.gb
     have B0:=gb.B0
     have B1:=gb.B1
     have Bq:(0:Rat)<=(B:Rat):=by grind
     have S0:(0:Rat)<=(S:Rat):=by
      have:((0:Int):Rat)<=(S:Rat):=Rat.intCast_le_intCast.mpr (by omega)
      exact this
     have d0:0<=fv-rq:=by grind
     have d1:fv-rq<=(B:Rat):=by grind
     have gd:=gf.sub gr
     have pd0:0<=(fv-rq)*(S:Rat):=Rat.mul_nonneg d0 S0
     have pd1:(fv-rq)*(S:Rat)<=((B*S:Int):Rat):=by
      rw [Rat.intCast_mul]; exact Rat.mul_le_mul_of_nonneg_right d1 S0
     have BS:B*S<=10000000000*100000000:=Int.mul_le_mul B1 hS2 (by omega) (by decide)
     have BS0:0<=B*S:=Int.mul_nonneg B0 (by omega)
     have gp:=gd.muli S
     have ga:=gm.add gp
     have tq:(t:Rat)<=((1000000000000000:Int):Rat):=Rat.intCast_le_intCast.mpr (by omega)
     have zd:Sw.SzQ 1570 (fv-rq):=gb.szB gd d0 d1
     have zp:Sw.SzQ 1570 ((fv-rq)*(S:Rat)):=gb.sz (M:=B*S) gp (by rw [Rat.intCast_mul] at pd1; grind) pd1 (by omega) (by omega)
     have a0:0<=mo+(fv-rq)*(S:Rat):=by grind
     have a1:mo+(fv-rq)*(S:Rat)<=((1000000000000000+B*S:Int):Rat):=by rw [Rat.intCast_add]; grind
     have za:Sw.SzQ 1570 (mo+(fv-rq)*(S:Rat)):=gb.sz (M:=1000000000000000+B*S) ga (by have:=Rat.neg_le_neg a1; grind) a1 (by omega) (by omega)
     have zS:Sw.SzQ 70 (S:Rat):=.int (Sw.Sz.r18 (by omega) (by omega))
     have zm:Sw.SzQ 1570 mo:=gb.sz (M:=1000000000000000) gm (by grind) (by grind) (by decide) (by decide)
     have zrq:Sw.SzQ 1570 rq:=gb.szB gr r0 r1
     have zf:Sw.SzQ 1570 fv:=gb.szB gf (by grind) fB
     refine zad fun R' hR'=>?_
     walk_at "rd"
     refine ⟨fe,y,fv,rq,1570,rfl,hfe,hy,by decide,zf,zrq,fun q1 f1=>?_⟩
     have n1:=zaf (o:=.tup (fq (fv-rq))) f1
     refine ⟨q1,q5,fv-rq,(S:Rat),1570,rfl,zab,n1 _ _ h5,by decide,zd,zS.mono (by decide),fun q2 f2'=>?_⟩
     have n2:=zaf (o:=.tup (fq ((fv-rq)*(S:Rat)))) f2'
     refine ⟨x,q2,mo,(fv-rq)*(S:Rat),1570,rfl,n2 _ _ (n1 _ _ hx),zab,by decide,zm,zp,fun q3 f3=>hR' _ _ ?_⟩
     have n3:=zaf (o:=.tup (fq (mo+(fv-rq)*(S:Rat)))) f3
     have nn:=(n1.trans n2).trans n3
     have haf:upd (upd (upd H7 q1 (.tup (fq (fv-rq)))) q2 (.tup (fq ((fv-rq)*(S:Rat))))) q3 (.tup (fq (mo+(fv-rq)*(S:Rat)))) q3=some (.tup (fq (mo+(fv-rq)*(S:Rat)))):=zab
     generalize upd (upd (upd H7 q1 (.tup (fq (fv-rq)))) q2 (.tup (fq ((fv-rq)*(S:Rat))))) q3 (.tup (fq (mo+(fv-rq)*(S:Rat))))=H8 at nn haf ⊢
     have hx:=nn _ _ hx
     have hy:=nn _ _ hy
     have hp:=nn _ _ hp
     have hu:=nn _ _ hu
     have tg:=zbp tg nn
     have h5:=nn _ _ h5
     have hfe:=nn _ _ hfe
     have sm:=sm.trans nn
     clear nn n1 n2 n3 f1 f2' f3
     refine zad fun R' hR'=>?_
     walk_at "rd"
     intro q4 f4
     have n4:=zaf (o:=.tup [.int t,.int 1]) f4
     have zt:Sw.SzQ 70 (t:Rat):=.int (Sw.Sz.r18 (by have:=ok.l0; omega) (by omega))
     refine ⟨q4,q3,t,mo+(fv-rq)*(S:Rat),rfl,zfs,n4 _ _ haf,zt.mono (by decide),za.mono (by decide),?_⟩
     have sm:=sm.trans n4
     have hx:=n4 _ _ hx
     have hy:=n4 _ _ hy
     have hp:=n4 _ _ hp
     have hu:=n4 _ _ hu
     have tg:=zbp tg n4
     have h5:=n4 _ _ h5
     have hfe:=n4 _ _ hfe
     have haf:=n4 _ _ haf
     generalize upd H8 q4 (.tup [.int t,.int 1])=H9 at sm hx hy hp hu tg h5 hfe haf ⊢
     clear n4 f4
     walk_at "rd"
     refine ite2 (fun hlt2=>?_) fun hlt2=>hR' _ _ ?_
     ·rw [if_pos hlt2] at em
      intro q6 f6
      have n6:=zaf (o:=.tup [.int t,.int 1]) f6
      have td0:0<=(t:Rat)-mo:=by grind
      have zx:Sw.SzQ 1570 ((t:Rat)-mo):=gb.sz (M:=1000000000000000) ((Sw.Grd.int (by have:=gb.D0; omega) t).sub gm) (by grind) (by grind) (by decide) (by decide)
      have Sn:(S:Rat)≠0:=Sw.q_cast_ne (by omega)
      refine ⟨q6,x,t,mo,1570,rfl,zfs,n6 _ _ hx,by decide,zt.mono (by decide),zm,fun q7 f7=>?_⟩
      have n7:=zaf (o:=.tup (fq ((t:Rat)-mo))) f7
      refine ⟨q7,q5,(t:Rat)-mo,S,1570,rfl,zab,n7 _ _ (n6 _ _ h5),by decide,zx,zS.mono (by decide),Sn,fun q8 f8=>?_⟩
      have n8:=zaf (o:=.tup (fq (((t:Rat)-mo) / (S:Rat)))) f8
      refine ⟨y,q8,rq,((t:Rat)-mo) / (S:Rat),1640,rfl,n8 _ _ (n7 _ _ (n6 _ _ hy)),zab,by decide,zrq.mono (by decide),Sw.SzQ.div (Sw.q_num_ne Sn) zx zS,fun q9 f9=>?_⟩
      refine k q9 _ ((((sm.trans n6).trans n7).trans n8).trans (zaf f9)) ?_
      rw [em,zab]
     ·rw [if_neg hlt2] at em
      refine zad fun R' hR'=>?_
      walk_at "rd"
      refine hR' _ _ ?_
      refine zad fun R' hR'=>?_
      walk_at "rd"
      refine hR' _ _ ?_
      refine zby fun R' hR'=>?_
      walk_at "rd"
      refine zbt hp T.cl_Tide T.na_Tide_unflowed ft.unf ?_
      refine ⟨pu,ps,us,fe,fv,rfl,hu,tg,hfe,zf.mono (by decide),zus,by have:=ok.len; omega,fun hd rs H10 s10 hh th=>hR' _ _ ?_⟩
      have an3:0<n:=by omega
      obtain ⟨n',rfl⟩:∃ n',n=n' + 1:=⟨n-1,by omega⟩
      exact ⟨_,an2,sm.trans s10,mo+(fv-rq)*(S:Rat),fv,n',q3,fe,hd,rs,_,_,_,rfl,s10 _ _ haf,s10 _ _ hfe,hh,th,s10 _ _ hp,s10 _ _ hu,zbp tg s10,ga,a0,by grind,gf,by grind,fB,em,by omega,rfl⟩
  ·refine hR _ _ ?_
   have hn:Sw.hds us rq = []:=by
    have:rs = []:=by simpa using hb
    subst this
    exact List.length_eq_zero_iff.mp (tags_len th).symm
   walk_at "rd"
   refine zaq (.of hy) rfl (zaq (.of hy) rfl fun q hq=>?_)
   refine k q _ (sm.trans (zaf hq)) ?_
   rw [em]
   unfold Sw.markF
   rw [if_pos hn,zab]
   rfl
def spTI (C:Addr):Sp:=fun vs H Q _=>∃ x dx,vs = [.ref x]/\H x=some (.ins C dx [])/\∀ pe H',But x H H'->H pe=none->Td C H' x pe 0 0 [] (fun _=>none) 0->Q .non H'
theorem ztm (T:Txt K mg c_NoRatio c_Tide c_Wheel):MkD P w K mg base (CXX P w) 3 c_Tide ["self"] [[]] (spTI c_Tide):=by
 have D_ratio:=zfy (P:=P) (w:=w) (base:=base) T
 refine T.in_Tide.okN (k:=2) zlp (fun vs H Q E h=>?_) (fun f cdv A outer s H vs Q E hr h=>?_)
 ·obtain ⟨x,dx,rfl,_⟩:=h
  rfl
 ·obtain ⟨x,dx,rfl,hx,k⟩:=h
  refine ⟨_,(zac (zfa (pv 0) zaj rfl) (zac (zfa (pv 0) (zao D_ratio (hr.mono (by decide)) rfl passN (zaa zaj (zaa zaj zae))) rfl) (zac (zfa (pv 0) (zbw zae) rfl) (zan (zfa (pv 0) zgf rfl))))),?_⟩
  show tSeq _ _ _ [some (.ref x)] H
  have l1:=zbk (fs:=[]) (f := "latest") (v:=.int 0)
  simp only [List.length_nil] at l1
  refine zad fun R hR=>?_
  walk_at "rd"
  refine zfb hx T.cl_Tide T.na_Tide_latest (by simp) (hR _ _ ?_)
  refine zad fun R hR=>?_
  walk_at "rd"
  refine ⟨0,1,1,rfl,by decide,Sw.Sz.one _,fun _ pr hpr=>?_,fun z=>absurd z (by decide)⟩
  have nx:x≠pr:=by
   intro z
   rw [z,zab] at hpr
   cases hpr
  have npr:H pr=none:=by rw [zai (Ne.symm nx)] at hpr; exact hpr
  have l2:=zbk (fs:=putF "latest" (.int 0) []) (f := "reached") (v:=.ref pr)
  walk_at "rd"
  refine zfb (C:=c_Tide) (dx:=dx) (fs:=putF "latest" (.int 0) []) (by rw [zai nx,zab]) T.cl_Tide T.na_Tide_reached (by omega) (hR _ _ ?_)
  have e0:((0:Int):Rat) / ((1:Int):Rat) = 0:=by
   have z0:((0:Int):Rat) = 0:=rfl
   rw [z0]; grind
  rw [e0]
  have q1:But x H (upd (upd (upd H x (.ins c_Tide dx (putF "latest" (.int 0) []))) pr (.tup (fq 0))) x (.ins c_Tide dx (putF "reached" (.ref pr) (putF "latest" (.int 0) [])))):=fun b o n e=>by
   rw [zai n,zai (zah e npr),zai n]; exact e
  have hx1:upd (upd (upd H x (.ins c_Tide dx (putF "latest" (.int 0) []))) pr (.tup (fq 0))) x (.ins c_Tide dx (putF "reached" (.ref pr) (putF "latest" (.int 0) []))) x=some (.ins c_Tide dx (putF "reached" (.ref pr) (putF "latest" (.int 0) []))):=zab
  have hr1:upd (upd (upd H x (.ins c_Tide dx (putF "latest" (.int 0) []))) pr (.tup (fq 0))) x (.ins c_Tide dx (putF "reached" (.ref pr) (putF "latest" (.int 0) []))) pr=some (.tup (fq 0)):=by rw [zai (Ne.symm nx),zab]
  generalize upd (upd (upd H x (.ins c_Tide dx (putF "latest" (.int 0) []))) pr (.tup (fq 0))) x (.ins c_Tide dx (putF "reached" (.ref pr) (putF "latest" (.int 0) [])))=H1 at q1 hx1 hr1 ⊢
  refine zad fun R hR=>?_
  walk_at "rd"
  intro pu hpu
  have s1:=zaf (o:=.lst []) hpu
  have l3:=zbk (fs:=putF "reached" (.ref pr) (putF "latest" (.int 0) [])) (f := "unflowed") (v:=.ref pu)
  have nxu:x≠pu:=zah hx1 hpu
  refine zfb (s1 _ _ hx1) T.cl_Tide T.na_Tide_unflowed (by omega) (hR _ _ ?_)
  have npru:pr≠pu:=zah hr1 hpu
  have q2:But x H (upd (upd H1 pu (.lst [])) x (.ins c_Tide dx (putF "unflowed" (.ref pu) (putF "reached" (.ref pr) (putF "latest" (.int 0) []))))):=fun b o n e=>by
   rw [zai n]; exact s1 _ _ (q1 b o n e)
  have hx2:upd (upd H1 pu (.lst [])) x (.ins c_Tide dx (putF "unflowed" (.ref pu) (putF "reached" (.ref pr) (putF "latest" (.int 0) [])))) x=some (.ins c_Tide dx (putF "unflowed" (.ref pu) (putF "reached" (.ref pr) (putF "latest" (.int 0) [])))):=zab
  have hr2:upd (upd H1 pu (.lst [])) x (.ins c_Tide dx (putF "unflowed" (.ref pu) (putF "reached" (.ref pr) (putF "latest" (.int 0) [])))) pr=some (.tup (fq 0)):=by rw [zai (Ne.symm nx)]; exact s1 _ _ hr1
  have hu2:upd (upd H1 pu (.lst [])) x (.ins c_Tide dx (putF "unflowed" (.ref pu) (putF "reached" (.ref pr) (putF "latest" (.int 0) [])))) pu=some (.lst []):=by rw [zai (Ne.symm nxu),zab]
  generalize upd (upd H1 pu (.lst [])) x (.ins c_Tide dx (putF "unflowed" (.ref pu) (putF "reached" (.ref pr) (putF "latest" (.int 0) []))))=H2 at q2 hx2 hr2 hu2 ⊢
  walk_at "rd"
  intro pe hpe
  have s3:=zaf (o:=.dK []) hpe
  have nxe:x≠pe:=zah hx2 hpe
  have fe:H pe=none:=by
   cases e:H pe with
   | none=>rfl
   | some o=>rw [q2 pe o (Ne.symm nxe) e] at hpe; cases hpe
  refine zfb (s3 _ _ hx2) T.cl_Tide T.na_Tide_last_ends (by omega) ?_
  refine k pe _ (fun b o n e=>?_) fe ⟨dx,_,pr,pu,[],[],zab,FT.mk0 pr pu pe,?_,?_,.nil,?_,fun w=>.inl ⟨rfl,rfl⟩,Nat.le_refl _,Nat.le_refl _⟩
  ·rw [zai n]; exact s3 _ _ (q2 b o n e)
  ·rw [zai (Ne.symm nx)]; exact s3 _ _ hr2
  ·rw [zai (Ne.symm nxu)]; exact s3 _ _ hu2
  ·rw [zai (Ne.symm nxe),zab]
def NoU (C:Addr) (H:Hp) (p l:Addr):Prop:=∀ dx fs pu,H p=some (.ins C dx fs)->fs.lookup ("unflowed" : Str)=some (.ref pu)->pu≠l
theorem NoU.on {C:Addr} {H H':Hp} {p l dx:Addr} {fs:List (Str×V)} (h:NoU C H p l) (e:H p=some (.ins C dx fs)) (e':H' p=some (.ins C dx fs)):NoU C H' p l:=fun dx' fs' pu h1 h2=>by
 rw [e'] at h1
 cases h1
 exact h _ _ _ e h2
theorem Td.list {C:Addr} {H:Hp} {p pe l:Addr} {lat:Int} {re:Rat} {us:List Sw.T3} {en:Int->Option Rat} {m:Nat} {xs ys:List V} (h:Td C H p pe lat re us en m) (n:NoU C H p l) (hl:H l=some (.lst xs)):Td C (upd H l (.lst ys)) p pe lat re us en m:=by
 obtain ⟨dx,fs,pr,pu,ps,kvs,h1,h2,h3,h4,h5,h6,h7,h8⟩:=h.ex
 have kt:∀ b zs,H b=some (.tup zs)->upd H l (.lst ys) b=some (.tup zs):=fun b zs e=>by rw [zai (ne_of e hl (by intro z; cases z))]; exact e
 exact ⟨dx,fs,pr,pu,ps,kvs,by rw [zai (ne_of h1 hl (by intro z; cases z))]; exact h1,h2,kt _ _ h3,by rw [zai (n _ _ _ h1 h2.unf)]; exact h4,zdi h5 kt,by rw [zai (ne_of h6 hl (by intro z; cases z))]; exact h6,h7.keep kt,h8⟩
def zxp (C:Addr):Sp:=fun vs H Q _=>∃ p pc t who len sh pe lat re us en m D B,vs = [.ref p,.ref pc]/\H pc=some (.tup [.int t,.int who,.int len,.int sh])/\Td C H p pe lat re us en m/\TideOk D B lat re us/\(∀ w e,en w=some e->Sw.Grd D e/\0<=e/\e<=(B:Rat)) /\
 lat<=t/\t<1000000000000000/\1<=len/\len<=1000000/\1<=sh/\sh<=1000000/\m<=99 /\
 ∀ q qb qe H',Kept p pe H H'->Td C H' p pe t (Sw.markAt us lat re t) (Sw.usOn us (Sw.markAt us lat re t) (Sw.begOn en (Sw.markAt us lat re t) who) len sh) (setE en who (Sw.begOn en (Sw.markAt us lat re t) who+(len:Rat) / (sh:Rat))) (m+1) ->
  H' q=some (.tup [.ref qb,.ref qe])->H' qb=some (.tup (fq (Sw.begOn en (Sw.markAt us lat re t) who)))->H' qe=some (.tup (fq (Sw.begOn en (Sw.markAt us lat re t) who+(len:Rat) / (sh:Rat))))->(∀ l xs,H l=some (.lst xs)->NoU C H' p l)->Q (.ref q) H'
theorem ziq (T:Txt K mg c_NoRatio c_Tide c_Wheel):MethD P w K mg base (CXX P w) 5 c_Tide "come" ["self", "piece"] [[]] (zxp c_Tide):=by
 have M_Tide_mark:=zio (P:=P) (w:=w) (base:=base) T
 have D_plus:=zns (P:=P) (w:=w) (base:=base) T
 have D_under:=zfi (P:=P) (w:=w) (base:=base) T
 have D_greater:=zlq (P:=P) (w:=w) (base:=base) T
 have D_ratio:=zfy (P:=P) (w:=w) (base:=base) T
 refine T.me_Tide_come.okN (k:=4) sc_Tide_come (fun vs H Q E h=>?_) (fun f cdv A outer s H vs Q E hr h=>?_)
 ·obtain ⟨p,pc,t,who,len,sh,pe,lat,re,us,en,m,D,B,rfl,_⟩:=h
  rfl
 ·obtain ⟨p,pc,t,who,len,sh,pe,lat,re,us,en,m,D,B,rfl,hpc,td,ok,eok,hlt,t1,n1,n2,sh1,sh2,hm,k⟩:=h
  refine ⟨_,(zac (zal (i:=2) sc_Tide_come.nd rfl (zeh (dvs:=[]) M_Tide_mark (by simp) T.cl_Tide (hr.mono (by decide)) passN (pv 0) (zaa (pe_ix (zam K rfl) (pv 1) zaj (fun _ _=>rfl)) zae))) (zac (zfa (pv 0) (pe_ix (zam K rfl) (pv 1) zaj (fun _ _=>rfl)) rfl) (zac (zfa (pv 0) (pv 2) rfl) (zac (zfa (pv 0) (pe_lc ["one"] [("reached", 2)] rfl (by with_unfolding_all rfl) (by decide +kernel) rfl (by decide +kernel) (by exact ⟨rfl,True.intro⟩) (by with_unfolding_all rfl) ⟨⟨rfl,rfl,rfl⟩,True.intro⟩ (zav K rfl (zda (pv 0) rfl)) (fun _ _ _=>(zap (i:=0) (show (["one", "reached"]:List Str).Nodup from by decide +kernel) rfl (by first|left;rfl|right;rfl))) (fun _ _ _=>(zga (zeb (zao D_under (hr.mono (by decide)) rfl passN (zaa (pv 1) (zaa (pe_ix (zam K rfl) (pv 0) zaj (fun _ _=>rfl)) zae)))))) (fun _ _ _=>(pv 0))) rfl) (zac (zal (i:=3) sc_Tide_come.nd rfl (zao D_greater (hr.mono (by decide)) rfl passN (zaa (pv 2) (zaa (zkh (hu_of hr) (zda (pv 0) rfl) (pe_ix (zam K rfl) (pv 1) zaj (fun _ _=>rfl)) (pv 2) ⟨rfl,rfl,rfl,rfl⟩) zae)))) (zac (zal (i:=4) sc_Tide_come.nd rfl (zao D_plus (hr.mono (by decide)) rfl passN (zaa (pv 3) (zaa (zao D_ratio (hr.mono (by decide)) rfl passN (zaa (pe_ix (zam K rfl) (pv 1) zaj (fun _ _=>rfl)) (zaa (pe_ix (zam K rfl) (pv 1) zaj (fun _ _=>rfl)) zae))) zae)))) (zac (zbj (pe_bm PySem.F.plainAttrs_list PySem.F.slot_list_append PySem.F.type_list_append zaz (zda (pv 0) rfl) (zaa (zcg (zaa (pv 3) (zaa (pv 4) (zaa (pe_ix (zam K rfl) (pv 1) zaj (fun _ _=>rfl)) zae)))) zae))) (zac (zid (hu_of hr) (zda (pv 0) rfl) (pe_ix (zam K rfl) (pv 1) zaj (fun _ _=>rfl)) (pv 4) rfl) (zan (zay (zcg (zaa (pv 3) (zaa (pv 4) zae))))))))))))),?_⟩
  show tSeq _ _ _ [some (.ref p),some (.ref pc),none,none,none] H
  have mk:=Sw.markAt_ok ok hlt
  obtain ⟨dx,fs,pr,pu,ps,kvs,hp,ft,hr',hu,tg,he,ea,lk,lu⟩:=id td.ex
  have hp0:=hp
  have he0:=he
  refine zad fun R hR=>?_
  walk_at "rd"
  refine zdh hp (ft.no _ (by decide +kernel) (by decide +kernel) (by decide +kernel) (by decide +kernel)) ?_
  refine zaq (.of hpc) rfl ?_
  walk_at "rd"
  refine ⟨p,t,lat,re,us,D,B,rfl,td.m,ok,hlt,t1,fun y H1 s1 hy=>hR _ _ ?_⟩
  generalize Sw.markAt us lat re t=rv at mk hy k
  obtain ⟨⟨S,S1,S2,gS⟩,m1,m2⟩:=mk
  have hpc:=s1 _ _ hpc
  have hp:=s1 _ _ hp
  have hu:=s1 _ _ hu
  have tg:=zbp tg s1
  have he:=s1 _ _ he
  have ea:=ea.keep fun _ _ q=>s1 _ _ q
  have kp:Kept p pe H H1:=s1.kept
  clear s1 hr'
  refine zad fun R hR=>?_
  walk_at "rd"
  refine zaq (.of hpc) rfl (zfb hp T.cl_Tide T.na_Tide_latest (by have:=ft.len; omega) (hR _ _ ?_))
  refine zad fun R hR=>?_
  walk_at "rd"
  have ft1:=ft.put_lat (l':=t)
  refine zfb zab T.cl_Tide T.na_Tide_reached (by have:=ft1.len; omega) (hR _ _ ?_)
  rw [zjw]
  have ft2:=ft1.put_rch (r':=y)
  have nP:∀ b xs,H1 b=some (.tup xs)->upd H1 p (.ins c_Tide dx (putF "reached" (.ref y) (putF "latest" (.int t) fs))) b=some (.tup xs):=fun b xs e=>by
   rw [zai (ne_of e hp (by intro z; cases z))]; exact e
  have hpc:=nP _ _ hpc
  have hy:=nP _ _ hy
  have tg:=zdi tg nP
  have ea:=ea.keep nP
  have npu:pu≠p:=ne_of hu hp (by intro z; cases z)
  have npe:pe≠p:=ne_of he hp (by intro z; cases z)
  have hu:upd H1 p (.ins c_Tide dx (putF "reached" (.ref y) (putF "latest" (.int t) fs))) pu=some (.lst (ps.map V.ref)):=by rw [zai npu]; exact hu
  have he:upd H1 p (.ins c_Tide dx (putF "reached" (.ref y) (putF "latest" (.int t) fs))) pe=some (.dK kvs):=by rw [zai npe]; exact he
  have kp:Kept p pe H (upd H1 p (.ins c_Tide dx (putF "reached" (.ref y) (putF "latest" (.int t) fs)))):=fun b o n1 n2 e=>by rw [zai n1]; exact kp b o n1 n2 e
  have hp:upd H1 p (.ins c_Tide dx (putF "reached" (.ref y) (putF "latest" (.int t) fs))) p=some (.ins c_Tide dx (putF "reached" (.ref y) (putF "latest" (.int t) fs))):=zab
  generalize upd H1 p (.ins c_Tide dx (putF "reached" (.ref y) (putF "latest" (.int t) fs)))=H2 at hpc hy tg ea hu he kp hp ⊢
  clear nP
  have gb:=ok.gb
  have zrv:Sw.SzQ 1700 rv:=by
   have B1:=gb.B1
   have B0:=gb.B0
   have re0:=ok.re0
   have lu':=ok.len
   exact (gS.sz (M:=B) (a:=1570) (b:=70) (Int.mul_pos gb.D0 (by omega)) (gb.Dz.mul (Sw.Sz.r18 (by omega) (by omega))) (Sw.Sz.r18 (by omega) (by omega)) (by have:(0:Rat)<=(B:Rat):=(by grind); grind) m2 (by decide)).mono (by decide)
  refine zad fun R hR=>?_
  walk_at "rd"
  refine zbt hp T.cl_Tide T.na_Tide_unflowed ft2.unf ?_
  walk_at "rd"
  refine ⟨⟨_,.of hu⟩,fun Dl hDl=>?_⟩
  show CompG _ _ _ _ Dl [none,some (.ref y)] _ _
  have len':=tags_len tg
  have nD0:∀ b o,H b=some o->b≠p->b≠pe->b≠Dl:=fun b o e n1 n2=>zah (kp b o n1 n2 e) hDl
  refine zbb (xs:=ps.map V.ref) (fun i τ H'=>Same H2 H'/\∃ v rs,τ = [v,some (.ref y)]/\H' Dl=some (.lst (rs.map V.ref))/\zed H' rs ((us.take i).filter fun u=>decide (rv<u.2.1))/\rs.length<=i) ⟨zaf hDl,none,[],rfl,zab,.nil,Nat.le_refl _⟩ (fun i τ H' _ q=>.of (q.1 _ _ hu)) ?_ ?_
  ·rintro i x τ H3 hx ⟨sm,v,rs,rfl,hrs,tr,lr⟩
   obtain ⟨pp,hpp,rfl⟩:∃ p,ps[i]? = some p/\V.ref p=x:=by
    rw [List.getElem?_map] at hx
    cases e:ps[i]? with
    | none=>rw [e] at hx; cases hx
    | some z=>rw [e] at hx; exact ⟨z,rfl,Option.some.inj hx⟩
   have hi:i<ps.length:=(List.getElem?_eq_some_iff.mp hpp).1
   obtain ⟨u,hu',tu⟩:=zbe tg hpp
   obtain ⟨zb,ze⟩:=ok.zu u (List.mem_of_getElem? hu')
   have tu1:=tu.keep fun _ _ q=>sm _ _ q
   obtain ⟨pb,pe',h1,h2,h3⟩:=id tu1
   have et:(us.take (i+1)).filter (fun u=>decide (rv<u.2.1))=(us.take i).filter (fun u=>decide (rv<u.2.1))++(if decide (rv<u.2.1)=true then [u] else []):=by
    rw [take_succ_of hu',List.filter_append]
    congr 1
    rw [List.filter_cons]
    rfl
   have kt:∀ b xs,H3 b=some (.tup xs)->upd H3 Dl (.lst (rs.map V.ref++[.ref pp])) b=some (.tup xs):=fun b xs e=>by
    rw [zai (ne_of e hrs (by intro z; cases z))]; exact e
   walk_at "rd"
   refine zaq (.of h1) rfl ⟨y,pe',rv,u.2.1,rfl,sm _ _ hy,h3,zrv.mono (by decide),ze,?_⟩
   walk_at "rd"
   refine ite2 (fun h4=>?_) fun h4=>?_
   ·refine ⟨_,hrs,line_lt (by rw [List.length_map]; have:=ok.len; omega),fun b o e=>?_,rs++[pp],by rw [zab]; simp,?_,by simp; omega⟩
    ·rw [zai (zah e hDl)]; exact sm _ _ e
    ·rw [et,if_pos (decide_eq_true h4)]
     exact paired_snoc (tu1.keep kt) (zdi tr kt)
   ·refine ⟨sm,rs,hrs,?_,by omega⟩
    rw [et,if_neg (by simp [h4]),List.append_nil]
    exact tr
  ·rintro τ H3 ⟨sm,v,rs,rfl,hrs,tr,lr⟩
   rw [List.take_of_length_le (by rw [List.length_map,len']; exact Nat.le_refl _)] at tr
   have hp:=sm _ _ hp
   have hpc:=sm _ _ hpc
   have hy:=sm _ _ hy
   have he:=sm _ _ he
   have ea:=ea.keep fun _ _ q=>sm _ _ q
   have kp:=kp.trans sm.kept
   have nDp:Dl≠p:=ne_of hrs hp (by intro z; cases z)
   have nDe:Dl≠pe:=ne_of hrs he (by intro z; cases z)
   clear sm
   refine zfb hp T.cl_Tide T.na_Tide_unflowed (by have:=ft2.len; omega) (hR _ _ ?_)
   have ft3:=ft2.put_unf (u':=Dl)
   have nP:∀ b xs,H3 b=some (.tup xs)->upd H3 p (.ins c_Tide dx (putF "unflowed" (.ref Dl) (putF "reached" (.ref y) (putF "latest" (.int t) fs)))) b=some (.tup xs):=fun b xs e=>by
    rw [zai (ne_of e hp (by intro z; cases z))]; exact e
   have hpc:=nP _ _ hpc
   have hy:=nP _ _ hy
   have tr:=zdi tr nP
   have ea:=ea.keep nP
   have hrs:upd H3 p (.ins c_Tide dx (putF "unflowed" (.ref Dl) (putF "reached" (.ref y) (putF "latest" (.int t) fs)))) Dl=some (.lst (rs.map V.ref)):=by rw [zai nDp]; exact hrs
   have he:upd H3 p (.ins c_Tide dx (putF "unflowed" (.ref Dl) (putF "reached" (.ref y) (putF "latest" (.int t) fs)))) pe=some (.dK kvs):=by rw [zai npe]; exact he
   have kp:Kept p pe H (upd H3 p (.ins c_Tide dx (putF "unflowed" (.ref Dl) (putF "reached" (.ref y) (putF "latest" (.int t) fs))))):=fun b o n1 n2 e=>by rw [zai n1]; exact kp b o n1 n2 e
   have hp:upd H3 p (.ins c_Tide dx (putF "unflowed" (.ref Dl) (putF "reached" (.ref y) (putF "latest" (.int t) fs)))) p=some (.ins c_Tide dx (putF "unflowed" (.ref Dl) (putF "reached" (.ref y) (putF "latest" (.int t) fs)))):=zab
   generalize upd H3 p (.ins c_Tide dx (putF "unflowed" (.ref Dl) (putF "reached" (.ref y) (putF "latest" (.int t) fs))))=H4 at hpc hy tr ea hrs he kp hp ⊢
   clear nP
   refine zad fun R hR=>?_
   walk_at "rd"
   refine zbt hp T.cl_Tide T.na_Tide_last_ends ft3.lst ?_
   walk_at "rd"
   refine ⟨.inl ⟨kvs,.inl he⟩,zaq (.of hpc) rfl ⟨_,DGet.k (k:=Sum.inl who) he,?_⟩⟩
   have D0:=gb.D0
   have dsn:D*S≠0:=Int.mul_ne_zero (by omega) (by omega)
   have re0:=ok.re0
   obtain ⟨qe0,ev,hqe0,hev,gev,ev0,evB,zev⟩:∃ q e,(valV kvs (Sum.inl who:Key)).getD (.ref y) = .ref q/\H4 q=some (.tup (fq e))/\Sw.Grd (D*S) e/\0<=e/\e<=(B:Rat)/\(en who).getD rv=e:=by
    rcases ea who with ⟨h1,h2⟩ | ⟨e,q,h1,h2,h3⟩
    ·rw [h1,h2]
     exact ⟨y,rv,rfl,hy,gS,by grind,m2,rfl⟩
    ·rw [h1,h2]
     have eo:=eok who e h1
     exact ⟨q,e,rfl,h3,eo.1.more (by omega) (by omega),eo.2.1,eo.2.2,rfl⟩
   rw [hqe0]
   have zz:∀ q:Rat,Sw.Grd (D*S) q->0<=q->q<=(B:Rat)->Sw.SzQ 1700 q:=fun q g q0 q1=>by
    have B1:=gb.B1
    have B0:=gb.B0
    have lu':=ok.len
    exact (g.sz (M:=B) (a:=1570) (b:=70) (Int.mul_pos gb.D0 (by omega)) (gb.Dz.mul (Sw.Sz.r18 (by omega) (by omega))) (Sw.Sz.r18 (by omega) (by omega)) (by have:(0:Rat)<=(B:Rat):=(by grind); grind) q1 (by decide)).mono (by decide)
   have zev':=zz ev gev ev0 evB
   have eb:Sw.begOn en rv who=max rv ev:=by unfold Sw.begOn; rw [zev]
   rw [eb] at k
   refine ⟨y,qe0,rv,ev,rfl,hy,hev,zrv.mono (by decide),zev'.mono (by decide),fun qb hqb=>hR _ _ ?_⟩
   have zb:Sw.SzQ 1700 (max rv ev):=by
    rw [Rat.max_def]; split
    ·exact zev'
    ·exact zrv
   generalize max rv ev=bv at zb k hqb ⊢
   have n1':=zaf (o:=.tup (fq bv)) hqb
   have hb:upd H4 qb (.tup (fq bv)) qb=some (.tup (fq bv)):=zab
   have hpc:=n1' _ _ hpc
   have hy:=n1' _ _ hy
   have tr:=zbp tr n1'
   have ea:=ea.keep fun _ _ q=>n1' _ _ q
   have hrs:=n1' _ _ hrs
   have he:=n1' _ _ he
   have hp:=n1' _ _ hp
   have kp:=kp.trans n1'.kept
   generalize upd H4 qb (.tup (fq bv))=H5 at hb hpc hy tr ea hrs he hp kp ⊢
   clear n1' hqb hev hqe0
   refine zad fun R hR=>?_
   walk_at "rd"
   refine zaq (.of hpc) rfl (zaq (.of hpc) rfl ?_)
   have zsh:Sw.Sz 70 sh:=Sw.Sz.r18 (by omega) (by omega)
   have zlen:Sw.Sz 70 len:=Sw.Sz.r18 (by omega) (by omega)
   refine ⟨len,sh,70,rfl,by decide,zsh,fun _ q2 f2'=>?_,fun z=>absurd z (by omega)⟩
   have n2':=zaf (o:=.tup (fq ((len:Rat) / (sh:Rat)))) f2'
   refine ⟨qb,q2,bv,(len:Rat) / (sh:Rat),1700,rfl,n2' _ _ hb,zab,by decide,zb,(Sw.SzQ.of (by omega) rfl zlen zsh).mono (by decide),fun qe hqe=>hR _ _ ?_⟩
   have n3':=zaf (o:=.tup (fq (bv+(len:Rat) / (sh:Rat)))) hqe
   have nn:=n2'.trans n3'
   have hE:upd (upd H5 q2 (.tup (fq ((len:Rat) / (sh:Rat))))) qe (.tup (fq (bv+(len:Rat) / (sh:Rat)))) qe=some (.tup (fq (bv+(len:Rat) / (sh:Rat)))):=zab
   generalize upd (upd H5 q2 (.tup (fq ((len:Rat) / (sh:Rat))))) qe (.tup (fq (bv+(len:Rat) / (sh:Rat))))=H6 at nn hE ⊢
   have hb:=nn _ _ hb
   have hpc:=nn _ _ hpc
   have hy:=nn _ _ hy
   have tr:=zbp tr nn
   have ea:=ea.keep fun _ _ q=>nn _ _ q
   have hrs:=nn _ _ hrs
   have he:=nn _ _ he
   have hp:=nn _ _ hp
   have kp:=kp.trans nn.kept
   clear nn n2' n3' f2' hqe
   refine zad fun R hR=>?_
   walk_at "rd"
   refine zbt hp T.cl_Tide T.na_Tide_unflowed ft3.unf ?_
   refine ⟨.inl ⟨rfl,_,.of hrs⟩,?_⟩
   walk_at "rd"
   refine zaq (.of hpc) rfl fun tp htp=>?_
   have n4':=zaf (o:=.tup [.ref qb,.ref qe,.int sh]) htp
   have hT:TagAt (upd H6 tp (.tup [.ref qb,.ref qe,.int sh])) tp (bv,bv+(len:Rat) / (sh:Rat),sh):=⟨qb,qe,zab,n4' _ _ hb,n4' _ _ hE⟩
   have hb:=n4' _ _ hb
   have hE:=n4' _ _ hE
   have hpc:=n4' _ _ hpc
   have hy:=n4' _ _ hy
   have tr:=zbp tr n4'
   have ea:=ea.keep fun _ _ q=>n4' _ _ q
   have hrs:=n4' _ _ hrs
   have he:=n4' _ _ he
   have hp:=n4' _ _ hp
   have kp:=kp.trans n4'.kept
   generalize upd H6 tp (.tup [.ref qb,.ref qe,.int sh])=H7 at hT hb hE hpc hy tr ea hrs he hp kp ⊢
   clear n4' htp
   have lrs:rs.length<=100:=by rw [List.length_map] at lr; have:=ok.len; omega
   refine ⟨Dl,_,_,rfl,rfl,hrs,line_lt (by rw [List.length_map]; omega),hR _ _ ?_⟩
   have nT:∀ b xs,H7 b=some (.tup xs)->upd H7 Dl (.lst (rs.map V.ref++[.ref tp])) b=some (.tup xs):=fun b xs e=>by
    rw [zai (ne_of e hrs (by intro z; cases z))]; exact e
   have hb:=nT _ _ hb
   have hE:=nT _ _ hE
   have hpc:=nT _ _ hpc
   have hy:=nT _ _ hy
   have tr:zed (upd H7 Dl (.lst (rs.map V.ref++[.ref tp]))) (rs++[tp]) (Sw.usOn us rv bv len sh):=paired_snoc (hT.keep nT) (zdi tr nT)
   have ea:=ea.keep nT
   have he:upd H7 Dl (.lst (rs.map V.ref++[.ref tp])) pe=some (.dK kvs):=by rw [zai (Ne.symm nDe)]; exact he
   have hp:upd H7 Dl (.lst (rs.map V.ref++[.ref tp])) p=some (.ins c_Tide dx (putF "unflowed" (.ref Dl) (putF "reached" (.ref y) (putF "latest" (.int t) fs)))):=by rw [zai (Ne.symm nDp)]; exact hp
   have kp:Kept p pe H (upd H7 Dl (.lst (rs.map V.ref++[.ref tp]))):=fun b o n1 n2 e=>by rw [zai (nD0 b o e n1 n2)]; exact kp b o n1 n2 e
   have hrs:upd H7 Dl (.lst (rs.map V.ref++[.ref tp])) Dl=some (.lst ((rs++[tp]).map V.ref)):=by rw [zab]; simp
   generalize upd H7 Dl (.lst (rs.map V.ref++[.ref tp]))=H8 at hb hE hpc hy tr ea hrs he hp kp ⊢
   clear nT hT
   refine zad fun R hR=>?_
   walk_at "rd"
   refine zbt hp T.cl_Tide T.na_Tide_last_ends ft3.lst (zaq (.of hpc) rfl ⟨pe,rfl,_,DPut.k (k:=Sum.inl who) he (Nat.lt_of_le_of_lt lk (Nat.lt_of_le_of_lt hm (by decide))),hR _ _ ?_⟩)
   have nT:∀ b xs,H8 b=some (.tup xs)->upd H8 pe (.dK (putK kvs (Sum.inl who) (.ref qe))) b=some (.tup xs):=fun b xs e=>by
    rw [zai (ne_of e he (by intro z; cases z))]; exact e
   have ea2:EnAt (upd H8 pe (.dK (putK kvs (Sum.inl who) (.ref qe)))) (putK kvs (Sum.inl who) (.ref qe)) (setE en who (bv+(len:Rat) / (sh:Rat))):=(ea.put hE).keep nT
   have hb:=nT _ _ hb
   have hE:=nT _ _ hE
   have hy:=nT _ _ hy
   have tr:=zdi tr nT
   have hp:upd H8 pe (.dK (putK kvs (Sum.inl who) (.ref qe))) p=some (.ins c_Tide dx (putF "unflowed" (.ref Dl) (putF "reached" (.ref y) (putF "latest" (.int t) fs)))):=by rw [zai (Ne.symm npe)]; exact hp
   have hrs:upd H8 pe (.dK (putK kvs (Sum.inl who) (.ref qe))) Dl=some (.lst ((rs++[tp]).map V.ref)):=by rw [zai nDe]; exact hrs
   have kp:Kept p pe H (upd H8 pe (.dK (putK kvs (Sum.inl who) (.ref qe)))):=fun b o n1 n2 e=>by rw [zai n2]; exact kp b o n1 n2 e
   have he:upd H8 pe (.dK (putK kvs (Sum.inl who) (.ref qe))) pe=some (.dK (putK kvs (Sum.inl who) (.ref qe))):=zab
   generalize upd H8 pe (.dK (putK kvs (Sum.inl who) (.ref qe)))=H9 at ea2 hb hE hy tr hp hrs kp he ⊢
   walk_at "rd"
   intro q hq
   have n9:=zaf (o:=.tup [.ref qb,.ref qe]) hq
   have lput:=zew kvs (Sum.inl who:Key) (.ref qe)
   have lus:(Sw.usOn us rv bv len sh).length<=m+1:=by
    unfold Sw.usOn
    have:=List.length_filter_le (fun u:Sw.T3=>decide (rv<u.2.1)) us
    rw [List.length_append]
    simp only [List.length_cons,List.length_nil]
    omega
   exact k q qb qe _ (kp.trans n9.kept) ⟨dx,_,y,Dl,rs++[tp],_,n9 _ _ hp,ft3,n9 _ _ hy,n9 _ _ hrs,zbp tr n9,n9 _ _ he,ea2.keep fun _ _ z=>n9 _ _ z,by omega,lus⟩ zab (n9 _ _ hb) (n9 _ _ hE) fun l xs e dx' fs' pu' h1 h2=>by
    rw [n9 _ _ hp] at h1
    cases h1
    rw [ft3.unf] at h2
    cases h2
    exact Ne.symm (nD0 l _ e (ne_of e hp0 (by intro z; cases z)) (ne_of e he0 (by intro z; cases z)))
theorem Row.kept {H H':Hp} {l:Addr} {ps:List Addr} {qs:List Q4} {p d C dx:Addr} {fs:List (Str×V)} {kvs:List (Key×V)} (R:Row H l ps qs) (k:Kept p d H H') (hp:H p=some (.ins C dx fs)) (hd:H d=some (.dK kvs)):Row H' l ps qs :=
 ⟨k _ _ (ne_of R.hl hp (by intro z; cases z)) (ne_of R.hl hd (by intro z; cases z)) R.hl,R.r.keep fun p z e=>k _ _ (ne_of e hp (by intro w; cases w)) (ne_of e hd (by intro w; cases w)) e⟩
theorem Td.ob {C:Addr} {H:Hp} {p pe:Addr} {lat:Int} {re:Rat} {us:List Sw.T3} {en:Int->Option Rat} {m:Nat} (h:Td C H p pe lat re us en m):∃ dx fs kvs pr pu,H p=some (.ins C dx fs)/\H pe=some (.dK kvs)/\FT fs lat pr pu pe:=by
 obtain ⟨dx,fs,pr,pu,ps,kvs,h1,h2,h3,h4,h5,h6,_⟩:=h.ex
 exact ⟨dx,fs,kvs,pr,pu,h1,h6,h2⟩
theorem zvj {C:Addr} {H:Hp} {p pe:Addr} {lat:Int} {re:Rat} {us:List Sw.T3} {en:Int->Option Rat} {m:Nat} {D B t:Int} {Q:VK} {E:XK} (td:Td C H p pe lat re us en m) (ok:TideOk D B lat re us) (h:lat<=t) (t1:t<1000000000000000)
    (k:∀ q H',Same H H'->H' q=some (.tup (fq (Sw.markAt us lat re t)))->Q (.ref q) H'):rMeth C "mark" (.ref p) H (ztl C [.ref p,.int t] H Q E):=by
  obtain ⟨dx,fs,kvs,pr,pu,h1,h2,ft⟩:=Td.ob td
  exact zdh h1 (ft.no _ (by decide +kernel) (by decide +kernel) (by decide +kernel) (by decide +kernel)) ⟨p,t,lat,re,us,D,B,rfl,td.m,ok,h,t1,k⟩
def goE (x:Nat×Int):List V:=[.int (x.1:Int),.int x.2]
def WIt (H:Hp) (a:Addr) (i:Sw.WI):Prop:=∃ pp pt pb pe,H a=some (.tup [.int (i.1:Int),.ref pp,.ref pt])/\H pp=some (.tup (q4 i.2.1))/\H pt=some (.tup [.ref pb,.ref pe])/\H pb=some (.tup (fq i.2.2.1))/\H pe=some (.tup (fq i.2.2.2))
theorem WIt.keep {H H':Hp} {a:Addr} {i:Sw.WI} (h:WIt H a i) (e:∀ p xs,H p=some (.tup xs)->H' p=some (.tup xs)):WIt H' a i:=by
 obtain ⟨pp,pt,pb,pe,h1,h2,h3,h4,h5⟩:=h
 exact ⟨pp,pt,pb,pe,e _ _ h1,e _ _ h2,e _ _ h3,e _ _ h4,e _ _ h5⟩
structure FW (fs:List (Str×V)) (td:Addr) (free:Int) (ql gl:Addr):Prop where
 td:fs.lookup ("tide" : Str)=some (.ref td)
 fr:fs.lookup ("free" : Str)=some (.int free)
 qu:fs.lookup ("queue" : Str)=some (.ref ql)
 go:fs.lookup ("gone" : Str)=some (.ref gl)
 no:∀ m:Str,¬ m = "tide" -> ¬ m = "free" -> ¬ m = "queue" -> ¬ m = "gone" -> fs.lookup m=none
 len:fs.length<900
theorem zir:¬ (("tide" : Str) = "free"):=by decide +kernel
theorem zlr:¬ (("tide" : Str) = "queue"):=by decide +kernel
theorem zmt:¬ (("tide" : Str) = "gone"):=by decide +kernel
theorem zhf:¬ (("free" : Str) = "queue"):=by decide +kernel
theorem zis:¬ (("free" : Str) = "gone"):=by decide +kernel
theorem zls:¬ (("queue" : Str) = "gone"):=by decide +kernel
theorem FW.put_fr {fs:List (Str×V)} {td ql gl:Addr} {f g:Int} (h:FW fs td f ql gl):FW (putF "free" (.int g) fs) td g ql gl:=by
 refine ⟨?_,?_,?_,?_,fun m a b c d=>?_,?_⟩
 ·rw [zak,if_neg zir]; exact h.td
 ·rw [zak,if_pos rfl]
 ·rw [zak,if_neg (fun z=>zhf z.symm)]; exact h.qu
 ·rw [zak,if_neg (fun z=>zis z.symm)]; exact h.go
 ·rw [zak,if_neg b]; exact h.no m a b c d
 ·rw [zgd h.fr]; exact h.len
theorem FW.mk0 (td ql gl:Addr):FW (putF "gone" (.ref gl) (putF "queue" (.ref ql) (putF "free" (.int 0) (putF "tide" (.ref td) [])))) td 0 ql gl:=by
 refine ⟨?_,?_,?_,?_,fun m h1 h2 h3 h4=>?_,?_⟩
 ·rw [zak,if_neg zmt,zak,if_neg zlr,zak,if_neg zir,zak,if_pos rfl]
 ·rw [zak,if_neg zis,zak,if_neg zhf,zak,if_pos rfl]
 ·rw [zak,if_neg zls,zak,if_pos rfl]
 ·rw [zak,if_pos rfl]
 ·rw [zak,if_neg h4,zak,if_neg h3,zak,if_neg h2,zak,if_neg h1]; rfl
 ·have a1:=zbk (fs:=[]) (f := "tide") (v:=.ref td)
  have a2:=zbk (fs:=putF "tide" (.ref td) []) (f := "free") (v:=.int 0)
  have a3:=zbk (fs:=putF "free" (.int 0) (putF "tide" (.ref td) [])) (f := "queue") (v:=.ref ql)
  have a4:=zbk (fs:=putF "queue" (.ref ql) (putF "free" (.int 0) (putF "tide" (.ref td) []))) (f := "gone") (v:=.ref gl)
  simp only [List.length_nil] at a1
  omega
theorem Td.but {C:Addr} {H H':Hp} {p pe x C' dx':Addr} {fs':List (Str×V)} {lat:Int} {re:Rat} {us:List Sw.T3} {en:Int->Option Rat} {m:Nat} (h:Td C H p pe lat re us en m) (b:But x H H') (hx:H x=some (.ins C' dx' fs')) (n:p≠x):Td C H' p pe lat re us en m:=by
 obtain ⟨dx,fs,pr,pu,ps,kvs,h1,h2,h3,h4,h5,h6,h7,h8⟩:=h.ex
 have kt:∀ b' zs,H b'=some (.tup zs)->H' b'=some (.tup zs):=fun b' zs e=>b _ _ (ne_of e hx (by intro z; cases z)) e
 exact ⟨dx,fs,pr,pu,ps,kvs,b _ _ n h1,h2,kt _ _ h3,b _ _ (ne_of h4 hx (by intro z; cases z)) h4,zdi h5 kt,b _ _ (ne_of h6 hx (by intro z; cases z)) h6,h7.keep kt,h8⟩
structure Wl (C CT:Addr) (H:Hp) (p td pe ql gl:Addr) (s:Sw.Ti) (x:Sw.WS) (qs gs:List Addr) (m:Nat):Prop where
 ob:∃ dx fs,H p=some (.ins C dx fs)/\FW fs td x.1 ql gl
 tk:Td CT H td pe s.lat s.re s.us s.en m
 nq:NoU CT H td ql
 ng:NoU CT H td gl
 hq:H ql=some (.lst (qs.map V.ref))
 rq:Paired (WIt H) qs x.2.1
 hg:H gl=some (.lst (gs.map V.ref))
 rg:TupsF goE H gs x.2.2
 d1:ql≠gl
 d2:td≠p
section
variable {C CT p td pe ql gl:Addr} {s:Sw.Ti} {x:Sw.WS} {qs gs:List Addr} {m:Nat} {H H':Hp}
theorem NoU.same {l:Addr} (h:NoU CT H td l) (e:∃ dx fs,H td=some (.ins CT dx fs)) (s:Same H H'):NoU CT H' td l:=by
 obtain ⟨dx,fs,e⟩:=e
 exact h.on e (s _ _ e)
theorem Wl.same (h:Wl C CT H p td pe ql gl s x qs gs m) (sm:Same H H'):Wl C CT H' p td pe ql gl s x qs gs m:=by
 obtain ⟨dx,fs,h1,h2⟩:=h.ob
 obtain ⟨dt,ft,_,_,_,t1,_⟩:=Td.ob h.tk
 exact ⟨⟨dx,fs,sm _ _ h1,h2⟩,h.tk.same sm,h.nq.same ⟨_,_,t1⟩ sm,h.ng.same ⟨_,_,t1⟩ sm,sm _ _ h.hq,Paired.mapP h.rq fun _ _ z=>z.keep fun _ _ e=>sm _ _ e,sm _ _ h.hg,zcl h.rg sm,h.d1,h.d2⟩
theorem Wl.setQ (h:Wl C CT H p td pe ql gl s x qs gs m) {qs':List Addr} {Qu':List Sw.WI} (r:Paired (WIt H) qs' Qu'):Wl C CT (upd H ql (.lst (qs'.map V.ref))) p td pe ql gl s (x.1,Qu',x.2.2) qs' gs m:=by
 obtain ⟨dx,fs,h1,h2⟩:=h.ob
 obtain ⟨dt,ft,_,_,_,t1,_⟩:=Td.ob h.tk
 have kt:∀ b zs,H b=some (.tup zs)->upd H ql (.lst (qs'.map V.ref)) b=some (.tup zs):=fun b zs e=>zel h.hq e
 have ot:upd H ql (.lst (qs'.map V.ref)) td=some (.ins CT dt ft):=by rw [zai (ne_of t1 h.hq (by intro z; cases z))]; exact t1
 exact ⟨⟨dx,fs,by rw [zai (ne_of h1 h.hq (by intro z; cases z))]; exact h1,h2⟩,Td.list h.tk h.nq h.hq,h.nq.on t1 ot,h.ng.on t1 ot,zab,Paired.mapP r fun _ _ z=>z.keep kt,by rw [zai (Ne.symm h.d1)]; exact h.hg,zcm h.rg kt,h.d1,h.d2⟩
theorem Wl.setG (h:Wl C CT H p td pe ql gl s x qs gs m) {gs':List Addr} {gn':List (Nat×Int)} (r:TupsF goE H gs' gn'):Wl C CT (upd H gl (.lst (gs'.map V.ref))) p td pe ql gl s (x.1,x.2.1,gn') qs gs' m:=by
 obtain ⟨dx,fs,h1,h2⟩:=h.ob
 obtain ⟨dt,ft,_,_,_,t1,_⟩:=Td.ob h.tk
 have kt:∀ b zs,H b=some (.tup zs)->upd H gl (.lst (gs'.map V.ref)) b=some (.tup zs):=fun b zs e=>zel h.hg e
 have ot:upd H gl (.lst (gs'.map V.ref)) td=some (.ins CT dt ft):=by rw [zai (ne_of t1 h.hg (by intro z; cases z))]; exact t1
 exact ⟨⟨dx,fs,by rw [zai (ne_of h1 h.hg (by intro z; cases z))]; exact h1,h2⟩,Td.list h.tk h.ng h.hg,h.nq.on t1 ot,h.ng.on t1 ot,by rw [zai h.d1]; exact h.hq,Paired.mapP h.rq fun _ _ z=>z.keep kt,zab,zcm r kt,h.d1,h.d2⟩
theorem Wl.setF (h:Wl C CT H p td pe ql gl s x qs gs m) {dx:Addr} {fs fs':List (Str×V)} {f:Int} (h1:H p=some (.ins C dx fs)) (h2:FW fs' td f ql gl):Wl C CT (upd H p (.ins C dx fs')) p td pe ql gl s (f,x.2.1,x.2.2) qs gs m:=by
 obtain ⟨dt,ft,_,_,_,t1,_⟩:=Td.ob h.tk
 have kt:∀ b zs,H b=some (.tup zs)->upd H p (.ins C dx fs') b=some (.tup zs):=fun b zs e=>by rw [zai (ne_of e h1 (by intro z; cases z))]; exact e
 have ot:upd H p (.ins C dx fs') td=some (.ins CT dt ft):=by rw [zai h.d2]; exact t1
 exact ⟨⟨dx,fs',zab,h2⟩,Td.but h.tk zkf h1 h.d2,h.nq.on t1 ot,h.ng.on t1 ot,by rw [zai (ne_of h.hq h1 (by intro z; cases z))]; exact h.hq,Paired.mapP h.rq fun _ _ z=>z.keep kt,by rw [zai (ne_of h.hg h1 (by intro z; cases z))]; exact h.hg,zcm h.rg kt,h.d1,h.d2⟩
theorem Wl.lenQ (h:Wl C CT H p td pe ql gl s x qs gs m):qs.length=x.2.1.length:=Paired.length h.rq
end
def KeptW (p td pe ql gl:Addr) (H H':Hp):Prop:=∀ b o,b≠p->b≠td->b≠pe->b≠ql->b≠gl->H b=some o->H' b=some o
theorem KeptW.trans {p td pe ql gl:Addr} {H H1 H2:Hp} (a:KeptW p td pe ql gl H H1) (b:KeptW p td pe ql gl H1 H2):KeptW p td pe ql gl H H2:=fun c o n1 n2 n3 n4 n5 e=>b c o n1 n2 n3 n4 n5 (a c o n1 n2 n3 n4 n5 e)
def KeptT (td:Addr) (H H':Hp):Prop:=∀ o,H td=some o->H' td=some o
theorem KeptT.trans {td:Addr} {H H1 H2:Hp} (a:KeptT td H H1) (b:KeptT td H1 H2):KeptT td H H2:=fun o e=>b o (a o e)
theorem KeptT.noU {CT td l:Addr} {H H':Hp} (k:KeptT td H H') (h:NoU CT H td l) (e:∃ dx fs,H td=some (.ins CT dx fs)):NoU CT H' td l:=by
 obtain ⟨dx,fs,e⟩:=e
 exact h.on e (k _ e)
theorem Wl.td {C CT p td pe ql gl:Addr} {s:Sw.Ti} {x:Sw.WS} {qs gs:List Addr} {m:Nat} {H:Hp} (W:Wl C CT H p td pe ql gl s x qs gs m):∃ dx fs,H td=some (.ins CT dx fs):=by
 obtain ⟨dt,ft,_,_,_,t1,_⟩:=Td.ob W.tk
 exact ⟨dt,ft,t1⟩
theorem Same.keptW {p td pe ql gl:Addr} {H H':Hp} (h:Same H H'):KeptW p td pe ql gl H H':=fun b o _ _ _ _ _ e=>h b o e
theorem zgq {p td pe ql gl v:Addr} {H:Hp} {o:HO} (h:v=p\/v=ql\/v=gl):KeptW p td pe ql gl H (upd H v o):=fun b u n1 _ _ n4 n5 e=>by
 have:b≠v:=fun z=>by
  rcases h with q | q | q
  ·exact n1 (z.trans q)
  ·exact n4 (z.trans q)
  ·exact n5 (z.trans q)
 rw [zai this]; exact e
def spCT (C CT:Addr):Sp:=fun vs H Q _=>∃ p td pe ql gl s x qs gs m,vs = [.ref p]/\Wl C CT H p td pe ql gl s x qs gs m/\x.2.1≠[]/\Q (.int (Sw.ctime x.1 x.2.1)) H
theorem zee (T:Txt K mg c_NoRatio c_Tide c_Wheel):MethD P w K mg base (CXX P w) 1 c_Wheel "choice_time" ["self"] [[]] (spCT c_Wheel c_Tide):=by
 refine T.me_Wheel_choice_time.okN (k:=0) zfr (fun vs H Q E h=>?_) (fun f cdv A outer s H vs Q E hr h=>?_)
 ·obtain ⟨p,td,pe,ql,gl,s,x,qs,gs,m,rfl,_⟩:=h
  rfl
 ·obtain ⟨p,td,pe,ql,gl,st,x,qs,gs,m,rfl,W,ne,k⟩:=h
  refine ⟨_,(zan (zay (zbn (zpd rfl) rfl T.no_max boot_max (zaa (zda (pv 0) rfl) (zaa (pe_ix (zam K rfl) (pe_ix (zam K rfl) (pe_ix (zau K rfl) (zda (pv 0) rfl) zaj (fun _ _=>rfl)) zaj (fun _ _=>rfl)) zaj (fun _ _=>rfl)) zae))))),?_⟩
  show tRet _ _ [some (.ref p)] H
  obtain ⟨dx,fs,h1,fw⟩:=W.ob
  obtain ⟨free,Qu,gn⟩:=x
  cases Qu with
  | nil=>exact absurd rfl ne
  | cons i r =>
   obtain ⟨a0,ha0,pp,pt,pb,pe',g1,g2,g3,g4,g5⟩:=zgl W.rq (i:=0) (b:=i) rfl
   walk_at "rd"
   refine zbt h1 T.cl_Wheel T.na_Wheel_free fw.fr ?_
   refine zbt h1 T.cl_Wheel T.na_Wheel_queue fw.qu ?_
   refine zcd (.of W.hq) (show atI (qs.map V.ref) 0=some (.ref a0) from zcc (j:=0) (by rw [List.getElem?_map,ha0]; rfl)) ?_
   refine zaq (.of g1) rfl (zaq (.of g2) rfl ?_)
   walk_at "rd"
   exact k
def zxq (C CT:Addr):Sp:=fun vs H Q _=>∃ p pm mk td pe ql gl s x qs gs m c0,vs = [.ref p,.ref pm]/\H pm=some (.tup (fq mk))/\Sw.SzQ 2000 mk/\Wl C CT H p td pe ql gl s x qs gs m/\(∀ i∈x.2.1,Sw.SzQ 2000 i.2.2.1/\Sw.SzQ 2000 i.2.2.2) /\
 Sw.nextF mk x.2.1 none=some c0/\∀ (k:Nat) (ad:Addr),x.2.1[k]? = some c0->qs[k]? = some ad->Q (.ref ad) H
theorem zgr (T:Txt K mg c_NoRatio c_Tide c_Wheel):MethD P w K mg base (CXX P w) 2 c_Wheel "next_to_go" ["self", "mark"] [[]] (zxq c_Wheel c_Tide):=by
 have D_under:=zfi (P:=P) (w:=w) (base:=base) T
 refine T.me_Wheel_next_to_go.okN (k:=1) sc_Wheel_next_to_go (fun vs H Q E h=>?_) (fun f cdv A outer s H vs Q E hr h=>?_)
 ·obtain ⟨p,pm,mk,td,pe,ql,gl,s,x,qs,gs,m,c0,rfl,_⟩:=h
  rfl
 ·obtain ⟨p,pm,mk,td,pe,ql,gl,st,x,qs,gs,m,c0,rfl,hpm,zm,W,zi,hn,k⟩:=h
  refine ⟨_,(zac (zal (i:=2) sc_Wheel_next_to_go.nd rfl zix) (zac (zdq PassesOwn.never rfl (zav K rfl (zda (pv 0) rfl)) (zap (i:=3) sc_Wheel_next_to_go.nd rfl (by first|left;rfl|right;rfl)) (zac (zal (i:=4) sc_Wheel_next_to_go.nd rfl (zsx (zao D_under (hr.mono (by decide)) rfl passN (zaa (pv 1) (zaa (pe_ix (zam K rfl) (pe_ix (zam K rfl) (pv 3) zaj (fun _ _=>rfl)) zaj (fun _ _=>rfl)) zae))))) (zan (ps_if (PW.pt (ziy (zeb (pv 4)) (zhu (PW.pt (pw_or (zcb zsz (pv 2) zix (zcp _)) (zsw (zeb (zao D_under (hr.mono (by decide)) rfl passN (zaa (pe_ix (zam K rfl) (pe_ix (zam K rfl) (pv 3) zaj (fun _ _=>rfl)) zaj (fun _ _=>rfl)) (zaa (pe_ix (zam K rfl) (pe_ix (zam K rfl) (pv 2) zaj (fun _ _=>rfl)) zaj (fun _ _=>rfl)) zae)))))))))) (zan (zal (i:=2) sc_Wheel_next_to_go.nd rfl (pv 3))) zdf)))) (zan (zay (pv 2))))),?_⟩
  show tSeq _ _ _ [some (.ref p),some (.ref pm),none,none,none] H
  obtain ⟨dx,fs,h1,fw⟩:=W.ob
  have lq:=W.lenQ
  refine zad fun R hR=>?_
  walk_at "rd"
  refine hR _ _ ?_
  clear hR
  refine zad fun R hR=>?_
  refine zbo fun Z hZ=>?_
  walk_at "rd"
  refine zbt h1 T.cl_Wheel T.na_Wheel_queue fw.qu ?_
  refine ⟨ql,rfl,⟨_,.of W.hq⟩,hZ _ _ ?_⟩
  refine zdp (K:=K) (a:=ql) (xs:=qs.map V.ref) (fun i σ H'=>H'=H/\∃ ch v3 v4,σ = [some (.ref p),some (.ref pm),some ch,v3,v4]/\((ch = .non/\Sw.nextF mk (x.2.1.take i) none=none)\/∃ (j:Nat) (c:Sw.WI) (ad:Addr),ch = .ref ad/\x.2.1[j]? = some c/\qs[j]? = some ad/\Sw.nextF mk (x.2.1.take i) none=some c)) ⟨rfl,.non,none,none,rfl,.inl ⟨rfl,rfl⟩⟩ (fun i σ H' _ ⟨e,_⟩=>by rw [e]; exact .of W.hq) ?_ ?_
  ·rintro i y σ H' hy ⟨rfl,ch,v3,v4,rfl,hch⟩
   obtain ⟨a,ha,rfl⟩:∃ p,qs[i]? = some p/\V.ref p=y:=by simpa using hy
   obtain ⟨it,hit,pp,pt,pb,pe',g1,g2,g3,g4,g5⟩:=zbe W.rq ha
   obtain ⟨zb,ze⟩:=zi it (List.mem_of_getElem? hit)
   have et:Sw.nextF mk (x.2.1.take (i+1)) none=Sw.bestF mk it (Sw.nextF mk (x.2.1.take i) none):=by rw [take_succ_of hit,Sw.nextF_snoc]
   show tSeq _ _ _ [some (.ref p),some (.ref pm),some ch,some (.ref a),v4] H'
   refine zby fun N hN=>?_
   refine zad fun R hR=>?_
   walk_at "rd"
   refine zaq (.of g1) rfl (zaq (.of g3) rfl ?_)
   refine ⟨pm,pb,mk,it.2.2.1,rfl,hpm,g4,zm.mono (by decide),zb.mono (by decide),?_⟩
   walk_at "rd"
   refine hR _ _ ?_
   walk_at "rd"
   refine ite2 (fun c=>?_) fun c=>?_
   ·refine hN _ _ ⟨rfl,ch,_,_,rfl,?_⟩
    rw [et]
    unfold Sw.bestF
    rw [if_pos c]
    exact hch
   ·rcases hch with ⟨rfl,e⟩ | ⟨j,d,ad,rfl,h2,h3,e⟩
    ·rw [if_pos rfl]
     refine hN _ _ ⟨rfl,.ref a,_,_,rfl,.inr ⟨i,it,a,rfl,hit,ha,?_⟩⟩
     rw [et,e]
     unfold Sw.bestF
     rw [if_neg c]
    ·rw [if_neg (by intro z; cases z)]
     obtain ⟨d',hd',pp2,pt2,pb2,pe2,f1,f2,f3,f4,f5⟩:=zbe W.rq h3
     rw [h2] at hd'
     cases hd'
     obtain ⟨zb2,ze2⟩:=zi d (List.mem_of_getElem? h2)
     refine zaq (.of g1) rfl (zaq (.of g3) rfl (zaq (.of f1) rfl (zaq (.of f3) rfl ?_)))
     refine ⟨pe',pe2,it.2.2.2,d.2.2.2,rfl,g5,f5,ze.mono (by decide),ze2.mono (by decide),?_⟩
     walk_at "rd"
     refine ite2 (fun c2=>?_) fun c2=>?_
     ·refine hN _ _ ⟨rfl,.ref a,_,_,rfl,.inr ⟨i,it,a,rfl,hit,ha,?_⟩⟩
      rw [et,e]
      unfold Sw.bestF
      rw [if_neg c]
      dsimp only
      rw [if_pos c2]
     ·refine hN _ _ ⟨rfl,.ref ad,_,_,rfl,.inr ⟨j,d,ad,rfl,h2,h3,?_⟩⟩
      rw [et,e]
      unfold Sw.bestF
      rw [if_neg c]
      dsimp only
      rw [if_neg c2]
  ·rintro σ H' ⟨eH,ch,v3,v4,rfl,hch⟩
   subst eH
   rw [List.length_map,lq,List.take_of_length_le (Nat.le_refl _)] at hch
   refine hR _ _ ?_
   walk_at "rd"
   rcases hch with ⟨_,e⟩ | ⟨j,c,ad,rfl,h2,h3,e⟩
   ·rw [hn] at e; cases e
   ·rw [hn] at e
    cases e
    exact k j ad h2 h3
def itD (i:Sw.WI):PyData:=.tuple [.int (i.1:Int),q4D i.2.1,.tuple [.tuple [.int i.2.2.1.num,.int (i.2.2.1.den:Int)],.tuple [.int i.2.2.2.num,.int (i.2.2.2.den:Int)]]]
theorem zra (i:Sw.WI):(itD i).canLay0=true:=rfl
theorem zjt (i:Sw.WI):PySem.SeqAt.shaped (itD i)=true:=by
 unfold PySem.SeqAt.shaped
 rw [Bool.and_eq_true,decide_eq_true_eq]
 refine ⟨zra i,?_⟩
 simp [itD,q4D,PyData.depth,PyData.depthAll]
theorem zrb {K:PySem.W.Frag} {H:Hp} {a:Addr} {i:Sw.WI} (h:WIt H a i):Deep K H (.ref a) (itD i):=by
 obtain ⟨pp,pt,pb,pe,h1,h2,h3,h4,h5⟩:=h
 exact .tup (.of h1) (.cons (.int _) (.cons (.tup (.of h2) (.cons (.int _) (.cons (.int _) (.cons (.int _) (.cons (.int _) .nil))))) (.cons (.tup (.of h3) (.cons (zpx h4) (.cons (zpx h5) .nil))) .nil)))
theorem znt {K:PySem.W.Frag} {H:Hp}:∀ {ps:List Addr} {is:List Sw.WI},Paired (WIt H) ps is->DeepAll K H (ps.map V.ref) (is.map itD)
 | _,_,Paired.nil=>.nil
 | _,_,Paired.cons a b=>.cons (zrb a) (znt b)
theorem zxr {i j:Sw.WI} (h:i.1≠j.1):PyData.eqv (itD i) (itD j)=false:=by
 have:((i.1:Int) == (j.1:Int))=false:=by
  rw [beq_eq_false_iff_ne]
  omega
 simp [itD,PyData.eqv,PyData.eqvAll,this]
theorem zlt:∀ (l:List Addr) (n:Nat),(l.map V.ref).eraseIdx n=(l.eraseIdx n).map V.ref
 | [],_=>rfl
 | _ :: _,0=>rfl
 | a :: r,n+1=>by
  show V.ref a :: (r.map V.ref).eraseIdx n=V.ref a :: (r.eraseIdx n).map V.ref
  rw [zlt r n]
theorem zit {α β:Type} {F:α->β->Prop}:∀ {l₁:List α} {l₂:List β} (n:Nat),Paired F l₁ l₂->Paired F (l₁.take n) (l₂.take n)
 | _,_,0,_=>.nil
 | _,_,_ + 1,.nil=>.nil
 | _,_,n+1,.cons a b=>.cons a (zit n b)
theorem zhg {α β:Type} {F:α->β->Prop}:∀ {l₁:List α} {l₂:List β} (n:Nat),Paired F l₁ l₂->Paired F (l₁.eraseIdx n) (l₂.eraseIdx n)
 | _,_,_,.nil=>.nil
 | _,_,0,.cons _ b=>b
 | _,_,n+1,.cons a b=>.cons a (zhg n b)
theorem zvk {D B lat t:Int} {re:Rat} {us:List Sw.T3} (ok:TideOk D B lat re us) (h:lat<=t):Sw.SzQ 1700 (Sw.markAt us lat re t):=by
 obtain ⟨⟨S,S1,S2,gS⟩,m1,m2⟩:=Sw.markAt_ok ok h
 have gb:=ok.gb
 have B1:=gb.B1
 have B0:=gb.B0
 have re0:=ok.re0
 have lu':=ok.len
 exact (gS.sz (M:=B) (a:=1570) (b:=70) (Int.mul_pos gb.D0 (by omega)) (gb.Dz.mul (Sw.Sz.r18 (by omega) (by omega))) (Sw.Sz.r18 (by omega) (by omega)) (by have:(0:Rat)<=(B:Rat):=(by grind); grind) m2 (by decide)).mono (by decide)
def spGo (C CT:Addr):Sp:=fun vs H Q _=>∃ p td pe ql gl s x qs gs m D B T G,vs = [.ref p]/\Wl C CT H p td pe ql gl s x qs gs m/\TideOk D B s.lat s.re s.us/\Sw.WOk s T G x/\x.2.1≠[]/\x.2.1.length<=100/\x.2.2.length<=100/\Sw.ctime x.1 x.2.1<1000000000000000/\(∀ i∈x.2.1,Sw.SzQ 2000 i.2.2.1/\Sw.SzQ 2000 i.2.2.2) /\
 ∀ qs' gs' H',KeptW p td pe ql gl H H'->KeptT td H H'->Wl C CT H' p td pe ql gl s (Sw.goF s x) qs' gs' m->Q .non H'
theorem zef (T:Txt K mg c_NoRatio c_Tide c_Wheel):MethD P w K mg base (CXX P w) 5 c_Wheel "make_choice" ["self"] [[]] (spGo c_Wheel c_Tide):=by
 have M_Wheel_choice_time:=zee (P:=P) (w:=w) (base:=base) T
 have M_Wheel_next_to_go:=zgr (P:=P) (w:=w) (base:=base) T
 have M_Tide_mark:=zio (P:=P) (w:=w) (base:=base) T
 refine T.me_Wheel_make_choice.okN (k:=4) sc_Wheel_make_choice (fun vs H Q E h=>?_) (fun f cdv A outer s H vs Q E hr h=>?_)
 ·obtain ⟨p,td,pe,ql,gl,s,x,qs,gs,m,D,B,T,G,rfl,_⟩:=h
  rfl
 ·obtain ⟨p,td,pe,ql,gl,st,x,qs,gs,m,D,B,TT,G,rfl,W,ok,wo,ne,l1,l2,t1,zi,k⟩:=h
  refine ⟨_,(zac (zal (i:=1) sc_Wheel_make_choice.nd rfl (zff (dvs:=[]) M_Wheel_choice_time (by simp) T.cl_Wheel (hr.mono (by decide)) passN (pv 0))) (zac (zal (i:=2) sc_Wheel_make_choice.nd rfl (zeh (dvs:=[]) M_Wheel_next_to_go (by simp) T.cl_Wheel (hr.mono (by decide)) passN (pv 0) (zaa (zeh (dvs:=[]) M_Tide_mark (by simp) T.cl_Tide (hr.mono (by decide)) passN (zda (pv 0) rfl) (zaa (pv 1) zae)) zae))) (zac (zbj (pe_bm PySem.F.plainAttrs_list PySem.F.slot_list_remove PySem.F.type_list_remove (zqo K rfl hr.units66) (zda (pv 0) rfl) (zaa (pv 2) zae))) (zac (zbj (pe_bm PySem.F.plainAttrs_list PySem.F.slot_list_append PySem.F.type_list_append zaz (zda (pv 0) rfl) (zaa (zcg (zaa (pe_ix (zam K rfl) (pv 2) zaj (fun _ _=>rfl)) (zaa (pv 1) zae))) zae))) (zan (zfa (pv 0) (pe_op zdu (pv 1) (pe_ix (zam K rfl) (pe_ix (zam K rfl) (pv 2) zaj (fun _ _=>rfl)) zaj (fun _ _=>rfl))) rfl)))))),?_⟩
  show tSeq _ _ _ [some (.ref p),none,none] H
  obtain ⟨dx,fs,h1,fw⟩:=W.ob
  have lq:=W.lenQ
  have nf:fs.lookup ("choice_time" : Str)=none:=fw.no _ (by decide +kernel) (by decide +kernel) (by decide +kernel) (by decide +kernel)
  have nn:fs.lookup ("next_to_go" : Str)=none:=fw.no _ (by decide +kernel) (by decide +kernel) (by decide +kernel) (by decide +kernel)
  refine zad fun R hR=>?_
  walk_at "rd"
  refine zdh h1 nf ?_
  refine ⟨p,td,pe,ql,gl,st,x,qs,gs,m,rfl,W,ne,hR _ _ ?_⟩
  clear hR
  have tl:=wo.tl ne
  obtain ⟨c,hc,cm⟩:=wo.pick ok ne
  refine zad fun R hR=>?_
  walk_at "rd"
  refine zdh h1 nn ?_
  refine zbt h1 T.cl_Wheel T.na_Wheel_tide fw.td ?_
  refine zvj W.tk ok tl t1 fun pm H1 s1 hpm=>?_
  have W:=W.same s1
  have h1:=s1 _ _ h1
  refine ⟨p,pm,_,td,pe,ql,gl,st,x,qs,gs,m,c,rfl,hpm,(zvk ok tl).mono (by decide),W,zi,hc,fun kk ad hk hd=>hR _ _ ?_⟩
  clear hR
  have eg:Sw.goF st x=(Sw.ctime x.1 x.2.1+c.2.1.2.2.1,x.2.1.erase c,x.2.2++[(c.1,Sw.ctime x.1 x.2.1)]):=by unfold Sw.goF; rw [hc]
  obtain ⟨c',hc',pp,pt,pb,pe',g1,g2,g3,g4,g5⟩:=zbe W.rq hd
  rw [hk] at hc'
  cases hc'
  have kl:kk<x.2.1.length:=(List.getElem?_eq_some_iff.mp hk).1
  have wit:WIt H1 ad c:=⟨pp,pt,pb,pe',g1,g2,g3,g4,g5⟩
  have nb:∀ (m':Nat) (i:Sw.WI),m' < kk->x.2.1[m']? = some i->i.1≠c.1:=fun m' i hm hi z=>by
   have e1:(x.2.1.map (·.1))[m']? = some i.1:=by rw [List.getElem?_map,hi]; rfl
   have e2:(x.2.1.map (·.1))[kk]? = some c.1:=by rw [List.getElem?_map,hk]; rfl
   have:=(List.getElem?_inj (List.getElem?_eq_some_iff.mp e1).1 wo.nd).mp (e1.trans (by rw [z,e2]))
   omega
  refine zad fun R hR=>?_
  walk_at "rd"
  refine zbt h1 T.cl_Wheel T.na_Wheel_queue fw.qu ?_
  refine ⟨zdk W.hq,ql,_,.ref ad,kk,itD c,(x.2.1.take (kk+1)).map itD,rfl,rfl,W.hq,line_lt (by rw [List.length_map]; omega),by rw [List.length_map]; omega,zrb wit,zjt c,?_,?_,?_,?_,hR _ _ ?_⟩
  ·rw [<- List.map_take]
   exact znt (zit (kk+1) W.rq)
  ·intro e he
   obtain ⟨i,_,rfl⟩:=List.mem_map.mp he
   exact zjt i
  ·rw [List.getElem?_map,List.getElem?_take,if_pos (by omega),hk]
   show some (PyData.eqv (itD c) (itD c))=some true
   rw [zhn _ (zra c)]
  ·intro m' e hm he
   rw [List.getElem?_map,List.getElem?_take,if_pos (by omega)] at he
   cases ci:x.2.1[m']? with
   | none=>rw [ci] at he; cases he
   | some i =>
    rw [ci] at he
    have:itD i=e:=Option.some.inj he
    rw [<- this]
    exact zxr (nb m' i hm ci)
  clear hR
  have ee:(qs.map V.ref).eraseIdx kk=(qs.eraseIdx kk).map V.ref:=zlt qs kk
  rw [ee]
  have W2:=W.setQ (zhg kk W.rq)
  rw [<- Sw.erase_idx wo.nd hk] at W2
  have k2:KeptW p td pe ql gl H (upd H1 ql (.lst ((qs.eraseIdx kk).map V.ref))):=(Same.keptW s1).trans (zgq (.inr (.inl rfl)))
  have j2:KeptT td H (upd H1 ql (.lst ((qs.eraseIdx kk).map V.ref))):=fun o e=>by
   obtain ⟨dt,ft,t1⟩:=W.td
   rw [zai (ne_of t1 W.hq (by intro z; cases z))]; exact s1 _ _ e
  have g1':=zel (ys:=(qs.eraseIdx kk).map V.ref) W.hq g1
  have g2':=zel (ys:=(qs.eraseIdx kk).map V.ref) W.hq g2
  generalize upd H1 ql (.lst ((qs.eraseIdx kk).map V.ref))=H2 at W2 k2 j2 g1' g2' ⊢
  clear W h1 g1 g2 g3 g4 g5 wit s1 hpm
  obtain ⟨dx,fs,h1,fw⟩:=W2.ob
  have lg:=zfe W2.rg
  refine zad fun R hR=>?_
  walk_at "rd"
  refine zbt h1 T.cl_Wheel T.na_Wheel_gone fw.go ?_
  refine ⟨zdk W2.hg,?_⟩
  refine zaq (.of g1') rfl ?_
  intro tp ftp
  have s3:=zaf (o:=.tup [.int (c.1:Int),.int (Sw.ctime x.1 x.2.1)]) ftp
  have W3:=W2.same s3
  have htp:upd H2 tp (.tup [.int (c.1:Int),.int (Sw.ctime x.1 x.2.1)]) tp=some (.tup (goE (c.1,Sw.ctime x.1 x.2.1))):=zab
  have k3:=k2.trans (Same.keptW s3)
  have j3:KeptT td H (upd H2 tp (.tup [.int (c.1:Int),.int (Sw.ctime x.1 x.2.1)])):=fun o e=>s3 _ _ (j2 o e)
  have g1':=s3 _ _ g1'
  have g2':=s3 _ _ g2'
  generalize upd H2 tp (.tup [.int (c.1:Int),.int (Sw.ctime x.1 x.2.1)])=H3 at W3 htp k3 j3 g1' g2' ⊢
  refine zgc W3.hg (by rw [List.length_map]; show gs.length<1000; have:gs.length=x.2.2.length:=lg; omega) (hR _ _ ?_)
  clear hR
  have W4:=W3.setG (zdw htp W3.rg)
  have em:(gs++[tp]).map V.ref=gs.map V.ref++[.ref tp]:=by rw [List.map_append]; rfl
  rw [em] at W4
  have k4:KeptW p td pe ql gl H (upd H3 gl (.lst (gs.map V.ref++[.ref tp]))):=k3.trans (zgq (.inr (.inr rfl)))
  have j4:KeptT td H (upd H3 gl (.lst (gs.map V.ref++[.ref tp]))):=fun o e=>by
   obtain ⟨dt,ft,t1⟩:=W3.td
   rw [zai (ne_of t1 W3.hg (by intro z; cases z))]; exact j3 o e
  have g1':=zel (ys:=gs.map V.ref++[.ref tp]) W3.hg g1'
  have g2':=zel (ys:=gs.map V.ref++[.ref tp]) W3.hg g2'
  generalize upd H3 gl (.lst (gs.map V.ref++[.ref tp]))=H4 at W4 k4 j4 g1' g2' ⊢
  clear W2 W3 k2 k3 h1 fw s3 ftp htp
  obtain ⟨dx,fs,h1,fw⟩:=W4.ob
  walk_at "rd"
  refine zaq (.of g1') rfl (zaq (.of g2') rfl ?_)
  refine ⟨_,rfl,zfb h1 T.cl_Wheel T.na_Wheel_free (by have:=fw.len; omega) ?_⟩
  refine k (qs.eraseIdx kk) (gs++[tp]) _ (k4.trans (zgq (.inl rfl))) (fun o e=>by rw [zai W4.d2]; exact j4 o e) ?_
  rw [eg]
  exact W4.setF h1 fw.put_fr
structure WRun (s:Sw.Ti) (T G:List Sw.WI) (x:Sw.WS) (D B:Int):Prop where
 ok:TideOk D B s.lat s.re s.us
 wo:Sw.WOk s T G x
 l1:x.2.1.length+x.2.2.length<=100
 zi:∀ i∈x.2.1,Sw.SzQ 2000 i.2.2.1/\Sw.SzQ 2000 i.2.2.2
 tb:∀ i∈x.2.1,0<=Sw.wAt i/\Sw.wAt i+0<200000000000000/\i.2.1.2.2.1<=1000000
 fb:x.1+1000000*x.2.1.length<400000000000000
theorem znu {free:Int} {l:List Sw.WI} {b:Int} (h1:free<b) (h2:∀ i∈l,Sw.wAt i<b):Sw.ctime free l<b:=by
 cases l with
 | nil=>exact h1
 | cons i r =>
  have:=h2 i (by simp)
  show (if Sw.wAt i > free then Sw.wAt i else free)<b
  split <;> omega
theorem WRun.step {s:Sw.Ti} {T G:List Sw.WI} {x:Sw.WS} {D B:Int} (h:WRun s T G x D B) (ne:x.2.1≠[]):∃ G',WRun s T G' (Sw.goF s x) D B/\(Sw.goF s x).2.1.length+1=x.2.1.length:=by
 obtain ⟨c,cm,hc,w,l⟩:=h.wo.step h.ok ne
 have e:Sw.goF s x=(Sw.ctime x.1 x.2.1+c.2.1.2.2.1,x.2.1.erase c,x.2.2++[(c.1,Sw.ctime x.1 x.2.1)]):=by unfold Sw.goF; rw [hc]
 have l1:=h.l1
 have cb:=(h.tb c cm).2.2
 have fb:=h.fb
 have pos:=List.length_pos_of_mem cm
 refine ⟨G++[c],⟨h.ok,w,?_,?_,?_,?_⟩,l⟩
 ·rw [e] at l ⊢
  show (x.2.1.erase c).length+(x.2.2++[(c.1,Sw.ctime x.1 x.2.1)]).length<=100
  have l:(x.2.1.erase c).length+1=x.2.1.length:=l
  rw [List.length_append]
  simp only [List.length_cons,List.length_nil]
  omega
 ·rw [e]; exact fun i hi=>h.zi i (List.mem_of_mem_erase hi)
 ·rw [e]; exact fun i hi=>h.tb i (List.mem_of_mem_erase hi)
 ·have l:=l
  rw [e] at l ⊢
  have l:(x.2.1.erase c).length+1=x.2.1.length:=l
  show Sw.ctime x.1 x.2.1+c.2.1.2.2.1+1000000*((x.2.1.erase c).length:Int) < _
  have f0:=h.wo.f0
  have ct:=znu (free:=x.1) (l:=x.2.1) (b:=400000000000000-1000000*x.2.1.length) (by omega) (fun i hi=>by have:=(h.tb i hi).2.1; omega)
  omega
theorem WRun.t1 {s:Sw.Ti} {T G:List Sw.WI} {x:Sw.WS} {D B:Int} (h:WRun s T G x D B):Sw.ctime x.1 x.2.1<1000000000000000:=by
 have fb:=h.fb
 exact znu (by omega) (fun i hi=>by have:=(h.tb i hi).2.1; omega)
def spTo (C CT:Addr):Sp:=fun vs H Q _=>∃ p a td pe ql gl s x qs gs m D B T G,vs = [.ref p,.int a]/\Wl C CT H p td pe ql gl s x qs gs m/\WRun s T G x D B /\
 ∀ qs' gs' H',KeptW p td pe ql gl H H'->KeptT td H H'->Wl C CT H' p td pe ql gl s (Sw.runF s (some a) x.2.1.length x) qs' gs' m->Q .non H'
theorem zhd (T:Txt K mg c_NoRatio c_Tide c_Wheel):MethD P w K mg base (CXX P w) 6 c_Wheel "run_up_to" ["self", "at"] [[]] (spTo c_Wheel c_Tide):=by
 have M_Wheel_choice_time:=zee (P:=P) (w:=w) (base:=base) T
 have M_Wheel_make_choice:=zef (P:=P) (w:=w) (base:=base) T
 refine T.me_Wheel_run_up_to.okN (k:=5) zgp (fun vs H Q E h=>?_) (fun f cdv A outer s H vs Q E hr h=>?_)
 ·obtain ⟨p,a,td,pe,ql,gl,s,x,qs,gs,m,D,B,T,G,rfl,_⟩:=h
  rfl
 ·obtain ⟨p,a,td,pe,ql,gl,st,x,qs,gs,m,D,B,TT,G,rfl,W,wr,k⟩:=h
  refine ⟨_,(zan (zfk PassesOwn.never (PW.pt (ziy (zeo K rfl (zda (pv 0) rfl)) (zhu (zcb op_lt (zff (dvs:=[]) M_Wheel_choice_time (by simp) T.cl_Wheel (hr.mono (by decide)) passN (pv 0)) (pv 1) (zcp _))))) (zan (zbj (zff (dvs:=[]) M_Wheel_make_choice (by simp) T.cl_Wheel (hr.mono (by decide)) passN (pv 0)))))),?_⟩
  show ziz _ _ _ [some (.ref p),some (.int a)] H
  refine zql (fun n σ H'=>∃ G' y qs' gs',σ = [some (.ref p),some (.int a)]/\y.2.1.length=n/\Wl c_Wheel c_Tide H' p td pe ql gl st y qs' gs' m/\WRun st TT G' y D B/\KeptW p td pe ql gl H H'/\KeptT td H H'/\Sw.runF st (some a) y.2.1.length y=Sw.runF st (some a) x.2.1.length x) ⟨G,x,qs,gs,rfl,rfl,W,wr,Same.keptW (Same.refl _),fun o e=>e,rfl⟩ ?_
  rintro n σ H1 ⟨G',y,qs',gs',rfl,rfl,W1,wr1,k1,j1,er⟩ Z z1 z2
  obtain ⟨dx,fs,h1,fw⟩:=W1.ob
  have lq:=W1.lenQ
  walk_at "rd"
  refine zbt h1 T.cl_Wheel T.na_Wheel_queue fw.qu ?_
  have nc:fs.lookup ("choice_time" : Str)=none:=fw.no _ (by decide +kernel) (by decide +kernel) (by decide +kernel) (by decide +kernel)
  have nm:fs.lookup ("make_choice" : Str)=none:=fw.no _ (by decide +kernel) (by decide +kernel) (by decide +kernel) (by decide +kernel)
  refine ⟨_,truL (.of W1.hq),?_⟩
  by_cases ne:y.2.1 = []
  ·have e0:qs' = []:=List.eq_nil_of_length_eq_zero (by rw [lq,ne]; rfl)
   subst e0
   rw [if_neg (by simp)]
   refine z2 _ ?_
   have ng:¬ Sw.goOn (some a) y:=fun z=>z.1 ne
   refine k [] gs' H1 k1 j1 ?_
   rw [<- er,Sw.runF_stop ng]
   exact W1
  ·have e1:qs'≠[]:=fun z=>ne (List.eq_nil_of_length_eq_zero (by rw [<- lq,z]; rfl))
   rw [if_pos (by simpa using e1)]
   refine zdh h1 nc ?_
   refine ⟨p,td,pe,ql,gl,st,y,qs',gs',m,rfl,W1,ne,_,rfl,?_⟩
   by_cases c:Sw.ctime y.1 y.2.1<a
   ·rw [decide_eq_true c]
    refine z1 _ ?_
    have go:Sw.goOn (some a) y:=⟨ne,fun b e=>by cases e; exact c⟩
    obtain ⟨G2,wr2,ln⟩:=wr1.step ne
    walk_at "rd"
    refine zdh h1 nm ?_
    have l1:=wr1.l1
    refine ⟨p,td,pe,ql,gl,st,y,qs',gs',m,D,B,TT,G',rfl,W1,wr1.ok,wr1.wo,ne,by omega,by omega,wr1.t1,wr1.zi,fun qs2 gs2 H2 k2 j2 W2=>?_⟩
    refine ⟨_,?_,G2,_,rfl,⟨qs2,gs2,W2⟩,wr2,k1.trans k2,j1.trans j2,?_⟩
    ·omega
    ·rw [<- er,<- ln,Sw.runF_go go]
   ·rw [decide_eq_false c]
    refine z2 _ ?_
    have ng:¬ Sw.goOn (some a) y:=fun z=>c (z.2 a rfl)
    refine k qs' gs' H1 k1 j1 ?_
    rw [<- er,Sw.runF_stop ng]
    exact W1
def zsq (C CT:Addr):Sp:=fun vs H Q _=>∃ p td pe ql gl s x qs gs m D B T G,vs = [.ref p]/\Wl C CT H p td pe ql gl s x qs gs m/\WRun s T G x D B /\
 ∀ qs' gs' H',KeptW p td pe ql gl H H'->KeptT td H H'->Wl C CT H' p td pe ql gl s (Sw.runF s none x.2.1.length x) qs' gs' m->Q .non H'
theorem ziu (T:Txt K mg c_NoRatio c_Tide c_Wheel):MethD P w K mg base (CXX P w) 6 c_Wheel "run_out" ["self"] [[]] (zsq c_Wheel c_Tide):=by
 have M_Wheel_make_choice:=zef (P:=P) (w:=w) (base:=base) T
 refine T.me_Wheel_run_out.okN (k:=5) zhk (fun vs H Q E h=>?_) (fun f cdv A outer s H vs Q E hr h=>?_)
 ·obtain ⟨p,td,pe,ql,gl,s,x,qs,gs,m,D,B,T,G,rfl,_⟩:=h
  rfl
 ·obtain ⟨p,td,pe,ql,gl,st,x,qs,gs,m,D,B,TT,G,rfl,W,wr,k⟩:=h
  refine ⟨_,(zan (zfk PassesOwn.never (zeo K rfl (zda (pv 0) rfl)) (zan (zbj (zff (dvs:=[]) M_Wheel_make_choice (by simp) T.cl_Wheel (hr.mono (by decide)) passN (pv 0)))))),?_⟩
  show ziz _ _ _ [some (.ref p)] H
  refine zql (fun n σ H'=>∃ G' y qs' gs',σ = [some (.ref p)]/\y.2.1.length=n/\Wl c_Wheel c_Tide H' p td pe ql gl st y qs' gs' m/\WRun st TT G' y D B/\KeptW p td pe ql gl H H'/\KeptT td H H'/\Sw.runF st none y.2.1.length y=Sw.runF st none x.2.1.length x) ⟨G,x,qs,gs,rfl,rfl,W,wr,Same.keptW (Same.refl _),fun o e=>e,rfl⟩ ?_
  rintro n σ H1 ⟨G',y,qs',gs',rfl,rfl,W1,wr1,k1,j1,er⟩ Z z1 z2
  obtain ⟨dx,fs,h1,fw⟩:=W1.ob
  have lq:=W1.lenQ
  walk_at "rd"
  refine zbt h1 T.cl_Wheel T.na_Wheel_queue fw.qu ?_
  have nm:fs.lookup ("make_choice" : Str)=none:=fw.no _ (by decide +kernel) (by decide +kernel) (by decide +kernel) (by decide +kernel)
  refine ⟨_,truL (.of W1.hq),?_⟩
  by_cases ne:y.2.1 = []
  ·have e0:qs' = []:=List.eq_nil_of_length_eq_zero (by rw [lq,ne]; rfl)
   subst e0
   refine z2 _ ?_
   have ng:¬ Sw.goOn none y:=fun z=>z.1 ne
   refine k [] gs' H1 k1 j1 ?_
   rw [<- er,Sw.runF_stop ng]
   exact W1
  ·have e1:qs'≠[]:=fun z=>ne (List.eq_nil_of_length_eq_zero (by rw [<- lq,z]; rfl))
   have e2:(!(qs'.map V.ref).isEmpty)=true:=by simpa using e1
   rw [e2]
   refine z1 _ ?_
   have go:Sw.goOn none y:=⟨ne,fun b e=>by cases e⟩
   obtain ⟨G2,wr2,ln⟩:=wr1.step ne
   walk_at "rd"
   refine zdh h1 nm ?_
   have l1:=wr1.l1
   refine ⟨p,td,pe,ql,gl,st,y,qs',gs',m,D,B,TT,G',rfl,W1,wr1.ok,wr1.wo,ne,by omega,by omega,wr1.t1,wr1.zi,fun qs2 gs2 H2 k2 j2 W2=>?_⟩
   refine ⟨_,?_,G2,_,rfl,⟨qs2,gs2,W2⟩,wr2,k1.trans k2,j1.trans j2,?_⟩
   ·omega
   ·rw [<- er,<- ln,Sw.runF_go go]
def zxs (C CT:Addr):Sp:=fun vs H Q _=>∃ p pl pc q td pe ql gl s x qs gs m D B,vs = [.ref p,.int ((pl:Nat):Int),.ref pc]/\H pc=some (.tup (q4 q))/\Wl C CT H p td pe ql gl s x qs gs m/\TideOk D B s.lat s.re s.us/\(∀ w e,s.en w=some e->Sw.Grd D e/\0<=e/\e<=(B:Rat)) /\
 s.lat<=q.1/\q.1<1000000000000000/\1<=q.2.2.1/\q.2.2.1<=1000000/\1<=q.2.2.2/\q.2.2.2<=1000000/\m<=99/\x.2.1.length<=100 /\
 ∀ qs' H',KeptW p td pe ql gl H H'->(∀ b xs,H b=some (.lst xs)->NoU CT H' td b)->Wl C CT H' p td pe ql gl (s.come q) (x.1,x.2.1++[(pl,q,s.beg q,s.fin q)],x.2.2) qs' gs (m+1)->Q .non H'
theorem ziv (T:Txt K mg c_NoRatio c_Tide c_Wheel):MethD P w K mg base (CXX P w) 6 c_Wheel "take_in" ["self", "place", "piece"] [[]] (zxs c_Wheel c_Tide):=by
 have M_Tide_come:=ziq (P:=P) (w:=w) (base:=base) T
 refine T.me_Wheel_take_in.okN (k:=5) zhj (fun vs H Q E h=>?_) (fun f cdv A outer s H vs Q E hr h=>?_)
 ·obtain ⟨p,pl,pc,q,td,pe,ql,gl,s,x,qs,gs,m,D,B,rfl,_⟩:=h
  rfl
 ·obtain ⟨p,pl,pc,q,td,pe,ql,gl,st,x,qs,gs,m,D,B,rfl,hpc,W,ok,eok,hl,t1,a1,a2,a3,a4,hm,lx,k⟩:=h
  refine ⟨_,(zan (zbj (pe_bm PySem.F.plainAttrs_list PySem.F.slot_list_append PySem.F.type_list_append zaz (zda (pv 0) rfl) (zaa (zcg (zaa (pv 1) (zaa (pv 2) (zaa (zeh (dvs:=[]) M_Tide_come (by simp) T.cl_Tide (hr.mono (by decide)) passN (zda (pv 0) rfl) (zaa (pv 2) zae)) zae)))) zae)))),?_⟩
  show tDrop _ _ [some (.ref p),some (.int ((pl:Nat):Int)),some (.ref pc)] H
  obtain ⟨dx,fs,h1,fw⟩:=W.ob
  have lq:=W.lenQ
  obtain ⟨dt,ft,kvs,pr,pu,t2,e2,tw⟩:=Td.ob W.tk
  walk_at "rd"
  refine zbt h1 T.cl_Wheel T.na_Wheel_queue fw.qu ?_
  refine ⟨zdk W.hq,?_⟩
  refine zbt h1 T.cl_Wheel T.na_Wheel_tide fw.td ?_
  refine zdh t2 (tw.no _ (by decide +kernel) (by decide +kernel) (by decide +kernel) (by decide +kernel)) ?_
  refine ⟨td,pc,q.1,q.2.1,q.2.2.1,q.2.2.2,pe,st.lat,st.re,st.us,st.en,m,D,B,rfl,hpc,W.tk,ok,eok,hl,t1,a1,a2,a3,a4,hm,fun pq pb pq2 H1 kp td1 g3 g4 g5 nu=>?_⟩
  have kt:∀ b xs,H b=some (.tup xs)->H1 b=some (.tup xs):=fun b xs e=>kp _ _ (ne_of e t2 (by intro z; cases z)) (ne_of e e2 (by intro z; cases z)) e
  have kl:∀ b xs,H b=some (.lst xs)->H1 b=some (.lst xs):=fun b xs e=>kp _ _ (ne_of e t2 (by intro z; cases z)) (ne_of e e2 (by intro z; cases z)) e
  have W1:Wl c_Wheel c_Tide H1 p td pe ql gl (st.come q) x qs gs (m+1):=⟨⟨dx,fs,kp _ _ (Ne.symm W.d2) (ne_of h1 e2 (by intro z; cases z)) h1,fw⟩,td1,nu _ _ W.hq,nu _ _ W.hg,kl _ _ W.hq,Paired.mapP W.rq fun _ _ z=>z.keep kt,kl _ _ W.hg,zcm W.rg kt,W.d1,W.d2⟩
  have k1:KeptW p td pe ql gl H H1:=fun b o _ n2 n3 _ _ e=>kp b o n2 n3 e
  have hpc:=kt _ _ hpc
  have tW1:=W1.td
  intro tp ftp
  have s2:=zaf (o:=.tup [.int ((pl:Nat):Int),.ref pc,.ref pq]) ftp
  have W2:=W1.same s2
  have wit:WIt (upd H1 tp (.tup [.int ((pl:Nat):Int),.ref pc,.ref pq])) tp (pl,q,st.beg q,st.fin q):=⟨pc,pq,pb,pq2,zab,s2 _ _ hpc,s2 _ _ g3,s2 _ _ g4,s2 _ _ g5⟩
  have k2:=k1.trans (Same.keptW s2)
  have nu2:∀ b xs,H b=some (.lst xs)->NoU c_Tide (upd H1 tp (.tup [.int ((pl:Nat):Int),.ref pc,.ref pq])) td b:=fun b xs e=>(nu b xs e).same tW1 s2
  generalize upd H1 tp (.tup [.int ((pl:Nat):Int),.ref pc,.ref pq])=H2 at W2 wit k2 nu2 ⊢
  refine zgc W2.hq (by rw [List.length_map]; omega) ?_
  have W3:=W2.setQ (paired_snoc wit W2.rq)
  have em:(qs++[tp]).map V.ref=qs.map V.ref++[.ref tp]:=by rw [List.map_append]; rfl
  rw [em] at W3
  obtain ⟨dt3,ft3,o3⟩:=W2.td
  exact k _ _ (k2.trans (zgq (.inr (.inl rfl)))) (fun b xs e=>(nu2 b xs e).on o3 (by rw [zai (ne_of o3 W2.hq (by intro z; cases z))]; exact o3)) W3
theorem NoU.fresh {C:Addr} {H:Hp} {p pe l:Addr} {lat:Int} {re:Rat} {us:List Sw.T3} {en:Int->Option Rat} {m:Nat} (h:Td C H p pe lat re us en m) (f:H l=none):NoU C H p l:=fun dx fs pu h1 h2=>by
 obtain ⟨dx',fs',pr,pu',ps,kvs,g1,g2,g3,g4,_⟩:=h.ex
 rw [g1] at h1
 cases h1
 rw [g2.unf] at h2
 cases h2
 exact zah g4 f
def spWI (C CT:Addr):Sp:=fun vs H Q _=>∃ x dx,vs = [.ref x]/\H x=some (.ins C dx [])/\∀ td pe ql gl H',But x H H'->H td=none->H pe=none->H ql=none->H gl=none->Wl C CT H' x td pe ql gl Sw.Ti.nil (0,[],[]) [] [] 0->Q .non H'
theorem zvl (T:Txt K mg c_NoRatio c_Tide c_Wheel):MkD P w K mg base (CXX P w) 5 c_Wheel ["self"] [[]] (spWI c_Wheel c_Tide):=by
 have K_Tide:=ztm (P:=P) (w:=w) (base:=base) T
 refine T.in_Wheel.okN (k:=4) zkm (fun vs H Q E h=>?_) (fun f cdv A outer s H vs Q E hr h=>?_)
 ·obtain ⟨x,dx,rfl,_⟩:=h
  rfl
 ·obtain ⟨x,dx,rfl,hx,k⟩:=h
  refine ⟨_,(zac (zfa (pv 0) (zic (dvs:=[]) K_Tide (by simp) (hr.mono (by decide)) passN rfl T.mg_Tide) rfl) (zac (zfa (pv 0) zaj rfl) (zac (zfa (pv 0) (zbw zae) rfl) (zan (zfa (pv 0) (zbw zae) rfl))))),?_⟩
  show tSeq _ _ _ [some (.ref x)] H
  refine zad fun R hR=>?_
  walk_at "rd"
  intro td dt n1 n2 n3
  have s0:=zge (C:=c_Tide) n1 n2
  refine ⟨td,dt,rfl,zab,fun pe H1 b1 fpe T1=>⟨rfl,?_⟩⟩
  have nx:x≠td:=zah hx n1
  have hx1:=b1 x _ nx (s0 _ _ hx)
  have npe:H pe=none:=s0.free fpe
  have q1:Same H H1:=fun b o e=>b1 b o (zah e n1) (s0 _ _ e)
  clear s0 b1 fpe
  have l1:=zbk (fs:=[]) (f := "tide") (v:=.ref td)
  simp only [List.length_nil] at l1
  refine zfb hx1 T.cl_Wheel T.na_Wheel_tide (by simp) (hR _ _ ?_)
  clear hR
  have l2:=zbk (fs:=putF "tide" (.ref td) []) (f := "free") (v:=.int 0)
  refine zad fun R hR=>?_
  walk_at "rd"
  refine zfb zab T.cl_Wheel T.na_Wheel_free (by omega) (hR _ _ ?_)
  clear hR
  rw [zjw]
  have T2:=Td.but T1 (zkf (o:=.ins c_Wheel dx (putF "free" (.int 0) (putF "tide" (.ref td) [])))) hx1 (Ne.symm nx)
  have b2:But x H (upd H1 x (.ins c_Wheel dx (putF "free" (.int 0) (putF "tide" (.ref td) [])))):=fun b o n e=>by rw [zai n]; exact q1 _ _ e
  have hx2:upd H1 x (.ins c_Wheel dx (putF "free" (.int 0) (putF "tide" (.ref td) []))) x=some (.ins c_Wheel dx (putF "free" (.int 0) (putF "tide" (.ref td) []))):=zab
  generalize upd H1 x (.ins c_Wheel dx (putF "free" (.int 0) (putF "tide" (.ref td) [])))=H2 at T2 b2 hx2 ⊢
  clear T1 hx1 q1
  refine zad fun R hR=>?_
  walk_at "rd"
  intro ql fql
  have l3:=zbk (fs:=putF "free" (.int 0) (putF "tide" (.ref td) [])) (f := "queue") (v:=.ref ql)
  have s3:=zaf (o:=.lst []) fql
  have nql:H ql=none:=by
   cases e:H ql with
   | none=>rfl
   | some o =>
    have:ql≠x:=fun z=>by rw [z,hx2] at fql; cases fql
    rw [b2 ql o this e] at fql
    cases fql
  refine zfb (s3 _ _ hx2) T.cl_Wheel T.na_Wheel_queue (by omega) (hR _ _ ?_)
  clear hR
  have U3:=NoU.fresh T2 fql
  obtain ⟨d2,f2,_,_,_,t2,_⟩:=Td.ob T2
  have T3:=Td.but (T2.same s3) (zkf (o:=.ins c_Wheel dx (putF "queue" (.ref ql) (putF "free" (.int 0) (putF "tide" (.ref td) []))))) (s3 _ _ hx2) (Ne.symm nx)
  have t3:upd (upd H2 ql (.lst [])) x (.ins c_Wheel dx (putF "queue" (.ref ql) (putF "free" (.int 0) (putF "tide" (.ref td) [])))) td=some (.ins c_Tide d2 f2):=by rw [zai (Ne.symm nx)]; exact s3 _ _ t2
  have U3:=U3.on t2 t3
  have b3:But x H (upd (upd H2 ql (.lst [])) x (.ins c_Wheel dx (putF "queue" (.ref ql) (putF "free" (.int 0) (putF "tide" (.ref td) []))))):=fun b o n e=>by rw [zai n]; exact s3 _ _ (b2 b o n e)
  have hx3:upd (upd H2 ql (.lst [])) x (.ins c_Wheel dx (putF "queue" (.ref ql) (putF "free" (.int 0) (putF "tide" (.ref td) [])))) x=some (.ins c_Wheel dx (putF "queue" (.ref ql) (putF "free" (.int 0) (putF "tide" (.ref td) [])))):=zab
  have nxq:ql≠x:=fun z=>by rw [z,hx2] at fql; cases fql
  have hq3:upd (upd H2 ql (.lst [])) x (.ins c_Wheel dx (putF "queue" (.ref ql) (putF "free" (.int 0) (putF "tide" (.ref td) [])))) ql=some (.lst []):=by rw [zai nxq,zab]
  generalize upd (upd H2 ql (.lst [])) x (.ins c_Wheel dx (putF "queue" (.ref ql) (putF "free" (.int 0) (putF "tide" (.ref td) []))))=H3 at T3 U3 b3 hx3 hq3 t3 ⊢
  clear T2 t2 s3 fql b2 hx2
  walk_at "rd"
  intro gl fgl
  have s4:=zaf (o:=.lst []) fgl
  have ngl:H gl=none:=by
   cases e:H gl with
   | none=>rfl
   | some o =>
    have:gl≠x:=fun z=>by rw [z,hx3] at fgl; cases fgl
    rw [b3 gl o this e] at fgl
    cases fgl
  refine zfb (s4 _ _ hx3) T.cl_Wheel T.na_Wheel_gone (by omega) ?_
  have U4:=NoU.fresh T3 fgl
  have T4:=Td.but (T3.same s4) (zkf (o:=.ins c_Wheel dx (putF "gone" (.ref gl) (putF "queue" (.ref ql) (putF "free" (.int 0) (putF "tide" (.ref td) [])))))) (s4 _ _ hx3) (Ne.symm nx)
  have t4:upd (upd H3 gl (.lst [])) x (.ins c_Wheel dx (putF "gone" (.ref gl) (putF "queue" (.ref ql) (putF "free" (.int 0) (putF "tide" (.ref td) []))))) td=some (.ins c_Tide d2 f2):=by rw [zai (Ne.symm nx)]; exact s4 _ _ t3
  have nxg:gl≠x:=fun z=>by rw [z,hx3] at fgl; cases fgl
  refine k td pe ql gl _ (fun b o n e=>by rw [zai n]; exact s4 _ _ (b3 b o n e)) n1 npe nql ngl ⟨⟨dx,_,zab,FW.mk0 td ql gl⟩,T4,U3.on t3 t4,U4.on t3 t4,?_,.nil,?_,.nil,zah hq3 fgl,Ne.symm nx⟩
  ·rw [zai nxq]; exact s4 _ _ hq3
  ·rw [zai nxg,zab]; rfl
def pileL (l:List Sw.WI) (w:Int):List Int:=(l.filter fun i=>decide (i.2.1.2.1=w)).map fun i=>i.2.1.2.2.1
theorem znv (w:Int):∀ l:List Sw.WI,(pileL l w).sum=Sw.pileF l w
 | []=>rfl
 | i :: r=>by
  have ih:=znv w r
  unfold pileL Sw.pileF at ih ⊢
  by_cases c:i.2.1.2.1=w
  ·rw [List.filter_cons_of_pos (by simpa using c),List.map_cons,List.map_cons,List.sum_cons,List.sum_cons,ih,if_pos c]
  ·rw [List.filter_cons_of_neg (by simpa using c),List.map_cons,List.sum_cons,if_neg c,ih]
   simp
def zvm (C CT:Addr):Sp:=fun vs H Q _=>∃ p w td pe ql gl s x qs gs m,vs = [.ref p,.int w]/\Wl C CT H p td pe ql gl s x qs gs m/\x.2.1.length<=100/\∀ H',Same H H'->Q (.int (Sw.pileF x.2.1 w)) H'
theorem zhl (T:Txt K mg c_NoRatio c_Tide c_Wheel):MethD P w K mg base (CXX P w) 1 c_Wheel "piled_up" ["self", "who"] [[]] (zvm c_Wheel c_Tide):=by
 refine T.me_Wheel_piled_up.okN (k:=0) zhc (fun vs H Q E h=>?_) (fun f cdv A outer s H vs Q E hr h=>?_)
 ·obtain ⟨p,w',td,pe,ql,gl,s,x,qs,gs,m,rfl,_⟩:=h
  rfl
 ·obtain ⟨p,wh,td,pe,ql,gl,st,x,qs,gs,m,rfl,W,lx,k⟩:=h
  refine ⟨_,(zan (zay (zbn (zgb K rfl rfl) rfl T.no_sum boot_sum (zaa (pe_lc ["place", "piece", "tags"] [("who", 1)] rfl (by with_unfolding_all rfl) (by decide +kernel) rfl (by decide +kernel) (by exact ⟨rfl,True.intro⟩) (by with_unfolding_all rfl) ⟨⟨rfl,rfl,rfl⟩,True.intro⟩ (zav K rfl (zda (pv 0) rfl)) (fun _ _ _=>(zci (n:=3) K rfl rfl (zat (zap (i:=0) (show (["place", "piece", "tags", "who"]:List Str).Nodup from by decide +kernel) rfl (by first|left;rfl|right;rfl)) (zat (zap (i:=1) (show (["place", "piece", "tags", "who"]:List Str).Nodup from by decide +kernel) rfl (by first|left;rfl|right;rfl)) (zat (zap (i:=2) (show (["place", "piece", "tags", "who"]:List Str).Nodup from by decide +kernel) rfl (by first|left;rfl|right;rfl)) zcf))))) (fun _ _ _=>(zga (zcb op_eq (pe_ix (zam K rfl) (pv 1) zaj (fun _ _=>rfl)) (pv 3) (zcp _)))) (fun _ _ _=>(pe_ix (zam K rfl) (pv 1) zaj (fun _ _=>rfl)))) zae)))),?_⟩
  show tRet _ _ [some (.ref p),some (.int wh)] H
  obtain ⟨dx,fs,h1,fw⟩:=W.ob
  have lq:=W.lenQ
  walk_at "rd"
  refine zbt h1 T.cl_Wheel T.na_Wheel_queue fw.qu ?_
  refine ⟨ql,rfl,⟨_,.of W.hq⟩,fun D hD=>?_⟩
  refine zbb (xs:=qs.map V.ref) (fun i τ H'=>(∃ v1 v2 v3,τ = [v1,v2,v3,some (.int wh)])/\Same H H'/\H' D=some (.lst ((pileL (x.2.1.take i) wh).map V.int))) ⟨⟨none,none,none,rfl⟩,zaf hD,zab⟩ (fun i τ H' _ ⟨_,sm,_⟩=>.of (sm _ _ W.hq)) ?_ ?_
  ·rintro i y τ H' hy ⟨⟨v1,v2,v3,rfl⟩,sm,hDl⟩
   obtain ⟨a,ha,rfl⟩:∃ p,qs[i]? = some p/\V.ref p=y:=by simpa using hy
   obtain ⟨it,hit,pp,pt,pb,pe',g1,g2,g3,g4,g5⟩:=zbe W.rq ha
   have g1:=sm _ _ g1
   have g2:=sm _ _ g2
   walk_at "rd"
   refine ⟨_,.of g1,rfl,_,_,rfl,_,_,rfl,_,_,rfl,rfl,?_⟩
   refine zaq (.of g2) rfl ⟨rfl,?_⟩
   have ll:(pileL (x.2.1.take i) wh).length<1000:=by
    unfold pileL
    have:=List.length_filter_le (fun i:Sw.WI=>decide (i.2.1.2.1=wh)) (x.2.1.take i)
    rw [List.length_take] at this
    rw [List.length_map]
    omega
   refine ite2 (fun c=>?_) fun c=>?_
   ·have c:it.2.1.2.1=wh:=by injection c
    refine zaq (.of g2) rfl ⟨_,hDl,line_lt (by rw [List.length_map]; exact ll),fun b o e=>?_,?_⟩
    ·rw [zai (zah e hD)]; exact sm _ _ e
    ·rw [zab,take_succ_of hit]
     unfold pileL
     rw [List.filter_append,List.map_append,List.map_append,List.filter_cons_of_pos (by simpa using c)]
     rfl
   ·have c:¬ it.2.1.2.1=wh:=fun e=>c (by show V.int it.2.1.2.1=V.int wh; rw [e])
    refine ⟨sm,?_⟩
    rw [hDl,take_succ_of hit]
    unfold pileL
    rw [List.filter_append,List.map_append,List.filter_cons_of_neg (by simpa using c)]
    simp
  rintro τ H' ⟨_,sm,hDl⟩
  rw [List.length_map,lq,List.take_length] at hDl
  refine ⟨D,_,rfl,.of hDl,?_⟩
  rw [znv]
  exact k _ sm
def RmD (H:Hp) (rl:Addr) (rm:Int->Option Int):Prop:=∃ kvs,H rl=some (.dK kvs)/\∀ w:Int,valV kvs (Sum.inl w:Key)=(rm w).map V.int
theorem RmD.same {H H':Hp} {rl:Addr} {rm:Int->Option Int} (h:RmD H rl rm) (s:Same H H'):RmD H' rl rm:=by
 obtain ⟨kvs,h1,h2⟩:=h
 exact ⟨kvs,s _ _ h1,h2⟩
def spOvf (C CT:Addr):Sp:=fun vs H Q _=>∃ p pc q rl rm td pe ql gl s x qs gs m,vs = [.ref p,.ref pc,.ref rl]/\H pc=some (.tup (q4 q))/\RmD H rl rm/\Wl C CT H p td pe ql gl s x qs gs m/\x.2.1.length<=100/\∀ H',Same H H'->Q (.bl (Sw.overF rm x.2.1 q)) H'
theorem zmu (T:Txt K mg c_NoRatio c_Tide c_Wheel):Def P w K mg base (CXX P w) 2 "overflows" ["wheel", "piece", "rooms"] (spOvf c_Wheel c_Tide):=by
 have M_Wheel_piled_up:=zhl (P:=P) (w:=w) (base:=base) T
 refine T.src_overflows.okN (k:=1) sc_overflows (fun vs H Q E h=>?_) (fun f cdv A outer s H vs Q E hr h=>?_)
 ·obtain ⟨p,pc,q,rl,rm,td,pe,ql,gl,s,x,qs,gs,m,rfl,_⟩:=h
  rfl
 ·obtain ⟨p,pc,q,rl,rm,td,pe,ql,gl,st,x,qs,gs,m,rfl,hpc,⟨kvs,hd,hv⟩,W,lx,k⟩:=h
  refine ⟨_,(zac (zal (i:=3) sc_overflows.nd rfl (zrt (hu_of hr) (pv 2) (pe_ix (zam K rfl) (pv 1) zaj (fun _ _=>rfl)) ⟨rfl,rfl,rfl,rfl⟩)) (zan (zay (zwc (zjx zpc (pv 3) zix (zcp _)) (zwb (zjx op_gt (pe_op zdu (zeh (dvs:=[]) M_Wheel_piled_up (by simp) T.cl_Wheel (hr.mono (by decide)) passN (pv 0) (zaa (pe_ix (zam K rfl) (pv 1) zaj (fun _ _=>rfl)) zae)) (pe_ix (zam K rfl) (pv 1) zaj (fun _ _=>rfl))) (pv 3) (zcp _))))))),?_⟩
  show tSeq _ _ _ [some (.ref p),some (.ref pc),some (.ref rl),none] H
  obtain ⟨dx,fs,h1,fw⟩:=W.ob
  refine zad fun R hR=>?_
  walk_at "rd"
  refine ⟨.inl ⟨kvs,.inl hd⟩,zaq (.of hpc) rfl ⟨_,DGet.k (k:=Sum.inl q.2.1) hd,hR _ _ ?_⟩⟩
  rw [hv]
  unfold Sw.overF at k
  cases hm:rm q.2.1 with
  | none =>
   rw [hm] at k
   walk_at "rd"
   exact k _ (fun _ _ e=>e)
  | some r =>
   rw [hm] at k
   walk_at "rd"
   rw [if_neg (by intro z; cases z)]
   refine zdh h1 (fw.no _ (by decide +kernel) (by decide +kernel) (by decide +kernel) (by decide +kernel)) ?_
   refine zaq (.of hpc) rfl ?_
   refine ⟨p,q.2.1,td,pe,ql,gl,st,x,qs,gs,m,rfl,W,lx,fun H1 s1=>?_⟩
   exact zaq (.of (s1 _ _ hpc)) rfl ⟨_,rfl,_,rfl,r,rfl,k _ s1⟩
theorem Wl.list {C CT p td pe ql gl da:Addr} {s:Sw.Ti} {x:Sw.WS} {qs gs:List Addr} {m:Nat} {H:Hp} {zs ys:List V} (h:Wl C CT H p td pe ql gl s x qs gs m) (nu:NoU CT H td da) (hd:H da=some (.lst zs)) (n1:da≠ql) (n2:da≠gl):Wl C CT (upd H da (.lst ys)) p td pe ql gl s x qs gs m:=by
 obtain ⟨dx,fs,h1,h2⟩:=h.ob
 obtain ⟨dt,ft,_,_,_,t1,_⟩:=Td.ob h.tk
 have kt:∀ b xs,H b=some (.tup xs)->upd H da (.lst ys) b=some (.tup xs):=fun b xs e=>zel hd e
 have ot:upd H da (.lst ys) td=some (.ins CT dt ft):=by rw [zai (ne_of t1 hd (by intro z; cases z))]; exact t1
 exact ⟨⟨dx,fs,by rw [zai (ne_of h1 hd (by intro z; cases z))]; exact h1,h2⟩,Td.list h.tk nu hd,h.nq.on t1 ot,h.ng.on t1 ot,by rw [zai n1.symm]; exact h.hq,Paired.mapP h.rq fun _ _ z=>z.keep kt,by rw [zai n2.symm]; exact h.hg,zcm h.rg kt,h.d1,h.d2⟩
theorem DR.wr {n:Nat} {M:Int} {c:Nat} {s:Sw.Ti} {t k:Nat} {T G:List Sw.WI} {D:Int} {x:Sw.WS} (h:Sw.DR n M c s t k T G D x) (hk:t<=60):WRun s T G x D (t*1000000):=by
 have fb:=h.fb
 have ln:=h.ln
 exact ⟨h.ro.ok,h.wo,by omega,h.zi,fun i hi=>by have:=h.tb i hi; omega,by omega⟩
def RmV (H:Hp) (v:V) (rm:Int->Option Int):Prop:=(v = .non/\rm=fun _=>none)\/∃ rl,v = .ref rl/\RmD H rl rm
def zsr:Sp:=fun vs H Q _=>∃ l rv ps qs rm n M a c,vs = [.ref l,rv]/\Row H l ps qs/\RmV H rv rm/\Sw.Good n M a c qs/\∀ r ga da gs H',Same H H'->H' r=some (.tup [.ref ga,.ref da])->H' ga=some (.lst (gs.map V.ref))->TupsF goE H' gs (Sw.dealtR rm qs).2.2->H' da=some (.lst ((Sw.droppedR rm qs).map natI))->H ga=none->H da=none->ga≠da->Q (.ref r) H'
theorem zrc (T:Txt K mg c_NoRatio c_Tide c_Wheel):DefD P w K mg base (CXX P w) 7 "dealt" ["row", "rooms"] [[],[.non]] zsr:=by
 have K_Wheel:=zvl (P:=P) (w:=w) (base:=base) T
 have M_Wheel_run_up_to:=zhd (P:=P) (w:=w) (base:=base) T
 have M_Wheel_run_out:=ziu (P:=P) (w:=w) (base:=base) T
 have M_Wheel_take_in:=ziv (P:=P) (w:=w) (base:=base) T
 have D_overflows:=zmu (P:=P) (w:=w) (base:=base) T
 refine T.src_dealt.okN (k:=6) sc_dealt (fun vs H Q E h=>?_) (fun f cdv A outer s H vs Q E hr h=>?_)
 ·obtain ⟨l,rv,ps,qs,rm,n,M,a,c,rfl,_⟩:=h
  rfl
 ·obtain ⟨l,rv,ps,qs,rm,n,M,a,c,rfl,R0,RM,g,k⟩:=h
  refine ⟨_,(zac (zal (i:=2) sc_dealt.nd rfl (zic (dvs:=[]) K_Wheel (by simp) (hr.mono (by decide)) passN rfl T.mg_Wheel)) (zac (zal (i:=3) sc_dealt.nd rfl (zbw zae)) (zac (zdq PassesOwn.never rfl (zke K rfl rfl T.no_enumerate (zaa (pv 0) zae)) (zci (n:=2) K rfl rfl (zat (zap (i:=4) sc_dealt.nd rfl (by first|left;rfl|right;rfl)) (zat (zap (i:=5) sc_dealt.nd rfl (by first|left;rfl|right;rfl)) zcf))) (zac (zbj (zeh (dvs:=[]) M_Wheel_run_up_to (by simp) T.cl_Wheel (hr.mono (by decide)) passN (pv 2) (zaa (pe_ix (zam K rfl) (pv 5) zaj (fun _ _=>rfl)) zae))) (zan (ps_if (PW.pt (ziy (zcb zpc (pv 1) zix (zcp _)) (zhu (zeb (zao D_overflows (hr.mono (by decide)) rfl passN (zaa (pv 2) (zaa (pv 5) (zaa (pv 1) zae)))))))) (zan (zbj (pe_bm PySem.F.plainAttrs_list PySem.F.slot_list_append PySem.F.type_list_append zaz (pv 3) (zaa (pv 4) zae)))) (zan (zbj (zeh (dvs:=[]) M_Wheel_take_in (by simp) T.cl_Wheel (hr.mono (by decide)) passN (pv 2) (zaa (pv 4) (zaa (pv 5) zae))))))))) (zac (zbj (zff (dvs:=[]) M_Wheel_run_out (by simp) T.cl_Wheel (hr.mono (by decide)) passN (pv 2))) (zan (zay (zcg (zaa (zda (pv 2) rfl) (zaa (pv 3) zae))))))))),?_⟩
  show tSeq _ _ _ [some (.ref l),some rv,none,none,none,none] H
  have n60:qs.length<=60:=by have:=g.ln; have:=g.F.n1; omega
  have lr:=R0.r.len
  refine zad fun R hR=>?_
  walk_at "rd"
  intro p dx f1 f2 f3
  have s0:=zge (C:=c_Wheel) f1 f2
  refine ⟨p,dx,rfl,zab,fun td pe ql gl H1 b1 ntd npe nql ngl W=>⟨rfl,hR _ _ ?_⟩⟩
  clear hR
  have q1:Same H H1:=fun b o e=>b1 b o (zah e f1) (s0 _ _ e)
  have ntd:=s0.free ntd
  have npe:=s0.free npe
  have nql:=s0.free nql
  have ngl:=s0.free ngl
  clear b1 s0 f2 f3
  refine zad fun R hR=>?_
  walk_at "rd"
  intro da fda
  refine hR _ _ ?_
  clear hR
  have s1:=zaf (o:=.lst []) fda
  obtain ⟨dx1,fs1,o1,_⟩:=W.ob
  obtain ⟨dt1,ft1,kv1,_,_,o2,o3,_⟩:=Td.ob W.tk
  have nda1:da≠p:=(zah o1 fda).symm
  have nda2:da≠td:=(zah o2 fda).symm
  have nda3:da≠pe:=(zah o3 fda).symm
  have nda4:da≠ql:=(zah W.hq fda).symm
  have nda5:da≠gl:=(zah W.hg fda).symm
  have nda:H da=none:=q1.free fda
  have nu0:=(NoU.fresh W.tk fda).same W.td s1
  have W:=W.same s1
  have hda:upd H1 da (.lst []) da=some (.lst []):=zab
  have q2:=q1.trans s1
  generalize upd H1 da (.lst [])=H2 at W hda q2 nu0 ⊢
  clear q1 s1 fda o1 o2 o3
  have kH:∀ {Ha Hb:Hp},Same H Ha->KeptW p td pe ql gl Ha Hb->Same H Hb:=fun sa kb b o e=>kb b o (zah e f1) (zah e ntd) (zah e npe) (zah e nql) (zah e ngl) (sa _ _ e)
  refine zad fun R hR=>?_
  refine zbo fun Z hZ=>?_
  walk_at "rd"
  refine ⟨⟨_,.of (q2 _ _ R0.hl)⟩,hZ _ _ ?_⟩
  refine zkd (xs:=ps.map V.ref) (fun k σ H'=>∃ v4 v5 qs' gs' t,σ = [some (.ref l),some rv,some (.ref p),some (.ref da),v4,v5]/\Same H H'/\H' da=some (.lst ((Sw.dealR rm qs k).2.2.map natI))/\t+(Sw.dealR rm qs k).2.2.length=k/\Wl c_Wheel c_Tide H' p td pe ql gl (Sw.dealR rm qs k).1 (Sw.dealR rm qs k).2.1 qs' gs' t/\NoU c_Tide H' td da) ⟨none,none,[],[],0,rfl,q2,hda,rfl,W,nu0⟩ (fun i σ H' _ ⟨_,_,_,_,_,_,sm,_⟩=>.of (sm _ _ R0.hl)) ?_ ?_
  ·clear W hda q2 nu0
   rintro i y σ H3 pt hy ⟨v4,v5,qs',gs',t,rfl,sm,hda,te,W,nu⟩ hpt
   obtain ⟨pc,hpc,rfl⟩:∃ p,ps[i]? = some p/\V.ref p=y:=by simpa using hy
   obtain ⟨q,hq,hq2⟩:=R0.r.get hpc
   have hi:i<qs.length:=(List.getElem?_eq_some_iff.mp hq).1
   obtain ⟨t',TT,G,D,tk,di,hl,te'⟩:=Sw.dealR_ok (rm:=rm) g (k:=i) (by omega)
   have:t'=t:=by omega
   subst this
   have sn:=zaf (o:=.tup [.int i,.ref pc]) hpt
   have sm:=sm.trans sn
   have hda:=sn _ _ hda
   have nu:=nu.same W.td sn
   have W:=W.same sn
   refine ⟨pt,_,rfl,.of zab,rfl,_,_,rfl,_,_,rfl,rfl,?_⟩
   generalize upd H3 pt (.tup [.int i,.ref pc])=H4 at sm hda W nu ⊢
   clear sn hpt
   show tSeq _ _ _ [some (.ref l),some rv,some (.ref p),some (.ref da),some (.int (i:Int)),some (.ref pc)] H4
   refine zby fun N hN=>?_
   obtain ⟨dx1,fs1,o1,fw⟩:=W.ob
   refine zad fun R hR=>?_
   walk_at "rd"
   refine zdh o1 (fw.no _ (by decide +kernel) (by decide +kernel) (by decide +kernel) (by decide +kernel)) ?_
   refine zaq (.of (sm _ _ hq2)) rfl ?_
   refine ⟨p,q.1,td,pe,ql,gl,_,_,qs',gs',t',D,_,TT,G,rfl,W,DR.wr di (by omega),fun qs2 gs2 H5 k5 j5 W5=>hR _ _ ?_⟩
   clear hR
   obtain ⟨G2,d2,en2⟩:=di.run (some q.1) _ (Nat.le_refl _)
   have sm:=kH sm k5
   have hda:=k5 _ _ nda1 nda2 nda3 nda4 nda5 hda
   obtain ⟨dx5,fs5,o5,fw5⟩:=W5.ob
   have pc0:=g.pc q (List.mem_of_getElem? hq)
   obtain ⟨p0,p1,n1,n2,s1,s2⟩:=pc0
   have M2:=g.F.M2
   have hl:=hl i q (Nat.le_refl _) hq
   have ln2:=d2.ln
   have dgo:=Sw.dealR_go (rm:=rm) hq
   unfold Sw.dealR1 at dgo
   dsimp only at dgo
   walk_at "rd"
   rcases RM with ⟨rfl,rfl⟩ | ⟨rl,rfl,RM⟩
   ·rw [if_pos rfl]
    rw [if_neg (show ¬ (Sw.overF (fun _=>none) _ q=true) from fun z=>by cases z)] at dgo
    refine zdh o5 (fw5.no _ (by decide +kernel) (by decide +kernel) (by decide +kernel) (by decide +kernel)) ?_
    have nu5:=j5.noU nu W.td
    refine ⟨p,i,pc,q,td,pe,ql,gl,_,_,qs2,gs2,t',D,_,rfl,sm _ _ hq2,W5,d2.ro.ok,d2.ro.eok,hl,by omega,n1,n2,s1,by omega,by omega,by omega,fun qs3 H7 k7 u7 W7=>?_⟩
    refine hN _ _ ⟨_,_,qs3,gs2,t' + 1,rfl,kH sm k7,?_,?_,?_,u7 _ _ hda⟩
    ·rw [dgo]; exact k7 _ _ nda1 nda2 nda3 nda4 nda5 hda
    ·rw [dgo]
     show t' + 1+(Sw.dealR (fun _=>none) qs i).2.2.length=i+1
     omega
    ·rw [dgo]
     exact W7
   rw [if_neg (by intro z; cases z)]
   refine ⟨p,pc,q,rl,rm,td,pe,ql,gl,_,_,qs2,gs2,t',rfl,sm _ _ hq2,RM.same sm,W5,by omega,fun H6 s6=>⟨_,rfl,?_⟩⟩
   have nu6:=(j5.noU nu W.td).same W5.td s6
   have W6:=W5.same s6
   have sm:=sm.trans s6
   have hda:=s6 _ _ hda
   clear s6 W5 o5 fw5 j5 nu W
   by_cases o:Sw.overF rm (Sw.runF (Sw.dealR rm qs i).1 (some q.1) (Sw.dealR rm qs i).2.1.2.1.length (Sw.dealR rm qs i).2.1).2.1 q=true
   ·rw [if_pos o] at dgo ⊢
    obtain ⟨dt6,ft6,o6⟩:=W6.td
    refine ⟨zdk hda,zgc hda (by rw [List.length_map]; omega) (hN _ _ ⟨_,_,qs2,gs2,t',rfl,fun b o' e=>?_,?_,?_,?_,?_⟩)⟩
    ·rw [zai (zah e nda)]; exact sm _ _ e
    ·rw [dgo,zab,List.map_append]; rfl
    ·rw [dgo]
     show t' + ((Sw.dealR rm qs i).2.2++[i]).length=i+1
     rw [List.length_append]
     simp only [List.length_cons,List.length_nil]
     omega
    ·rw [dgo]
     exact W6.list nu6 hda nda4 nda5
    ·exact nu6.on o6 (by rw [zai (ne_of o6 hda (by intro z; cases z))]; exact o6)
   ·rw [if_neg o] at dgo ⊢
    obtain ⟨dx6,fs6,o6,fw6⟩:=W6.ob
    refine zdh o6 (fw6.no _ (by decide +kernel) (by decide +kernel) (by decide +kernel) (by decide +kernel)) ?_
    refine ⟨p,i,pc,q,td,pe,ql,gl,_,_,qs2,gs2,t',D,_,rfl,sm _ _ hq2,W6,d2.ro.ok,d2.ro.eok,hl,by omega,n1,n2,s1,by omega,by omega,by omega,fun qs3 H7 k7 u7 W7=>?_⟩
    refine hN _ _ ⟨_,_,qs3,gs2,t' + 1,rfl,kH sm k7,?_,?_,?_,u7 _ _ hda⟩
    ·rw [dgo]; exact k7 _ _ nda1 nda2 nda3 nda4 nda5 hda
    ·rw [dgo]
     show t' + 1+(Sw.dealR rm qs i).2.2.length=i+1
     omega
    ·rw [dgo]
     exact W7
  ·rintro σ H3 ⟨v4,v5,qs',gs',t,rfl,sm,hda,te,W,nu⟩
   rw [List.length_map,lr] at W hda te
   refine hR _ _ ?_
   clear hR
   obtain ⟨t',TT,G,D,tk,di,hl,te'⟩:=Sw.dealR_ok (rm:=rm) g (k:=qs.length) (Nat.le_refl _)
   have:t'=t:=by omega
   subst this
   obtain ⟨dx1,fs1,o1,fw⟩:=W.ob
   refine zad fun R hR=>?_
   walk_at "rd"
   refine zdh o1 (fw.no _ (by decide +kernel) (by decide +kernel) (by decide +kernel) (by decide +kernel)) ?_
   refine ⟨p,td,pe,ql,gl,_,_,qs',gs',t',D,_,TT,G,rfl,W,DR.wr di (by omega),fun qs2 gs2 H4 k4 _ W4=>hR _ _ ?_⟩
   clear hR
   have sm:=kH sm k4
   have hda:=k4 _ _ nda1 nda2 nda3 nda4 nda5 hda
   obtain ⟨dx4,fs4,o4,fw4⟩:=W4.ob
   walk_at "rd"
   refine zbt o4 T.cl_Wheel T.na_Wheel_gone fw4.go ?_
   intro r fr1
   have s5:=zaf (o:=.tup [.ref gl,.ref da]) fr1
   exact k r gl da gs2 _ (sm.trans s5) zab (s5 _ _ W4.hg) (zcl W4.rg s5) (s5 _ _ hda) ngl nda nda5.symm
def zss:Sp:=fun vs H Q _=>∃ n M a c l ps qs,vs = [.ref l]/\Row H l ps qs/\Sw.Fit n M a c/\qs.length<=n/\(∀ q∈qs,Sw.PcOk M q)/\qs.Pairwise (fun a b=>a.1<=b.1)/\∀ tl tp H',Same H H'->TgL H' tl tp (Sw.Ti.nil.tags qs)->Q (.ref tl) H'
theorem zxt {qs:List Q4}:∀ {s:Sw.Ti} {i:Nat} {q:Q4},(∀ q∈qs,s.lat<=q.1)->qs.Pairwise (fun a b=>a.1<=b.1)->qs[i]? = some q->(s.after (qs.take i)).lat<=q.1:=by
 induction qs with
 | nil=>intro s i q _ _ e; simp at e
 | cons x r ih =>
  intro s i q h0 hp e
  obtain ⟨h1,h2⟩:=List.pairwise_cons.mp hp
  cases i with
  | zero =>
   have:x=q:=by simpa using e
   subst this
   exact h0 x (by simp)
  | succ j =>
   have e:r[j]? = some q:=by simpa using e
   exact ih (s:=s.come x) (fun y hy=>h1 y hy) h2 e
theorem zrd (T:Txt K mg c_NoRatio c_Tide c_Wheel):Def P w K mg base (CXX P w) 6 "tags_of" ["row"] zss:=by
 have K_Tide:=ztm (P:=P) (w:=w) (base:=base) T
 have M_Tide_come:=ziq (P:=P) (w:=w) (base:=base) T
 refine T.src_tags_of.okN (k:=5) sc_tags_of (fun vs H Q E h=>?_) (fun f cdv A outer s H vs Q E hr h=>?_)
 ·obtain ⟨n,M,a,c,l,ps,qs,rfl,_⟩:=h
  rfl
 ·obtain ⟨n,M,a,c,l,ps,qs,rfl,R0,F,hn,hq,hp,k⟩:=h
  refine ⟨_,(zac (zal (i:=1) sc_tags_of.nd rfl (zic (dvs:=[]) K_Tide (by simp) (hr.mono (by decide)) passN rfl T.mg_Tide)) (zan (zay (pe_lc ["piece"] [("tide", 1)] rfl (by with_unfolding_all rfl) (by decide +kernel) rfl (by decide +kernel) (by exact ⟨rfl,True.intro⟩) (by with_unfolding_all rfl) ⟨⟨rfl,rfl,rfl⟩,True.intro⟩ (zav K rfl (pv 0)) (fun _ _ _=>(zap (i:=0) (show (["piece", "tide"]:List Str).Nodup from by decide +kernel) rfl (by first|left;rfl|right;rfl))) (fun _ _ _=>zbs) (fun _ _ _=>(zeh (dvs:=[]) M_Tide_come (by simp) T.cl_Tide (hr.mono (by decide)) passN (pv 1) (zaa (pv 0) zae))))))),?_⟩
  show tSeq _ _ _ [some (.ref l),none] H
  have len:=R0.r.len
  have n6:=F.n1
  refine zad fun R hR=>?_
  walk_at "rd"
  intro x dx hx hdx ne
  refine ⟨x,dx,rfl,zab,fun pe H1 bt hpe td=>⟨rfl,hR _ _ ?_⟩⟩
  have sm0:Same H H1:=bt.same (zge hx hdx) hx
  have npe:H pe=none:=(zge hx hdx).free hpe
  clear bt hpe hdx
  walk_at "rd"
  refine ⟨⟨_,.of (R0.same sm0).hl⟩,fun Dl hDl=>?_⟩
  show CompG _ _ _ _ Dl [none,some (.ref x)] _ _
  have nDl:H Dl=none:=sm0.free hDl
  refine zbb (xs:=ps.map V.ref) (fun i τ H'=>∃ v tp D,τ = [v,some (.ref x)]/\Same H H'/\Td c_Tide H' x pe (Sw.Ti.nil.after (qs.take i)).lat (Sw.Ti.nil.after (qs.take i)).re (Sw.Ti.nil.after (qs.take i)).us (Sw.Ti.nil.after (qs.take i)).en i/\Sw.RunOk n M c (Sw.Ti.nil.after (qs.take i)) i D/\TgL H' Dl tp (Sw.Ti.nil.tags (qs.take i))/\tp.length=i) ⟨none,[],1,rfl,sm0.trans (zaf hDl),td.same (zaf hDl),Sw.RunOk.nil,⟨zab,.nil⟩,rfl⟩ (fun i τ H' _ ⟨_,_,_,_,sm,_⟩=>.of (sm _ _ R0.hl)) ?_ ?_
  ·rintro i y τ H2 hy ⟨v,tp,D,rfl,sm,td,ro,tg,lt⟩
   obtain ⟨pp,hpp,rfl⟩:∃ p,ps[i]? = some p/\V.ref p=y:=by
    rw [List.getElem?_map] at hy
    cases e:ps[i]? with
    | none=>rw [e] at hy; cases hy
    | some z=>rw [e] at hy; exact ⟨z,rfl,Option.some.inj hy⟩
   have hi:i<ps.length:=(List.getElem?_eq_some_iff.mp hpp).1
   obtain ⟨q,hqi,hqp⟩:=R0.r.get hpp
   have po:=hq q (List.mem_of_getElem? hqi)
   obtain ⟨p0,p1,n1,n2,s1,s2⟩:=id po
   have M2:=F.M2
   have hl:=zxt (s:=Sw.Ti.nil) (fun z hz=>(hq z hz).1) hp hqi
   obtain ⟨D',j,j0,eD,ro',_⟩:=ro.come F (by omega) po hl
   have et:qs.take (i+1)=qs.take i++[q]:=take_succ_of hqi
   rw [et,Sw.Ti.after_snoc,Sw.Ti.tags_snoc]
   generalize Sw.Ti.nil.after (qs.take i)=st at td ro ro' hl ⊢
   obtain ⟨dx2,fs2,kvs2,pr2,pu2,h1,h2,ft⟩:=Td.ob td
   walk_at "rd"
   refine zdh h1 (ft.no _ (by decide +kernel) (by decide +kernel) (by decide +kernel) (by decide +kernel)) ?_
   refine ⟨x,pp,q.1,q.2.1,q.2.2.1,q.2.2.2,pe,st.lat,st.re,st.us,st.en,i,D,i*1000000,rfl,sm _ _ hqp,td,ro.ok,ro.eok,hl,by omega,n1,n2,s1,by omega,by omega,fun w qb qe H3 kp td' hw hb he nu=>?_⟩
   have sm3:Same H H3:=fun b o e=>kp b o (zah e hx) (zah e npe) (sm _ _ e)
   have hD3:H3 Dl=some (.lst (tp.map V.ref)):=kp _ _ (ne_of tg.hl h1 (by intro z; cases z)) (ne_of tg.hl h2 (by intro z; cases z)) tg.hl
   have kt:∀ b xs,H2 b=some (.tup xs)->upd H3 Dl (.lst (tp.map V.ref++[.ref w])) b=some (.tup xs):=fun b xs e=>by
    rw [zai (ne_of e tg.hl (by intro z; cases z))]
    exact kp _ _ (ne_of e h1 (by intro z; cases z)) (ne_of e h2 (by intro z; cases z)) e
   have kt3:∀ b xs,H3 b=some (.tup xs)->upd H3 Dl (.lst (tp.map V.ref++[.ref w])) b=some (.tup xs):=fun b xs e=>by
    rw [zai (ne_of e hD3 (by intro z; cases z))]; exact e
   refine ⟨_,hD3,line_lt (by rw [List.length_map]; omega),fun b o e=>?_,Td.list td' (nu _ _ tg.hl) hD3,⟨D',ro'⟩,tp++[w],⟨?_,paired_snoc ⟨qb,qe,kt3 _ _ hw,kt3 _ _ hb,kt3 _ _ he⟩ (Paired.mapP tg.r fun _ _ z=>z.keep kt)⟩,by rw [List.length_append]; simp [lt]⟩
   ·rw [zai (zah e nDl)]; exact sm3 _ _ e
   ·rw [zab,List.map_append]; rfl
  ·rintro τ H2 ⟨v,tp,D,rfl,sm,td,ro,tg,lt⟩
   rw [List.take_of_length_le (by rw [List.length_map]; omega)] at tg
   exact k _ _ _ sm tg
def zre:Sp:=fun vs H Q _=>∃ l ps qs tl tp ts pm pk mo ma,vs = [.ref l,.ref tl,.ref pm,.ref pk]/\Row H l ps qs/\TgL H tl tp ts/\ts.length=qs.length/\qs.length<=60/\H pm=some (.tup (fq mo))/\H pk=some (.tup (fq ma))/\Sw.SzQ 5000 mo/\Sw.SzQ 5000 ma/\(∀ t∈ts,Sw.SzQ 5000 t.1/\Sw.SzQ 5000 t.2)/\(∀ q∈qs,0<=q.1/\q.1<100000000000000) /\
 ∀ h H',Same H H'->H h=none->H' h=some (.lst ((Sw.hdP (fsOf qs ts) mo ma).map natI))->Q (.ref h) H'
theorem zom (T:Txt K mg c_NoRatio c_Tide c_Wheel):Def P w K mg base (CXX P w) 2 "heads_at" ["row", "tags", "moment", "mark"] zre:=by
 have D_under:=zfi (P:=P) (w:=w) (base:=base) T
 refine T.src_heads_at.okN (k:=1) sc_heads_at (fun vs H Q E h=>?_) (fun f cdv A outer s H vs Q E hr h=>?_)
 ·obtain ⟨l,ps,qs,tl,tp,ts,pm,pk,mo,ma,rfl,_⟩:=h
  rfl
 ·obtain ⟨l,ps,qs,tl,tp,ts,pm,pk,mo,ma,rfl,R0,TL,lt,lq,hm,hk,zm,zk,zt,zq,k⟩:=h
  refine ⟨_,(zac (zal (i:=4) sc_heads_at.nd rfl (zbw zae)) (zac (zdq PassesOwn.never rfl (zke K rfl rfl T.no_enumerate (zaa (pv 0) zae)) (zci (n:=2) K rfl rfl (zat (zap (i:=5) sc_heads_at.nd rfl (by first|left;rfl|right;rfl)) (zat (zap (i:=6) sc_heads_at.nd rfl (by first|left;rfl|right;rfl)) zcf))) (zac (zal (i:=7) sc_heads_at.nd rfl (pe_ix (zam K rfl) (pe_ix (zau K rfl) (pv 1) (pv 5) (fun _ _=>rfl)) zaj (fun _ _=>rfl))) (zac (zal (i:=8) sc_heads_at.nd rfl (pe_ix (zam K rfl) (pe_ix (zau K rfl) (pv 1) (pv 5) (fun _ _=>rfl)) zaj (fun _ _=>rfl))) (zac (zal (i:=9) sc_heads_at.nd rfl (zsx (zao D_under (hr.mono (by decide)) rfl passN (zaa (pv 2) (zaa (zcg (zaa (pe_ix (zam K rfl) (pv 6) zaj (fun _ _=>rfl)) (zaa zaj zae))) zae))))) (zan (ps_if (PW.pt (ziy (zeb (pv 9)) (ziy (zna (zeb (zao D_under (hr.mono (by decide)) rfl passN (zaa (pv 3) (zaa (pv 7) zae))))) (zhu (zeb (zao D_under (hr.mono (by decide)) rfl passN (zaa (pv 3) (zaa (pv 8) zae)))))))) (zan (zbj (pe_bm PySem.F.plainAttrs_list PySem.F.slot_list_append PySem.F.type_list_append zaz (pv 4) (zaa (pv 5) zae)))) zdf)))))) (zan (zay (pv 4))))),?_⟩
  show tSeq _ _ _ [some (.ref l),some (.ref tl),some (.ref pm),some (.ref pk),none,none,none,none,none,none] H
  have len:=R0.r.len
  refine zad fun R hR=>?_
  walk_at "rd"
  intro h hh
  refine hR _ _ ?_
  have s0:=zaf (o:=.lst []) hh
  have h0:upd H h (.lst []) h=some (.lst []):=zab
  generalize upd H h (.lst [])=H1 at s0 h0 ⊢
  refine zad fun R hR=>?_
  refine zbo fun Z hZ=>?_
  walk_at "rd"
  refine ⟨⟨_,.of (R0.same s0).hl⟩,hZ _ _ ?_⟩
  refine zkd (xs:=ps.map V.ref) (fun i σ H'=>∃ v5 v6 v7 v8 v9,σ = [some (.ref l),some (.ref tl),some (.ref pm),some (.ref pk),some (.ref h),v5,v6,v7,v8,v9]/\Same H H'/\H' h=some (.lst (((List.range i).filter (hdI (fsOf qs ts) mo ma)).map natI))) ⟨none,none,none,none,none,rfl,s0,h0⟩ (fun i σ H' _ ⟨_,_,_,_,_,_,sm,_⟩=>.of (sm _ _ R0.hl)) ?_ ?_
  ·rintro i x σ H2 p hx ⟨v5,v6,v7,v8,v9,rfl,sm,hL⟩ hp
   obtain ⟨pp,hpp,rfl⟩:∃ p,ps[i]? = some p/\V.ref p=x:=by simpa using hx
   obtain ⟨q,hq,hqp⟩:=R0.r.get hpp
   have hi:i<qs.length:=(List.getElem?_eq_some_iff.mp hq).1
   obtain ⟨t,hti⟩:∃ t,ts[i]? = some t:=⟨_,List.getElem?_eq_getElem (by omega)⟩
   obtain ⟨pt,hpt,pb,pe,g1,g2,g3⟩:=TL.item hti
   obtain ⟨z1,z2⟩:=zt t (List.mem_of_getElem? hti)
   obtain ⟨q0,q1⟩:=zq q (List.mem_of_getElem? hq)
   have eh:hdI (fsOf qs ts) mo ma i=Sw.hdB mo ma (q.1,t.1,t.2,q.2.2.2):=by unfold hdI; rw [zno hq hti]
   have er:=zlj (hdI (fsOf qs ts) mo ma) i
   rw [eh] at er
   have sn:=zaf (o:=.tup [.int i,.ref pp]) hp
   have sm:=sm.trans sn
   have hL:=sn _ _ hL
   refine ⟨p,_,rfl,.of zab,rfl,?_⟩
   generalize upd H2 p (.tup [.int i,.ref pp])=H3 at sm hL ⊢
   clear sn
   walk_at "rd"
   refine zad fun R hR=>?_
   walk_at "rd"
   refine zcd (.of (sm _ _ TL.hl)) hpt (zaq (.of (sm _ _ g1)) rfl (hR _ _ ?_))
   refine zad fun R hR=>?_
   walk_at "rd"
   refine zcd (.of (sm _ _ TL.hl)) hpt (zaq (.of (sm _ _ g1)) rfl (hR _ _ ?_))
   refine zad fun R hR=>?_
   walk_at "rd"
   refine zaq (.of (sm _ _ hqp)) rfl ?_
   walk_at "rd"
   intro y hy
   have sn:=zaf (o:=.tup [.int q.1,.int 1]) hy
   have sm:=sm.trans sn
   have hL:=sn _ _ hL
   refine ⟨pm,y,mo,(q.1:Rat),rfl,sm _ _ hm,zfs (n:=q.1),zm,(zlk q0 q1).mono (by decide),?_⟩
   generalize upd H3 y (.tup [.int q.1,.int 1])=H4 at sm hL ⊢
   clear sn
   walk_at "rd"
   refine hR _ _ ?_
   refine zby fun R hR=>?_
   have no:Sw.hdB mo ma (q.1,t.1,t.2,q.2.2.2)=false->R [some (.ref l),some (.ref tl),some (.ref pm),some (.ref pk),some (.ref h),some (.int i),some (.ref pp),some (.ref pb),some (.ref pe),some (.bl (!decide (mo<(q.1:Rat))))] H4:=fun e=>by
    refine hR _ _ ⟨⟨_,_,_,_,_,rfl⟩,sm,?_⟩
    rw [er,e,if_neg (by decide),List.append_nil]
    exact hL
   walk_at "rd"
   refine ite2 (fun c1=>no ?_) fun c1=>?_
   ·cases e:Sw.hdB mo ma (q.1,t.1,t.2,q.2.2.2) with
    | false=>rfl
    | true =>
     obtain ⟨b,_⟩:=Sw.hdB_iff.mp e
     exact absurd c1 (by have:(q.1:Rat)<=mo:=b; grind)
   ·refine ⟨pk,pb,ma,t.1,rfl,sm _ _ hk,sm _ _ g2,zk,z1,?_⟩
    walk_at "rd"
    refine ite2 (fun c2=>no ?_) fun c2=>?_
    ·cases e:Sw.hdB mo ma (q.1,t.1,t.2,q.2.2.2) with
     | false=>rfl
     | true =>
      obtain ⟨_,b,_⟩:=Sw.hdB_iff.mp e
      exact absurd c2 (by have:t.1<=ma:=b; grind)
    refine ⟨pk,pe,ma,t.2,rfl,sm _ _ hk,sm _ _ g3,zk,z2,?_⟩
    walk_at "rd"
    refine ite2 (fun c3=>?_) fun c3=>no ?_
    ·refine ⟨zdk hL,zgc hL ?_ (hR _ _ ⟨⟨_,_,_,_,_,rfl⟩,fun b o e=>?_,?_⟩)⟩
     ·have:=List.length_filter_le (hdI (fsOf qs ts) mo ma) (List.range i)
      rw [List.length_range] at this
      rw [List.length_map]
      omega
     ·rw [zai (zah e hh)]; exact sm _ _ e
     ·have e:Sw.hdB mo ma (q.1,t.1,t.2,q.2.2.2)=true:=Sw.hdB_iff.mpr ⟨by show (q.1:Rat)<=mo; grind,by show t.1<=ma; grind,c3⟩
      rw [zab,er,e,if_pos rfl,List.map_append]
      rfl
    ·cases e:Sw.hdB mo ma (q.1,t.1,t.2,q.2.2.2) with
     | false=>rfl
     | true =>
      obtain ⟨_,_,b⟩:=Sw.hdB_iff.mp e
      exact absurd b c3
  ·rintro σ H2 ⟨v5,v6,v7,v8,v9,rfl,sm,hL⟩
   refine hR _ _ ?_
   walk_at "rd"
   refine k h H2 sm hh ?_
   rw [zxf,zkk lt,<- len,hL,List.length_map]
def zon:Sp:=fun vs H Q _=>∃ tl tp ts hl,∃ hs:List Nat,∃ sh pm pk mo ma,∃ ef:Nat->Rat,vs = [.ref tl,.ref hl,.int sh,.ref pm,.ref pk]/\TgL H tl tp ts/\H hl=some (.lst (hs.map natI))/\hs≠[]/\hs.length<=60/\(∀ i∈hs,∃ t,ts[i]? = some t/\t.2=ef i/\Sw.SzQ 2400 (ef i))/\H pm=some (.tup (fq mo))/\H pk=some (.tup (fq ma)) /\
 Sw.SzQ 2400 mo/\Sw.SzQ 2400 ma/\Sw.Sz 200 sh/\Sw.SzQ 2400 (Sw.minL (hs.map ef)-ma)/\Sw.SzQ 2400 ((Sw.minL (hs.map ef)-ma)*(sh:Rat)) /\
 ∀ r H',Same H H'->H' r=some (.tup (fq (mo+(Sw.minL (hs.map ef)-ma)*(sh:Rat))))->Q (.ref r) H'
theorem zmv (T:Txt K mg c_NoRatio c_Tide c_Wheel):Def P w K mg base (CXX P w) 4 "first_end" ["tags", "heads", "shares", "moment", "mark"] zon:=by
 have D_least:=zms (P:=P) (w:=w) (base:=base) T
 have D_minus:=zmr (P:=P) (w:=w) (base:=base) T
 have D_times:=zqy (P:=P) (w:=w) (base:=base) T
 have D_plus:=zns (P:=P) (w:=w) (base:=base) T
 refine T.src_first_end.okN (k:=3) sc_first_end (fun vs H Q E h=>?_) (fun f cdv A outer s H vs Q E hr h=>?_)
 ·obtain ⟨tl,tp,ts,hl,hs,sh,pm,pk,mo,ma,ef,rfl,_⟩:=h
  rfl
 ·obtain ⟨tl,tp,ts,hl,hs,sh,pm,pk,mo,ma,ef,rfl,TL,hh,hne,hlen,he,hm,hk,zm,zk,zs,zw,zr,k⟩:=h
  refine ⟨_,(zac (zal (i:=5) sc_first_end.nd rfl (zao D_minus (hr.mono (by decide)) rfl passN (zaa (zao D_least (hr.mono (by decide)) rfl passN (zaa (pe_lc ["place"] [("tags", 0)] rfl (by with_unfolding_all rfl) (by decide +kernel) rfl (by decide +kernel) (by exact ⟨rfl,True.intro⟩) (by with_unfolding_all rfl) ⟨⟨rfl,rfl,rfl⟩,True.intro⟩ (zav K rfl (pv 1)) (fun _ _ _=>(zap (i:=0) (show (["place", "tags"]:List Str).Nodup from by decide +kernel) rfl (by first|left;rfl|right;rfl))) (fun _ _ _=>zbs) (fun _ _ _=>(pe_ix (zam K rfl) (pe_ix (zau K rfl) (pv 1) (pv 0) (fun _ _=>rfl)) zaj (fun _ _=>rfl)))) zae)) (zaa (pv 4) zae)))) (zan (zay (zao D_plus (hr.mono (by decide)) rfl passN (zaa (pv 3) (zaa (zao D_times (hr.mono (by decide)) rfl passN (zaa (pv 5) (zaa (zcg (zaa (pv 2) (zaa zaj zae))) zae))) zae)))))),?_⟩
  show tSeq _ _ _ [some (.ref tl),some (.ref hl),some (.int sh),some (.ref pm),some (.ref pk),none] H
  refine zad fun R hR=>?_
  walk_at "rd"
  refine ⟨⟨_,.of hh⟩,fun Dl hDl=>?_⟩
  refine zbb (xs:=hs.map natI) (fun i τ H'=>∃ v es,τ = [v,some (.ref tl)]/\Same H H'/\Lst fq H' Dl es ((hs.take i).map ef)/\es.length=i) ⟨none,[],rfl,zaf hDl,⟨zab,.nil⟩,rfl⟩ (fun i τ H' _ ⟨_,_,_,sm,_⟩=>.of (sm _ _ hh)) ?_ ?_
  ·rintro i y τ H2 hy ⟨v,es,rfl,sm,L,le⟩
   obtain ⟨j,hj,rfl⟩:∃ j,hs[i]? = some j/\natI j=y:=by simpa using hy
   obtain ⟨t,ht,et,_⟩:=he j (List.mem_of_getElem? hj)
   obtain ⟨pt,hpt,pb,pe,g1,g2,g3⟩:=TL.item ht
   have hi:i<hs.length:=(List.getElem?_eq_some_iff.mp hj).1
   unfold natI
   walk_at "rd"
   simp only [tYes,if_true]
   refine zcd (.of (sm _ _ TL.hl)) hpt ?_
   refine zaq (.of (sm _ _ g1)) rfl ?_
   have kt:∀ b xs,H2 b=some (.tup xs)->upd H2 Dl (.lst (es.map V.ref++[.ref pe])) b=some (.tup xs):=fun b xs e=>by
    rw [zai (ne_of e L.hl (by intro z; cases z))]; exact e
   refine ⟨_,L.hl,line_lt (by rw [List.length_map]; omega),fun b o e=>?_,es++[pe],⟨?_,?_⟩,by simp [le]⟩
   ·rw [zai (zah e hDl)]; exact sm _ _ e
   ·rw [zab,List.map_append]; rfl
   ·rw [take_succ_of hj,List.map_append]
    exact zdw (kt _ _ (by rw [sm _ _ g3,et])) (zcm L.r kt)
  ·rintro τ H2 ⟨v,es,rfl,sm,L,le⟩
   rw [List.take_of_length_le (by rw [List.length_map]; exact Nat.le_refl _)] at L
   refine ⟨Dl,es,hs.map ef,rfl,L,by simpa using hne,fun q hq=>?_,fun r H3 s3 hr3=>?_⟩
   ·obtain ⟨i,hi,rfl⟩:=List.mem_map.mp hq
    obtain ⟨t,_,_,z⟩:=he i hi
    exact z.mono (by decide)
   have sm:=sm.trans s3
   have zl:Sw.SzQ 2400 (Sw.minL (hs.map ef)):=by
    obtain ⟨i,hi,e⟩:=List.mem_map.mp (Sw.minL_mem (l:=hs.map ef) (by simpa using hne))
    obtain ⟨t,_,_,z⟩:=he i hi
    rw [<- e]; exact z
   refine ⟨r,pk,_,ma,2400,rfl,hr3,sm _ _ hk,by decide,zl,zk,fun w1 f1=>hR _ _ ?_⟩
   have n1:=zaf (o:=.tup (fq (Sw.minL (hs.map ef)-ma))) f1
   have sm:=sm.trans n1
   have h1:upd H3 w1 (.tup (fq (Sw.minL (hs.map ef)-ma))) w1=some (.tup (fq (Sw.minL (hs.map ef)-ma))):=zab
   generalize upd H3 w1 (.tup (fq (Sw.minL (hs.map ef)-ma)))=H4 at sm h1 ⊢
   walk_at "rd"
   intro w2 f2
   have n2:=zaf (o:=.tup [.int sh,.int 1]) f2
   refine ⟨w1,w2,_,(sh:Rat),2400,rfl,n2 _ _ h1,zfs (n:=sh),by decide,zw,(Sw.SzQ.int zs).mono (by decide),fun w3 f3=>?_⟩
   have n3:=zaf (o:=.tup (fq ((Sw.minL (hs.map ef)-ma)*(sh:Rat)))) f3
   refine ⟨pm,w3,mo,_,2400,rfl,n3 _ _ (n2 _ _ (sm _ _ hm)),zab,by decide,zm,zr,fun w4 f4=>?_⟩
   exact k w4 _ (((sm.trans n2).trans n3).trans (zaf f4)) zab
def shV (fs:List Sw.F4):V->Option V
 | .int i=>some (.int (Sw.shr fs i.toNat))
 | _=>none
theorem zvn (fs:List Sw.F4) (hs:List Nat):(hs.map natI).filterMap (shV fs)=(hs.map (Sw.shr fs)).map V.int:=by
 induction hs with
 | nil=>rfl
 | cons i r ih =>
  rw [List.map_cons,List.filterMap_cons,List.map_cons,List.map_cons,<- ih]
  rfl
theorem div1 (n:Int):((n:Int):Rat) / ((1:Int):Rat)=(n:Rat):=by
 have:((1:Int):Rat) = 1:=rfl
 rw [this]; grind
theorem f01:((0:Int):Rat) / ((1:Int):Rat) = 0:=by
 have z0:((0:Int):Rat) = 0:=rfl
 rw [z0]; grind
def zxu:Sp:=fun vs H Q _=>∃ n M a c l ps qs,vs = [.ref l]/\Row H l ps qs/\Sw.Fit n M a c/\qs.length<=n/\(∀ q∈qs,Sw.PcOk M q)/\qs.Pairwise (fun a b=>a.1<=b.1)/\∀ sl sp H',Same H H'->ScL H' sl sp (Sw.flowF (fsOf qs (Sw.Ti.nil.tags qs)) (2*n+1) 0 0)->Q (.ref sl) H'
theorem zxv (T:Txt K mg c_NoRatio c_Tide c_Wheel):Def P w K mg base (CXX P w) 7 "flow" ["row"] zxu:=by
 have D_tags_of:=zrd (P:=P) (w:=w) (base:=base) T
 have D_heads_at:=zom (P:=P) (w:=w) (base:=base) T
 have D_first_end:=zmv (P:=P) (w:=w) (base:=base) T
 have D_ratio:=zfy (P:=P) (w:=w) (base:=base) T
 have D_under:=zfi (P:=P) (w:=w) (base:=base) T
 have D_least:=zms (P:=P) (w:=w) (base:=base) T
 have D_plus:=zns (P:=P) (w:=w) (base:=base) T
 have D_minus:=zmr (P:=P) (w:=w) (base:=base) T
 have D_over:=ztk (P:=P) (w:=w) (base:=base) T
 refine T.src_flow.okN (k:=6) sc_flow (fun vs H Q E h=>?_) (fun f cdv A outer s H vs Q E hr h=>?_)
 ·obtain ⟨n,M,a,c,l,ps,qs,rfl,_⟩:=h
  rfl
 ·obtain ⟨n,M,a,c,l,ps,qs,rfl,R0,F,hn,hq,hp,k⟩:=h
  refine ⟨_,(zac (zal (i:=1) sc_flow.nd rfl (zao D_tags_of (hr.mono (by decide)) rfl passN (zaa (pv 0) zae))) (zac (zal (i:=2) sc_flow.nd rfl (zbw zae)) (zac (zal (i:=3) sc_flow.nd rfl (zao D_ratio (hr.mono (by decide)) rfl passN (zaa zaj (zaa zaj zae)))) (zac (zal (i:=4) sc_flow.nd rfl (zao D_ratio (hr.mono (by decide)) rfl passN (zaa zaj (zaa zaj zae)))) (zan (zfk PassesOwn.never (zeb pe_bl) (zac (zal (i:=5) sc_flow.nd rfl (zao D_heads_at (hr.mono (by decide)) rfl passN (zaa (pv 0) (zaa (pv 1) (zaa (pv 3) (zaa (pv 4) zae)))))) (zac (zal (i:=6) sc_flow.nd rfl (zbn (zgb K rfl rfl) rfl T.no_sum boot_sum (zaa (pe_lc ["place"] [("row", 0)] rfl (by with_unfolding_all rfl) (by decide +kernel) rfl (by decide +kernel) (by exact ⟨rfl,True.intro⟩) (by with_unfolding_all rfl) ⟨⟨rfl,rfl,rfl⟩,True.intro⟩ (zav K rfl (pv 5)) (fun _ _ _=>(zap (i:=0) (show (["place", "row"]:List Str).Nodup from by decide +kernel) rfl (by first|left;rfl|right;rfl))) (fun _ _ _=>zbs) (fun _ _ _=>(pe_ix (zam K rfl) (pe_ix (zau K rfl) (pv 1) (pv 0) (fun _ _=>rfl)) zaj (fun _ _=>rfl)))) zae))) (zac (zqe (i0:=7) ["piece"] [("moment", 3)] rfl (by with_unfolding_all rfl) (by decide +kernel) rfl (by decide +kernel) (by exact ⟨rfl,True.intro⟩) (by with_unfolding_all rfl) ⟨⟨rfl,rfl,rfl⟩,True.intro⟩ (zav K rfl (pv 0)) (fun _ _ _=>(zap (i:=0) (show (["piece", "moment"]:List Str).Nodup from by decide +kernel) rfl (by first|left;rfl|right;rfl))) (fun _ _ _=>(zga (zeb (zao D_under (hr.mono (by decide)) rfl passN (zaa (pv 1) (zaa (zcg (zaa (pe_ix (zam K rfl) (pv 0) zaj (fun _ _=>rfl)) (zaa zaj zae))) zae)))))) (fun _ _ _=>(zao D_ratio (hr.mono (by decide)) rfl passN (zaa (pe_ix (zam K rfl) (pv 0) zaj (fun _ _=>rfl)) (zaa zaj zae)))) (by with_unfolding_all rfl) sc_flow.nd rfl (by first|left;rfl|right;rfl)) (zac (ps_if (zeo K rfl (pv 5)) (zan (zbj (pe_bm PySem.F.plainAttrs_list PySem.F.slot_list_append PySem.F.type_list_append zaz (pv 7) (zaa (zao D_first_end (hr.mono (by decide)) rfl passN (zaa (pv 1) (zaa (pv 5) (zaa (pv 6) (zaa (pv 3) (zaa (pv 4) zae)))))) zae)))) zdf) (zac (ps_if (zna (zeo K rfl (pv 7))) (zan (zay (pv 2))) zdf) (zac (zal (i:=8) sc_flow.nd rfl (zao D_least (hr.mono (by decide)) rfl passN (zaa (pv 7) zae))) (zac (ps_if (zeo K rfl (pv 5)) (zac (zbj (pe_bm PySem.F.plainAttrs_list PySem.F.slot_list_append PySem.F.type_list_append zaz (pv 2) (zaa (zcg (zaa (pv 3) (zaa (pv 8) (zaa (pe_lc ["place"] [("shares", 6),("row", 0)] rfl (by with_unfolding_all rfl) (by decide +kernel) rfl (by decide +kernel) (by exact ⟨rfl,⟨rfl,True.intro⟩⟩) (by with_unfolding_all rfl) ⟨⟨rfl,rfl,rfl⟩,⟨⟨rfl,rfl,rfl⟩,True.intro⟩⟩ (zav K rfl (pv 5)) (fun _ _ _=>(zap (i:=0) (show (["place", "shares", "row"]:List Str).Nodup from by decide +kernel) rfl (by first|left;rfl|right;rfl))) (fun _ _ _=>zbs) (fun _ _ _=>(zcg (zaa (pv 0) (zaa (zao D_ratio (hr.mono (by decide)) rfl passN (zaa (pe_ix (zam K rfl) (pe_ix (zau K rfl) (pv 2) (pv 0) (fun _ _=>rfl)) zaj (fun _ _=>rfl)) (zaa (pv 1) zae))) zae))))) zae)))) zae))) (zan (zal (i:=4) sc_flow.nd rfl (zao D_plus (hr.mono (by decide)) rfl passN (zaa (pv 4) (zaa (zao D_over (hr.mono (by decide)) rfl passN (zaa (zao D_minus (hr.mono (by decide)) rfl passN (zaa (pv 8) (zaa (pv 3) zae))) (zaa (zcg (zaa (pv 6) (zaa zaj zae))) zae))) zae)))))) zdf) (zan (zal (i:=3) sc_flow.nd rfl (pv 8)))))))))))))))),?_⟩
  show tSeq _ _ _ [some (.ref l),none,none,none,none,none,none,none,none] H
  obtain ⟨D,ok⟩:=Sw.fs_ok F hn hq hp
  have tln:(Sw.Ti.nil.tags qs).length=qs.length:=Sw.Ti.tags_len
  have n6:=F.n1
  refine zad fun R hR=>?_
  walk_at "rd"
  refine ⟨n,M,a,c,l,ps,qs,rfl,R0,F,hn,hq,hp,fun tl tp H1 s1 TL=>hR _ _ ?_⟩
  have R1:=R0.same s1
  generalize Sw.Ti.nil.tags qs=ts at ok tln TL k
  have fsl:(fsOf qs ts).length=qs.length:=zkk tln
  have get:∀ i,i<qs.length->∃ q t,qs[i]? = some q/\ts[i]? = some t/\(fsOf qs ts)[i]? = some (q.1,t.1,t.2,q.2.2.2):=fun i hi=>by
   have h1:qs[i]? = some (qs[i]'hi):=List.getElem?_eq_getElem _
   have h2:ts[i]? = some (ts[i]'(by omega)):=List.getElem?_eq_getElem _
   exact ⟨_,_,h1,h2,zno h1 h2⟩
  have szt:∀ t∈ts,Sw.SzQ 5000 t.1/\Sw.SzQ 5000 t.2:=fun t ht=>by
   obtain ⟨i,hi⟩:=List.getElem?_of_mem ht
   obtain ⟨q,t',e1,e2,e3⟩:=get i (by have:=(List.getElem?_eq_some_iff.mp hi).1; omega)
   rw [hi] at e2
   cases e2
   have:=ok.szt (List.mem_of_getElem? e3)
   exact ⟨this.1.mono (by decide),this.2.mono (by decide)⟩
  have chq:∀ mo,Sw.chs (fsOf qs ts) mo=qs.filterMap fun q=>if mo<(q.1:Rat) then some (q.1:Rat) else none:=fun mo=>Sw.chs_of tln
  have hdi:∀ {mo ma:Rat} {i:Nat},i∈Sw.hdP (fsOf qs ts) mo ma->i<qs.length:=fun {mo ma i} hi=>by
   obtain ⟨f,e,_⟩:=Sw.hdP_mem.mp hi
   have:=(List.getElem?_eq_some_iff.mp e).1
   omega
  refine zad fun R hR=>?_
  walk_at "rd"
  intro sl hsl
  refine hR _ _ ?_
  have n1:=zaf (o:=.lst []) hsl
  have SL:ScL (upd H1 sl (.lst [])) sl [] []:=⟨zab,.nil⟩
  generalize upd H1 sl (.lst [])=H2 at n1 SL ⊢
  refine zad fun R hR=>?_
  walk_at "rd"
  refine ⟨_,_,70,rfl,by decide,Sw.Sz.r18 (by decide) (by decide),fun _ pm fm=>hR _ _ ?_,fun z=>absurd z (by decide)⟩
  rw [f01]
  have n2:=zaf (o:=.tup (fq 0)) fm
  refine zad fun R hR=>?_
  walk_at "rd"
  refine ⟨_,_,70,rfl,by decide,Sw.Sz.r18 (by decide) (by decide),fun _ pk fk=>hR _ _ ?_,fun z=>absurd z (by decide)⟩
  rw [f01]
  have n3:=zaf (o:=.tup (fq 0)) fk
  have hm:upd (upd H2 pm (.tup (fq 0))) pk (.tup (fq 0)) pm=some (.tup (fq 0)):=n3 _ _ zab
  have hk:upd (upd H2 pm (.tup (fq 0))) pk (.tup (fq 0)) pk=some (.tup (fq 0)):=zab
  have SL:=(SL.same n2).same n3
  have n1:=(n1.trans n2).trans n3
  generalize upd (upd H2 pm (.tup (fq 0))) pk (.tup (fq 0))=H3 at n1 SL hm hk ⊢
  clear n2 n3 fm fk
  refine zqb (fun m σ H'=>∃ done sp mo ma G pm pk v5 v6 v7 v8,σ = [some (.ref l),some (.ref tl),some (.ref sl),some (.ref pm),some (.ref pk),v5,v6,v7,v8]/\Same H1 H'/\ScL H' sl sp done/\H' pm=some (.tup (fq mo))/\H' pk=some (.tup (fq ma))/\Sw.FSt n M a c (fsOf qs ts) D mo ma G/\Sw.mu (fsOf qs ts) mo ma<=m/\sp.length+m<=2*n/\done++Sw.flowF (fsOf qs ts) (m+1) mo ma=Sw.flowF (fsOf qs ts) (2*n+1) 0 0) (m0:=2*n)
   ⟨[],[],0,0,D,pm,pk,none,none,none,none,rfl,n1,SL,hm,hk,.start ok,Sw.mu0 ok.ln 0 0,by simp,rfl⟩ ?_
  clear SL hm hk n1
  rintro m σ H4 ⟨done,sp,mo,ma,G,pm,pk,v5,v6,v7,v8,rfl,sm,SL,hm,hk,st,hmu,hln,tot⟩
  refine ⟨true,fun Q hQ=>⟨_,rfl,hQ⟩,fun _=>?_,fun z=>by cases z⟩
  show tSeq _ _ _ [some (.ref l),some (.ref tl),some (.ref sl),some (.ref pm),some (.ref pk),v5,v6,v7,v8] H4
  have zmo:=(st.zmo ok).mono (show 2130<=2400 by decide)
  have zma:=(st.zma ok).mono (show 2130<=2400 by decide)
  refine zad fun R hR=>?_
  walk_at "rd"
  refine ⟨l,ps,qs,tl,tp,ts,pm,pk,mo,ma,rfl,R1.same sm,TL.same sm,tln,by omega,hm,hk,zmo.mono (by decide),zma.mono (by decide),szt,fun q h=>⟨(hq q h).1,(hq q h).2.1⟩,fun h H5 s5 nh hh=>hR _ _ ?_⟩
  have slen:(Sw.hdP (fsOf qs ts) mo ma).length<=60:=by have:=Sw.hdP_len (fsOf qs ts) mo ma; omega
  refine zad fun R hR=>?_
  walk_at "rd"
  refine ⟨⟨_,.of hh⟩,fun Dl hDl=>?_⟩
  refine zpq (K:=K) (a:=h) (xs:=(Sw.hdP (fsOf qs ts) mo ma).map natI) (v0:=none) (caps:=[some (.ref l)]) (shV (fsOf qs ts)) hDl (.of hh) (by rw [List.length_map]; omega) (fun x hx v H' C N s' h1 h2=>?_) ?_
  ·obtain ⟨i,hi,rfl⟩:=List.mem_map.mp hx
   obtain ⟨q,t,e1,e2,e3⟩:=get i (hdi hi)
   have Rx:=((R1.same sm).same s5).same s'
   obtain ⟨p,q',i1,i2,i3⟩:=Rx.item (i:=(i:Int)) (by omega) (by have:=hdi hi; omega)
   have i2:qs[i]? = some q':=by simpa using i2
   rw [e1] at i2
   cases i2
   unfold natI
   walk_at "rd"
   simp only [tYes,if_true]
   refine zcd (.of Rx.hl) i1 ?_
   refine zaq (.of i3) rfl ?_
   exact h1 _ (by show some (V.int (Sw.shr (fsOf qs ts) i))=some _; rw [Sw.shr_at e3])
  rw [zvn]
  refine ⟨Dl,_,rfl,.of zab,hR _ _ ?_⟩
  have s6:=s5.trans (zaf (o:=.lst (((Sw.hdP (fsOf qs ts) mo ma).map (Sw.shr (fsOf qs ts))).map V.int)) hDl)
  have hh:=zaf (o:=.lst (((Sw.hdP (fsOf qs ts) mo ma).map (Sw.shr (fsOf qs ts))).map V.int)) hDl _ _ hh
  generalize upd H5 Dl (.lst (((Sw.hdP (fsOf qs ts) mo ma).map (Sw.shr (fsOf qs ts))).map V.int))=H6 at s6 hh ⊢
  clear hDl s5
  have hS:((Sw.hdP (fsOf qs ts) mo ma).map (Sw.shr (fsOf qs ts))).sum=Sw.shP (fsOf qs ts) (Sw.hdP (fsOf qs ts) mo ma):=rfl
  rw [hS]
  refine zad fun R hR=>?_
  walk_at "rd"
  have R6:=(R1.same sm).same s6
  have hm6:=s6 _ _ hm
  refine ⟨⟨_,.of R6.hl⟩,fun Cl hCl=>?_⟩
  have nCl:H4 Cl=none:=s6.free hCl
  refine zbb (xs:=ps.map V.ref) (fun i τ H'=>∃ v es,τ = [v,some (.ref pm)]/\Same H6 H'/\Lst fq H' Cl es ((qs.take i).filterMap fun q=>if mo<(q.1:Rat) then some (q.1:Rat) else none)/\es.length<=i) ⟨none,[],rfl,zaf hCl,⟨zab,.nil⟩,Nat.le_refl _⟩ (fun i τ H' _ ⟨_,_,_,s',_⟩=>.of (s' _ _ R6.hl)) ?_ ?_
  ·rintro i y τ H7 hy ⟨v,es,rfl,s7,L,le⟩
   obtain ⟨pp,hpp,rfl⟩:∃ p,ps[i]? = some p/\V.ref p=y:=by simpa using hy
   obtain ⟨q,hqi,hqp⟩:=R6.r.get hpp
   have hi:i<qs.length:=(List.getElem?_eq_some_iff.mp hqi).1
   obtain ⟨q0,q1,_⟩:=hq q (List.mem_of_getElem? hqi)
   have et:=take_succ_of hqi
   walk_at "rd"
   refine zaq (.of (s7 _ _ hqp)) rfl ?_
   walk_at "rd"
   intro w1 f1
   have m1:=zaf (o:=.tup [.int q.1,.int 1]) f1
   refine ⟨pm,w1,mo,(q.1:Rat),rfl,m1 _ _ (s7 _ _ hm6),zfs (n:=q.1),zmo.mono (by decide),(zlk q0 q1).mono (by decide),?_⟩
   have s7:=s7.trans m1
   have L:Lst fq (upd H7 w1 (.tup [.int q.1,.int 1])) Cl es _:=⟨m1 _ _ L.hl,zcl L.r m1⟩
   generalize upd H7 w1 (.tup [.int q.1,.int 1])=H8 at s7 L ⊢
   clear m1 f1
   walk_at "rd"
   refine ite2 (fun c1=>?_) fun c1=>?_
   ·refine zaq (.of (s7 _ _ hqp)) rfl ?_
    walk_at "rd"
    refine ⟨_,_,70,rfl,by decide,Sw.Sz.r18 (by decide) (by decide),fun _ w2 f2=>?_,fun z=>absurd z (by decide)⟩
    have m2:=zaf (o:=.tup (fq (((q.1:Int):Rat) / ((1:Int):Rat)))) f2
    have kt:∀ b xs,upd H8 w2 (.tup (fq (((q.1:Int):Rat) / ((1:Int):Rat)))) b=some (.tup xs)->upd (upd H8 w2 (.tup (fq (((q.1:Int):Rat) / ((1:Int):Rat))))) Cl (.lst (es.map V.ref++[.ref w2])) b=some (.tup xs):=fun b xs e=>by
     rw [zai (ne_of e (m2 _ _ L.hl) (by intro z; cases z))]; exact e
    refine ⟨_,m2 _ _ L.hl,line_lt (by rw [List.length_map]; omega),fun b o e=>?_,es++[w2],⟨?_,?_⟩,by rw [List.length_append]; simp only [List.length_cons,List.length_nil]; omega⟩
    ·rw [zai (zah e hCl)]; exact m2 _ _ (s7 _ _ e)
    ·rw [zab,List.map_append]; rfl
    ·rw [et,List.filterMap_append]
     have e1:([q]:List Q4).filterMap (fun q=>if mo<(q.1:Rat) then some (q.1:Rat) else none) = [(q.1:Rat)]:=by simp [c1]
     rw [e1]
     exact zdw (kt _ _ (by rw [zab,div1])) (zcm (zcl L.r m2) kt)
   ·refine ⟨s7,es,⟨L.hl,?_⟩,by omega⟩
    rw [et,List.filterMap_append]
    have e1:([q]:List Q4).filterMap (fun q=>if mo<(q.1:Rat) then some (q.1:Rat) else none) = []:=by simp [c1]
    rw [e1,List.append_nil]
    exact L.r
  rintro τ H7 ⟨v,es,rfl,s67,L,le⟩
  rw [List.take_of_length_le (by rw [List.length_map]; have:=R0.r.len; omega),<- chq mo] at L
  have len7:es.length<=60:=by rw [List.length_map] at le; have:=R0.r.len; omega
  refine hR _ _ ?_
  have s7:=s6.trans s67
  have hh7:=s67 _ _ hh
  clear s67
  refine zad fun R hR=>?_
  have next:∀ es' H8,Same H4 H8->H8 h=some (.lst ((Sw.hdP (fsOf qs ts) mo ma).map natI))->Lst fq H8 Cl es' (Sw.chA (fsOf qs ts) mo ma)->R [some (.ref l),some (.ref tl),some (.ref sl),some (.ref pm),some (.ref pk),some (.ref h),some (.int (Sw.shP (fsOf qs ts) (Sw.hdP (fsOf qs ts) mo ma))),some (.ref Cl),v8] H8:=fun es' H8 s8 hh L=>by
   refine hR _ _ ?_
   have elen:=zfe L.r
   refine zad fun R hR=>?_
   walk_at "rd"
   by_cases ce:Sw.chA (fsOf qs ts) mo ma = []
   ·refine ⟨false,.inl ⟨_,.of L.hl,?_⟩,?_⟩
    ·rw [ce] at elen
     rw [List.length_eq_zero_iff.mp elen]; rfl
    rw [if_pos rfl]
    refine k sl sp H8 ((s1.trans sm).trans s8) ?_
    have e:Sw.flowF (fsOf qs ts) (m+1) mo ma = []:=by unfold Sw.flowF; rw [if_pos ce]
    rw [e,List.append_nil] at tot
    rw [<- tot]
    exact SL.same s8
   ·refine ⟨true,.inl ⟨_,.of L.hl,?_⟩,?_⟩
    ·cases es' with
     | nil =>
      rw [List.length_nil] at elen
      exact absurd (List.length_eq_zero_iff.mp elen.symm) ce
     | cons y r=>rfl
    rw [if_neg (by decide)]
    refine hR _ _ ?_
    refine zad fun R hR=>?_
    walk_at "rd"
    refine ⟨Cl,es',_,rfl,L,ce,fun x hx=>((st.zch ok hx).1).mono (by decide),fun r H9 s89 hr9=>hR _ _ ?_⟩
    have mem:=Sw.minL_mem ce
    have s9:=s8.trans s89
    have hh9:=s89 _ _ hh
    have nsl:H9 sl=some (.lst (sp.map V.ref)):=s9 _ _ SL.hl
    clear s89
    refine zad fun R hR=>?_
    walk_at "rd"
    by_cases he:Sw.hdP (fsOf qs ts) mo ma = []
    ·refine ⟨false,.inl ⟨_,.of hh9,by rw [he]; rfl⟩,?_⟩
     rw [if_neg (by decide)]
     refine hR _ _ ?_
     have t1:=Sw.turn_rest he ce
     have mu1:=Sw.turn_mu t1
     refine zby fun R hR=>?_
     walk_at "rd"
     refine hR _ _ ⟨m-1,by omega,done,sp,_,ma,G,r,pk,_,_,_,_,rfl,sm.trans s9,SL.same s9,hr9,s9 _ _ hk,st.rest ok t1 ?_,by omega,by omega,?_⟩
     ·rcases t1.way with z | z
      ·exact z
      ·exact absurd he z.1
     ·rw [show m-1+1=m by omega,<- tot,Sw.flowF_succ,if_neg ce,if_pos he]
    ·refine ⟨true,.inl ⟨_,.of hh9,?_⟩,?_⟩
     ·cases e:Sw.hdP (fsOf qs ts) mo ma with
      | nil=>exact absurd e he
      | cons y r=>rfl
     rw [if_pos rfl]
     have t1:=Sw.turn_go ok.s1 he
     have mu1:=Sw.turn_mu t1
     obtain ⟨G',st'⟩:=st.go ok he
     obtain ⟨S1,S2,S3,S4⟩:=ok.shB he
     have zS:Sw.Sz 70 (Sw.shP (fsOf qs ts) (Sw.hdP (fsOf qs ts) mo ma)):=Sw.Sz.r18 (by omega) (by omega)
     refine zad fun R' hR'=>?_
     walk_at "rd"
     refine ⟨zdk nsl,?_⟩
     refine ⟨⟨_,.of hh9⟩,fun Pl hPl=>?_⟩
     have R9:=(R1.same sm).same s9
     refine zbb (xs:=(Sw.hdP (fsOf qs ts) mo ma).map natI) (fun i τ H'=>∃ v es,τ = [v,some (.int (Sw.shP (fsOf qs ts) (Sw.hdP (fsOf qs ts) mo ma))),some (.ref l)]/\Same H9 H'/\H' Pl=some (.lst (es.map V.ref))/\Paired (PrA H') es (((Sw.hdP (fsOf qs ts) mo ma).take i).map fun i=>(i,(Sw.shr (fsOf qs ts) i:Rat) / (Sw.shP (fsOf qs ts) (Sw.hdP (fsOf qs ts) mo ma):Rat)))/\es.length<=i) ⟨none,[],rfl,zaf hPl,zab,.nil,Nat.le_refl _⟩ (fun i τ H' _ ⟨_,_,_,s',_⟩=>.of (s' _ _ hh9)) ?_ ?_
     ·rintro i y τ H10 hy ⟨v,es,rfl,s10,hes,pr,le⟩
      obtain ⟨j,hj,rfl⟩:∃ j,(Sw.hdP (fsOf qs ts) mo ma)[i]? = some j/\natI j=y:=by simpa using hy
      have hi:i<(Sw.hdP (fsOf qs ts) mo ma).length:=(List.getElem?_eq_some_iff.mp hj).1
      have hjm:=List.mem_of_getElem? hj
      obtain ⟨q,t,e1,e2,e3⟩:=get j (hdi hjm)
      obtain ⟨p,q',i1,i2,i3⟩:=(R9.same s10).item (i:=(j:Int)) (by omega) (by have:=hdi hjm; omega)
      have i2:qs[j]? = some q':=by simpa using i2
      rw [e1] at i2
      cases i2
      have esh:Sw.shr (fsOf qs ts) j=q.2.2.2:=Sw.shr_at e3
      unfold natI
      walk_at "rd"
      simp only [tYes,if_true]
      walk_at "rd"
      refine zcd (.of (R9.same s10).hl) i1 ?_
      refine zaq (.of i3) rfl ?_
      walk_at "rd"
      refine ⟨_,_,70,rfl,by decide,zS,fun _ w1 f1=>?_,fun z=>absurd z (by omega)⟩
      intro w2 f2
      have m1:=zaf (o:=.tup (fq ((q.2.2.2:Rat) / (Sw.shP (fsOf qs ts) (Sw.hdP (fsOf qs ts) mo ma):Rat)))) f1
      have m2:=zaf (o:=.tup [.int (j:Int),.ref w1]) f2
      have m3:=m1.trans m2
      have h1:upd (upd H10 w1 (.tup (fq ((q.2.2.2:Rat) / (Sw.shP (fsOf qs ts) (Sw.hdP (fsOf qs ts) mo ma):Rat))))) w2 (.tup [.int (j:Int),.ref w1]) w1=some (.tup (fq ((Sw.shr (fsOf qs ts) j:Rat) / (Sw.shP (fsOf qs ts) (Sw.hdP (fsOf qs ts) mo ma):Rat)))):=by rw [esh]; exact m2 _ _ zab
      have h2:upd (upd H10 w1 (.tup (fq ((q.2.2.2:Rat) / (Sw.shP (fsOf qs ts) (Sw.hdP (fsOf qs ts) mo ma):Rat))))) w2 (.tup [.int (j:Int),.ref w1]) w2=some (.tup [.int (j:Int),.ref w1]):=zab
      generalize upd (upd H10 w1 (.tup (fq ((q.2.2.2:Rat) / (Sw.shP (fsOf qs ts) (Sw.hdP (fsOf qs ts) mo ma):Rat))))) w2 (.tup [.int (j:Int),.ref w1])=H11 at m3 h1 h2 ⊢
      have kt:∀ b xs,H11 b=some (.tup xs)->upd H11 Pl (.lst (es.map V.ref++[.ref w2])) b=some (.tup xs):=fun b xs e=>by
       rw [zai (ne_of e (m3 _ _ hes) (by intro z; cases z))]; exact e
      refine ⟨_,m3 _ _ hes,line_lt (by rw [List.length_map]; omega),fun b o e=>?_,es++[w2],?_,?_,by rw [List.length_append]; simp only [List.length_cons,List.length_nil]; omega⟩
      ·rw [zai (zah e hPl)]; exact m3 _ _ (s10 _ _ e)
      ·rw [zab,List.map_append]; rfl
      ·rw [take_succ_of hj,List.map_append]
       exact paired_snoc ⟨w1,kt _ _ h2,kt _ _ h1⟩ (Paired.mapP (Paired.mapP pr fun _ _ z=>z.keep fun _ _ e=>m3 _ _ e) fun _ _ z=>z.keep kt)
     rintro τ H10 ⟨v,es,rfl,s10,hes,pr,le⟩
     rw [List.take_of_length_le (by rw [List.length_map]; exact Nat.le_refl _)] at pr
     intro t ft
     have s11:=s10.trans (zaf (o:=.tup [.ref pm,.ref r,.ref Pl]) ft)
     have m11:=zaf (o:=.tup [.ref pm,.ref r,.ref Pl]) ft
     have ht:upd H10 t (.tup [.ref pm,.ref r,.ref Pl]) t=some (.tup [.ref pm,.ref r,.ref Pl]):=zab
     have hes:=m11 _ _ hes
     have pr:=Paired.mapP pr fun _ _ z=>PrA.keep z fun _ _ e=>m11 _ _ e
     generalize upd H10 t (.tup [.ref pm,.ref r,.ref Pl])=H11 at s11 ht hes pr ⊢
     have s49:=s9.trans s11
     have nPl:Pl≠sl:=fun z=>by rw [z,nsl] at hPl; cases hPl
     refine zgc (s11 _ _ nsl) (by rw [List.length_map]; omega) (hR' _ _ ?_)
     have SL':=(SL.same s49).app (p:=t) (x:=(mo,Sw.minL (Sw.chA (fsOf qs ts) mo ma),Sw.prt (fsOf qs ts) mo ma)) ⟨pm,r,Pl,es,ht,s49 _ _ hm,s11 _ _ hr9,hes,pr⟩ (fun pf pt pl e=>by rw [ht] at e; cases e; exact nPl)
     have kp:∀ b o,b≠sl->H11 b=some o->upd H11 sl (.lst (sp.map V.ref++[.ref t])) b=some o:=fun b o n e=>by rw [zai n]; exact e
     have hm':=kp _ _ (ne_of (s49 _ _ hm) (s11 _ _ nsl) (by intro z; cases z)) (s49 _ _ hm)
     have hk':=kp _ _ (ne_of (s49 _ _ hk) (s11 _ _ nsl) (by intro z; cases z)) (s49 _ _ hk)
     have hr':=kp _ _ (ne_of (s11 _ _ hr9) (s11 _ _ nsl) (by intro z; cases z)) (s11 _ _ hr9)
     have s12:Same H1 (upd H11 sl (.lst (sp.map V.ref++[.ref t]))):=fun b o e=>kp _ _ (zah e hsl) (s49 _ _ (sm _ _ e))
     generalize upd H11 sl (.lst (sp.map V.ref++[.ref t]))=H12 at SL' hm' hk' hr' s12 ⊢
     walk_at "rd"
     refine ⟨r,pm,_,mo,2400,rfl,hr',hm',by decide,((st.zch ok mem).1).mono (by decide),zmo,fun w1 f1=>?_⟩
     have m1:=zaf (o:=.tup (fq (Sw.minL (Sw.chA (fsOf qs ts) mo ma)-mo))) f1
     walk_at "rd"
     intro w2 f2
     have m2:=zaf (o:=.tup [.int (Sw.shP (fsOf qs ts) (Sw.hdP (fsOf qs ts) mo ma)),.int 1]) f2
     refine ⟨w1,w2,_,(Sw.shP (fsOf qs ts) (Sw.hdP (fsOf qs ts) mo ma):Rat),2400,rfl,m2 _ _ zab,zfs,by decide,((st.zch ok mem).2).mono (by decide),(Sw.SzQ.int zS).mono (by decide),Sw.q_cast_ne (by omega),fun w3 f3=>?_⟩
     have m3:=zaf (o:=.tup (fq ((Sw.minL (Sw.chA (fsOf qs ts) mo ma)-mo) / (Sw.shP (fsOf qs ts) (Sw.hdP (fsOf qs ts) mo ma):Rat)))) f3
     have m123:=(m1.trans m2).trans m3
     refine ⟨pk,w3,ma,_,2400,rfl,m123 _ _ hk',zab,by decide,zma,(st.zov ok he mem).mono (by decide),fun w4 f4=>?_⟩
     have m4:=zaf (o:=.tup (fq (ma+(Sw.minL (Sw.chA (fsOf qs ts) mo ma)-mo) / (Sw.shP (fsOf qs ts) (Sw.hdP (fsOf qs ts) mo ma):Rat)))) f4
     have m1234:=m123.trans m4
     refine hR _ _ ?_
     refine zby fun R hR=>?_
     walk_at "rd"
     refine hR _ _ ⟨m-1,by omega,_,sp++[t],_,_,G',r,w4,_,_,_,_,rfl,s12.trans m1234,SL'.same m1234,m1234 _ _ hr',zab,st',by omega,?_,?_⟩
     ·rw [List.length_append]; simp only [List.length_cons,List.length_nil]; omega
     ·rw [show m-1+1=m by omega,<- tot,Sw.flowF_succ,if_neg ce,if_neg he,List.append_assoc]
      rfl
  walk_at "rd"
  by_cases he:Sw.hdP (fsOf qs ts) mo ma = []
  ·refine ⟨false,.inl ⟨_,.of hh7,by rw [he]; rfl⟩,?_⟩
   rw [if_neg (by decide)]
   refine next es H7 s7 hh7 ?_
   have e:Sw.chA (fsOf qs ts) mo ma=Sw.chs (fsOf qs ts) mo:=by unfold Sw.chA; rw [if_pos he,List.append_nil]
   rw [e]
   exact L
  ·refine ⟨true,.inl ⟨_,.of hh7,?_⟩,?_⟩
   ·cases e:Sw.hdP (fsOf qs ts) mo ma with
    | nil=>exact absurd e he
    | cons y r=>rfl
   rw [if_pos rfl]
   obtain ⟨S1,S2,S3,S4⟩:=ok.shB he
   have zS:Sw.Sz 200 (Sw.shP (fsOf qs ts) (Sw.hdP (fsOf qs ts) mo ma)):=Sw.Sz.r60 (by omega) (by omega)
   refine ⟨zdk L.hl,tl,tp,ts,h,_,_,pm,pk,mo,ma,Sw.enP (fsOf qs ts),rfl,(TL.same sm).same s7,hh7,he,slen,fun i hi=>?_,s7 _ _ hm,s7 _ _ hk,zmo,zma,zS,((st.way ok he).2.2.2).mono (by decide),(st.zway ok he).mono (by decide),fun r H8 s8 hr8=>?_⟩
   ·obtain ⟨q,t,e1,e2,e3⟩:=get i (hdi hi)
    refine ⟨t,e2,(Sw.enP_at e3).symm,?_⟩
    rw [Sw.enP_at e3]
    exact ((ok.szt (List.mem_of_getElem? e3)).2).mono (by decide)
   have L8:Lst fq H8 Cl es (Sw.chs (fsOf qs ts) mo):=⟨s8 _ _ L.hl,zcl L.r s8⟩
   refine zgc L8.hl (by rw [List.length_map]; omega) ?_
   have kt:∀ b xs,H8 b=some (.tup xs)->upd H8 Cl (.lst (es.map V.ref++[.ref r])) b=some (.tup xs):=fun b xs e=>by
    rw [zai (ne_of e L8.hl (by intro z; cases z))]; exact e
   refine next (es++[r]) _ (fun b o e=>?_) ?_ ⟨?_,?_⟩
   ·rw [zai (zah e nCl)]; exact s8 _ _ (s7 _ _ e)
   ·have nhC:h≠Cl:=fun z=>by rw [<- z] at hCl; rw [hh] at hCl; cases hCl
    rw [zai nhC]; exact s8 _ _ hh7
   ·rw [zab,List.map_append]; rfl
   ·have e:Sw.chA (fsOf qs ts) mo ma=Sw.chs (fsOf qs ts) mo++[Sw.fst1 (fsOf qs ts) mo ma]:=by unfold Sw.chA; rw [if_neg he]
    rw [e]
    exact zdw (kt _ _ hr8) (zcm L8.r kt)
theorem zmw {kvs:List (Key×V)} {k:Key} {v:V}:(putK kvs k v).length<=kvs.length+1:=by
 unfold putK
 split
 ·rw [List.length_map]; omega
 ·rw [List.length_append]; simp
def zvo:Sp:=fun vs H Q _=>∃ n M a c l ps qs,vs = [.ref l]/\Row H l ps qs/\Sw.Fit n M a c/\qs.length<=n/\(∀ q∈qs,Sw.PcOk M q)/\qs.Pairwise (fun a b=>a.1<=b.1)/\∀ tl tp H',Same H H'->H tl=none->TgL H' tl tp (Sw.spansF (Sw.endsF (Sw.flowF (fsOf qs (Sw.Ti.nil.tags qs)) (2*n+1) 0 0)) 0 (fun _=>none) qs)->Q (.ref tl) H'
theorem zrf (T:Txt K mg c_NoRatio c_Tide c_Wheel):Def P w K mg base (CXX P w) 8 "spans" ["row"] zvo:=by
 have D_flow:=zxv (P:=P) (w:=w) (base:=base) T
 have D_greater:=zlq (P:=P) (w:=w) (base:=base) T
 refine T.src_spans.okN (k:=7) sc_spans (fun vs H Q E h=>?_) (fun f cdv A outer s H vs Q E hr h=>?_)
 ·obtain ⟨n,M,a,c,l,ps,qs,rfl,_⟩:=h
  rfl
 ·obtain ⟨n,M,a,c,l,ps,qs,rfl,R0,F,hn,hq,hp,k⟩:=h
  refine ⟨_,(zac (zal (i:=1) sc_spans.nd rfl zgf) (zac (zdq PassesOwn.never rfl (zav K rfl (zao D_flow (hr.mono (by decide)) rfl passN (zaa (pv 0) zae))) (zci (n:=3) K rfl rfl (zat (zap (i:=2) sc_spans.nd rfl (by first|left;rfl|right;rfl)) (zat (zap (i:=3) sc_spans.nd rfl (by first|left;rfl|right;rfl)) (zat (zap (i:=4) sc_spans.nd rfl (by first|left;rfl|right;rfl)) zcf)))) (zan (zdq PassesOwn.never rfl (zav K rfl (pv 4)) (zci (n:=2) K rfl rfl (zat (zap (i:=5) sc_spans.nd rfl (by first|left;rfl|right;rfl)) (zat (zap (i:=6) sc_spans.nd rfl (by first|left;rfl|right;rfl)) zcf))) (zan (zid (hu_of hr) (pv 1) (pv 5) (pv 3) rfl))))) (zac (zal (i:=7) sc_spans.nd rfl zgf) (zac (zal (i:=8) sc_spans.nd rfl (zbw zae)) (zac (zdq PassesOwn.never rfl (zke K rfl rfl T.no_enumerate (zaa (pv 0) zae)) (zci (n:=2) K rfl rfl (zat (zap (i:=5) sc_spans.nd rfl (by first|left;rfl|right;rfl)) (zat (zap (i:=9) sc_spans.nd rfl (by first|left;rfl|right;rfl)) zcf))) (zac (zal (i:=10) sc_spans.nd rfl (zao D_greater (hr.mono (by decide)) rfl passN (zaa (zcg (zaa (pe_ix (zam K rfl) (pv 9) zaj (fun _ _=>rfl)) (zaa zaj zae))) (zaa (zkh (hu_of hr) (pv 7) (pe_ix (zam K rfl) (pv 9) zaj (fun _ _=>rfl)) (zcg (zaa zaj (zaa zaj zae))) ⟨rfl,rfl,rfl,rfl⟩) zae)))) (zac (zal (i:=3) sc_spans.nd rfl (zkh (hu_of hr) (pv 1) (pv 5) (pv 10) ⟨rfl,rfl,rfl,rfl⟩)) (zac (zid (hu_of hr) (pv 7) (pe_ix (zam K rfl) (pv 9) zaj (fun _ _=>rfl)) (pv 3) rfl) (zan (zbj (pe_bm PySem.F.plainAttrs_list PySem.F.slot_list_append PySem.F.type_list_append zaz (pv 8) (zaa (zcg (zaa (pv 10) (zaa (pv 3) zae))) zae)))))))) (zan (zay (pv 8)))))))),?_⟩
  show tSeq _ _ _ [some (.ref l),none,none,none,none,none,none,none,none,none,none] H
  obtain ⟨D,ok⟩:=Sw.fs_ok F hn hq hp
  have n6:=F.n1
  have len:=R0.r.len
  have fz:=Sw.flow_sz ok (k:=2*n+1) (.start ok)
  have fl:=Sw.flowF_len (fs:=fsOf qs (Sw.Ti.nil.tags qs)) (n:=2*n+1) (mo:=0) (ma:=0)
  have big:120*62+100<sizeLine:=by decide
  refine zad fun R hR=>?_
  walk_at "rd"
  intro pd hpd
  refine hR _ _ ?_
  have n0:=zaf (o:=.dK []) hpd
  have hd0:upd H pd (.dK []) pd=some (.dK []):=zab
  generalize upd H pd (.dK [])=H0 at n0 hd0 ⊢
  refine zad fun R hR=>?_
  refine zbo fun Z hZ=>?_
  walk_at "rd"
  refine ⟨n,M,a,c,l,ps,qs,rfl,R0.same n0,F,hn,hq,hp,fun sl sp H1 s1 SL=>?_⟩
  generalize Sw.flowF (fsOf qs (Sw.Ti.nil.tags qs)) (2*n+1) 0 0=xs at k fz fl SL ⊢
  have xl:=Paired.length SL.r
  have hd1:=s1 _ _ hd0
  have s1:=n0.trans s1
  refine ⟨sl,rfl,⟨_,.of SL.hl⟩,hZ _ _ ?_⟩
  refine zdp (K:=K) (a:=sl) (xs:=sp.map V.ref) (fun i σ H'=>∃ v2 v3 v4 v5 v6 kvs,σ = [some (.ref l),some (.ref pd),v2,v3,v4,v5,v6,none,none,none,none]/\(∀ b o,b≠pd->H1 b=some o->H' b=some o)/\H' pd=some (.dK kvs)/\EnAt H' kvs (Sw.endsF (xs.take i))/\kvs.length<=60*i) ⟨none,none,none,none,none,[],rfl,fun _ _ _ e=>e,hd1,fun w=>.inl ⟨rfl,rfl⟩,Nat.zero_le _⟩ (fun i σ H' _ ⟨_,_,_,_,_,_,_,kp,_⟩=>.of (kp _ _ (ne_of SL.hl hd1 (by intro z; cases z)) SL.hl)) ?_ ?_
  ·rintro i y σ H2 hy ⟨v2,v3,v4,v5,v6,kvs,rfl,kp,hd,ea,lk⟩
   obtain ⟨p,hpi,rfl⟩:∃ p,sp[i]? = some p/\V.ref p=y:=by simpa using hy
   obtain ⟨x,hx,⟨pf,pt,pl,es,g1,g2,g3,g4,g5⟩,nl⟩:=zbe SL.r hpi
   have hi:i<sp.length:=(List.getElem?_eq_some_iff.mp hpi).1
   obtain ⟨zx,lx⟩:=fz x (List.mem_of_getElem? hx)
   have el:=Paired.length g5
   have tk:∀ b zs,H1 b=some (.tup zs)->b≠pd:=fun b zs e=>ne_of e hd1 (by intro z; cases z)
   refine ⟨p,_,rfl,.of (kp _ _ (tk _ _ g1) g1),rfl,?_⟩
   walk_at "rd"
   refine zbo fun Z' hZ'=>?_
   walk_at "rd"
   have npl:pl≠pd:=ne_of g4 hd1 (by intro z; cases z)
   refine ⟨⟨_,.of (kp _ _ npl g4)⟩,hZ' _ _ ?_⟩
   rw [take_succ_of hx,Sw.endsF_snoc]
   refine zdp (K:=K) (a:=pl) (xs:=es.map V.ref) (fun j σ H'=>∃ v5 v6 kvs,σ = [some (.ref l),some (.ref pd),some (.ref pf),some (.ref pt),some (.ref pl),v5,v6,none,none,none,none]/\(∀ b o,b≠pd->H1 b=some o->H' b=some o)/\H' pd=some (.dK kvs)/\EnAt H' kvs (Sw.putP (Sw.endsF (xs.take i)) x.2.1 (x.2.2.take j))/\kvs.length<=60*i+j) ⟨v5,v6,kvs,rfl,kp,hd,ea,by omega⟩ (fun j σ H' _ ⟨_,_,_,_,kp,_⟩=>.of (kp _ _ npl g4)) ?_ ?_
   ·rintro j y' σ H3 hy' ⟨v5,v6,kvs,rfl,kp,hd,ea,lk⟩
    obtain ⟨w,hw,rfl⟩:∃ w,es[j]? = some w/\V.ref w=y':=by simpa using hy'
    obtain ⟨z,hz,pr,e1,e2⟩:=zbe g5 hw
    have hj:j<es.length:=(List.getElem?_eq_some_iff.mp hw).1
    refine ⟨w,_,rfl,.of (kp _ _ (tk _ _ e1) e1),rfl,?_⟩
    walk_at "rd"
    refine ⟨_,DPut.k (k:=Sum.inl (z.1:Int)) hd (by omega),?_⟩
    have nt:∀ b zs,H3 b=some (.tup zs)->upd H3 pd (.dK (putK kvs (Sum.inl (z.1:Int):Key) (.ref pt))) b=some (.tup zs):=fun b zs e=>by
     rw [zai (ne_of e hd (by intro z; cases z))]; exact e
    have pe:=(ea.put (w:=(z.1:Int)) (e:=x.2.1) (kp _ _ (tk _ _ g3) g3)).keep nt
    have lp:=zmw (kvs:=kvs) (k:=(Sum.inl (z.1:Int):Key)) (v:=.ref pt)
    refine ⟨fun b o n e=>?_,_,zab,?_,?_⟩
    ·rw [zai n]; exact kp b o n e
    ·rw [take_succ_of hz,Sw.putP_snoc]
     exact pe
    ·omega
   ·rintro σ H3 ⟨v5,v6,kvs,rfl,kp,hd,ea,lk⟩
    rw [List.take_of_length_le (l:=x.2.2) (by rw [List.length_map]; omega)] at ea
    rw [List.length_map] at lk
    exact ⟨⟨_,_,_,_,_,rfl⟩,kp,kvs,hd,ea,by omega⟩
  ·rintro σ H2 ⟨v2,v3,v4,v5,v6,kvs,rfl,kp,hd,ea,lk⟩
   rw [List.length_map] at lk
   rw [List.take_of_length_le (by rw [List.length_map]; omega)] at ea
   refine hR _ _ ?_
   have s2:Same H H2:=fun b o e=>kp _ _ (zah e hpd) (s1 _ _ e)
   have ez:∀ w e,Sw.endsF xs w=some e->Sw.SzQ 2400 e:=fun w e h=>by
    obtain ⟨x,hx,e1⟩:=Sw.endsF_mem h
    rw [e1]
    exact ((fz x hx).1).mono (by decide)
   clear kp fz SL xl hd1
   generalize Sw.endsF xs=en at k ea ez
   refine zad fun R hR=>?_
   walk_at "rd"
   intro pa hpa
   refine hR _ _ ?_
   refine zad fun R hR=>?_
   walk_at "rd"
   intro tl htl
   refine hR _ _ ?_
   have m1:=zaf (o:=.dK []) hpa
   have m2:=zaf (o:=.lst []) htl
   have hpa':upd (upd H2 pa (.dK [])) tl (.lst []) pa=some (.dK []):=m2 _ _ zab
   have htl':upd (upd H2 pa (.dK [])) tl (.lst []) tl=some (.lst []):=zab
   have ntl:H2 tl=none:=m1.free htl
   have npt:pa≠tl:=zah (zab (H:=H2) (o:=.dK [])) htl
   have s3:=m1.trans m2
   generalize upd (upd H2 pa (.dK [])) tl (.lst [])=H3 at s3 hpa' htl' ⊢
   clear m1 m2 htl
   refine zad fun R hR=>?_
   refine zbo fun Z hZ=>?_
   walk_at "rd"
   refine ⟨⟨_,.of (R0.same (s2.trans s3)).hl⟩,hZ _ _ ?_⟩
   refine zkd (xs:=ps.map V.ref) (fun i σ H'=>∃ v3 v5 v9 v10 ka tp,σ = [some (.ref l),some (.ref pd),v2,v3,v4,v5,v6,some (.ref pa),some (.ref tl),v9,v10]/\Same H2 H'/\H' pa=some (.dK ka)/\EnAt H' ka (Sw.aheadF en 0 (fun _=>none) (qs.take i))/\(∀ w e,Sw.aheadF en 0 (fun _=>none) (qs.take i) w=some e->Sw.SzQ 2400 e)/\TgL H' tl tp (Sw.spansF en 0 (fun _=>none) (qs.take i))/\ka.length<=i/\tp.length=i) ⟨_,_,none,none,[],[],rfl,s3,hpa',fun w=>.inl ⟨rfl,rfl⟩,(fun w e h=>by cases h),⟨htl',.nil⟩,Nat.zero_le _,rfl⟩ (fun i σ H' _ ⟨_,_,_,_,_,_,_,sm,_⟩=>.of (sm _ _ (R0.same s2).hl)) ?_ ?_
   ·rintro i y σ H4 p hy ⟨v3',v5',v9,v10,ka,tp,rfl,sm,ha,ah,az,TL,lk',lt⟩ hp'
    obtain ⟨pp,hpp,rfl⟩:∃ p,ps[i]? = some p/\V.ref p=y:=by simpa using hy
    obtain ⟨q,hqi,hqp⟩:=(R0.same s2).r.get hpp
    have hi:i<qs.length:=(List.getElem?_eq_some_iff.mp hqi).1
    obtain ⟨q0,q1,_⟩:=hq q (List.mem_of_getElem? hqi)
    have et:=take_succ_of hqi
    have itk:(qs.take i).length=i:=by rw [List.length_take]; omega
    have e1:=Sw.spansF_snoc (en:=en) (i:=0) (ah:=fun _=>none) (l:=qs.take i) (q:=q)
    have e2:=Sw.aheadF_snoc (en:=en) (i:=0) (ah:=fun _=>none) (l:=qs.take i) (q:=q)
    rw [itk,Nat.zero_add] at e1 e2
    have sn:=zaf (o:=.tup [.int i,.ref pp]) hp'
    have sm:=sm.trans sn
    have ha:=sn _ _ ha
    have ah:=ah.keep fun _ _ e=>sn _ _ e
    have TL:=TL.same sn
    refine ⟨p,_,rfl,.of zab,rfl,?_⟩
    generalize upd H4 p (.tup [.int i,.ref pp])=H5 at sm ha ah TL ⊢
    clear sn hp'
    rw [et,e1,e2]
    generalize Sw.aheadF en 0 (fun _=>none) (qs.take i)=ahd at ah az ⊢
    generalize Sw.spansF en 0 (fun _=>none) (qs.take i)=sps at TL ⊢
    clear e1 e2
    walk_at "rd"
    refine zad fun R hR=>?_
    walk_at "rd"
    refine zaq (.of (sm _ _ hqp)) rfl ?_
    walk_at "rd"
    intro y1 f1
    have m1:=zaf (o:=.tup [.int q.1,.int 1]) f1
    refine ⟨.inl ⟨ka,.inl (m1 _ _ ha)⟩,zaq (.of (m1 _ _ (sm _ _ hqp))) rfl ?_⟩
    intro y2 f2
    have m2:=zaf (o:=.tup [.int 0,.int 1]) f2
    have m12:=m1.trans m2
    refine ⟨_,DGet.k (k:=Sum.inl q.2.1) (m12 _ _ ha),?_⟩
    obtain ⟨qe,ev,hqe,hev,eev,zev⟩:∃ qa e,(valV ka (Sum.inl q.2.1:Key)).getD (.ref y2) = .ref qa/\upd (upd H5 y1 (.tup [.int q.1,.int 1])) y2 (.tup [.int 0,.int 1]) qa=some (.tup (fq e))/\(ahd q.2.1).getD 0=e/\Sw.SzQ 2400 e:=by
     rcases ah q.2.1 with ⟨h1,h2⟩ | ⟨e,qa,h1,h2,h3⟩
     ·rw [h1,h2]
      exact ⟨y2,0,rfl,zfs (n:=0),rfl,(Sw.SzQ.int (n:=0) (Sw.Sz.zero 200)).mono (by decide)⟩
     ·rw [h1,h2]
      exact ⟨qa,e,rfl,m12 _ _ h3,rfl,az _ _ h1⟩
    rw [hqe]
    refine ⟨y1,qe,(q.1:Rat),ev,rfl,m2 _ _ zfs,hev,(zlk q0 q1).mono (by decide),zev.mono (by decide),fun b fb=>hR _ _ ?_⟩
    have ebeg:max (q.1:Rat) ev=Sw.begF ahd q:=by unfold Sw.begF; rw [eev]
    have zb:Sw.SzQ 2400 (Sw.begF ahd q):=by
     rw [<- ebeg,Rat.max_def]
     split
     ·exact zev
     ·exact (zlk q0 q1).mono (by decide)
    rw [ebeg]
    have m3:=zaf (o:=.tup (fq (Sw.begF ahd q))) fb
    have m123:=m12.trans m3
    have hb:upd (upd (upd H5 y1 (.tup [.int q.1,.int 1])) y2 (.tup [.int 0,.int 1])) b (.tup (fq (Sw.begF ahd q))) b=some (.tup (fq (Sw.begF ahd q))):=zab
    have sm:=sm.trans m123
    have ha:=m123 _ _ ha
    have ah:=ah.keep fun _ _ e=>m123 _ _ e
    have TL:=TL.same m123
    generalize upd (upd (upd H5 y1 (.tup [.int q.1,.int 1])) y2 (.tup [.int 0,.int 1])) b (.tup (fq (Sw.begF ahd q)))=H6 at hb sm ha ah TL ⊢
    clear m1 m2 m12 m3 m123 f1 f2 fb hev
    refine zad fun R hR=>?_
    walk_at "rd"
    have hd6:=sm _ _ hd
    refine ⟨.inl ⟨kvs,.inl hd6⟩,⟨_,DGet.k (k:=Sum.inl (i:Int)) hd6,?_⟩⟩
    obtain ⟨qz,evz,hqz,hez,eez,zez⟩:∃ qa e,(valV kvs (Sum.inl (i:Int):Key)).getD (.ref b) = .ref qa/\H6 qa=some (.tup (fq e))/\(en (i:Int)).getD (Sw.begF ahd q)=e/\Sw.SzQ 2400 e:=by
     rcases ea (i:Int) with ⟨h1,h2⟩ | ⟨e,qa,h1,h2,h3⟩
     ·rw [h1,h2]
      exact ⟨b,_,rfl,hb,rfl,zb⟩
     ·rw [h1,h2]
      exact ⟨qa,e,rfl,sm _ _ h3,rfl,ez _ _ h1⟩
    rw [hqz]
    refine hR _ _ ?_
    refine zad fun R hR=>?_
    walk_at "rd"
    refine zaq (.of (sm _ _ hqp)) rfl ?_
    refine ⟨_,DPut.k (k:=Sum.inl q.2.1) ha (line_lt (by omega)),hR _ _ ?_⟩
    have nt:∀ b zs,H6 b=some (.tup zs)->upd H6 pa (.dK (putK ka (Sum.inl q.2.1:Key) (.ref qz))) b=some (.tup zs):=fun b zs e=>by
     rw [zai (ne_of e ha (by intro z; cases z))]; exact e
    have nl:∀ b zs,H6 b=some (.lst zs)->upd H6 pa (.dK (putK ka (Sum.inl q.2.1:Key) (.ref qz))) b=some (.lst zs):=fun b zs e=>by
     rw [zai (ne_of e ha (by intro z; cases z))]; exact e
    have ah7:=(ah.put (w:=q.2.1) (e:=evz) hez).keep nt
    have TL7:TgL (upd H6 pa (.dK (putK ka (Sum.inl q.2.1:Key) (.ref qz)))) tl tp sps:=⟨nl _ _ TL.hl,Paired.mapP TL.r fun _ _ z=>z.keep nt⟩
    have sm7:Same H2 (upd H6 pa (.dK (putK ka (Sum.inl q.2.1:Key) (.ref qz)))):=fun b o e=>by
     rw [zai (zah e hpa)]; exact sm _ _ e
    have lp:=zmw (kvs:=ka) (k:=(Sum.inl q.2.1:Key)) (v:=.ref qz)
    have ha7:upd H6 pa (.dK (putK ka (Sum.inl q.2.1:Key) (.ref qz))) pa=some (.dK (putK ka (Sum.inl q.2.1:Key) (.ref qz))):=zab
    have hb7:=nt _ _ hb
    have hz7:=nt _ _ hez
    have az7:∀ w e,setE ahd q.2.1 evz w=some e->Sw.SzQ 2400 e:=fun w e h=>by
     unfold setE at h
     split at h
     ·cases h; exact zez
     ·exact az _ _ h
    generalize upd H6 pa (.dK (putK ka (Sum.inl q.2.1:Key) (.ref qz)))=H7 at ah7 TL7 sm7 ha7 hb7 hz7 ⊢
    clear nt nl ah az TL sm ha hb hez
    rw [eez]
    refine zby fun R hR=>?_
    walk_at "rd"
    refine ⟨zdk TL7.hl,fun t ft=>?_⟩
    have m1:=zaf (o:=.tup [.ref b,.ref qz]) ft
    refine zgc (m1 _ _ TL7.hl) (by rw [List.length_map]; omega) (hR _ _ ?_)
    have kt:∀ c zs,upd H7 t (.tup [.ref b,.ref qz]) c=some (.tup zs)->upd (upd H7 t (.tup [.ref b,.ref qz])) tl (.lst (tp.map V.ref++[.ref t])) c=some (.tup zs):=fun c zs e=>by
     rw [zai (ne_of e (m1 _ _ TL7.hl) (by intro z; cases z))]; exact e
    have kd:∀ c zs,upd H7 t (.tup [.ref b,.ref qz]) c=some (.dK zs)->upd (upd H7 t (.tup [.ref b,.ref qz])) tl (.lst (tp.map V.ref++[.ref t])) c=some (.dK zs):=fun c zs e=>by
     rw [zai (ne_of e (m1 _ _ TL7.hl) (by intro z; cases z))]; exact e
    have S:Same H2 (upd (upd H7 t (.tup [.ref b,.ref qz])) tl (.lst (tp.map V.ref++[.ref t]))):=fun c o e=>by
     rw [zai (zah e ntl)]; exact m1 _ _ (sm7 _ _ e)
    have TL8:TgL (upd (upd H7 t (.tup [.ref b,.ref qz])) tl (.lst (tp.map V.ref++[.ref t]))) tl (tp++[t]) (sps++[(Sw.begF ahd q,evz)]):=⟨by rw [zab,List.map_append]; rfl,paired_snoc ⟨b,qz,kt _ _ zab,kt _ _ (m1 _ _ hb7),kt _ _ (m1 _ _ hz7)⟩ (Paired.mapP (TL7.same m1).r fun _ _ z=>z.keep kt)⟩
    exact ⟨⟨_,_,_,_,rfl⟩,S,_,kd _ _ (m1 _ _ ha7),(ah7.keep fun _ _ e=>m1 _ _ e).keep kt,az7,tp++[t],TL8,by omega,by rw [List.length_append]; simp [lt]⟩
   ·rintro σ H4 ⟨v3',v5',v9,v10,ka,tp,rfl,sm,ha,ah,az,TL,lk',lt⟩
    refine hR _ _ ?_
    walk_at "rd"
    refine k tl tp H4 (s2.trans sm) (s2.free ntl) ?_
    rw [List.take_of_length_le (by rw [List.length_map]; omega)] at TL
    exact TL
theorem zcy {n:Nat} (h:n<=1000000):n<sizeLine:=by rw [sizeLine_eq]; omega
theorem zds {n:Nat} (h:n<=1000000):n<=sizeLine:=Nat.le_of_lt (zcy h)
def spFO:Sp:=fun vs H Q _=>∃ n:Nat,vs = [.int (n:Int)]/\n<2 ^ 5000/\∀ H',Same H H'->Q (.str (Sw.numS (n:Int))) H'
theorem zrg {n:Nat} (h:n<10 ^ 60):(n:Int).natAbs.log2<1920:=by
 have h1:n<2 ^ 200:=Nat.lt_trans h (by decide)
 show n.log2<1920
 by_cases z:n = 0
 ·rw [z]; decide
 ·exact Nat.lt_trans ((Nat.log2_lt z).mpr h1) (by decide)
theorem zvp {n:Nat} (h:n<10 ^ 60):(Sw.numS (n:Int)).length<=60:=PyProof.Rows.toString_length_le (Int.natCast_nonneg n) (by decide) (by exact_mod_cast h)
theorem zxw {n:Nat} (h:n<10 ^ 60):(Txt.zfill (Sw.numS (n:Int)) 60).length<=60:=by
 have hl:(Sw.dg n).length<=60:=toDigits_len_pow (by decide) (by decide) h
 rw [<- Sw.len_list,Sw.zfill_num h,List.length_map]
 unfold Sw.padD
 rw [List.length_append,List.length_replicate]
 omega
theorem zxx {m l:Nat} (h:m*2 ^ (199*l)<2 ^ 5000) (h1:l = 0\/1<=m):l<=25:=by
 rcases h1 with h1 | h1
 ·omega
 ·have h2:2 ^ (199*l)<2 ^ 5000:=Nat.lt_of_le_of_lt (Nat.le_mul_of_pos_left _ h1) h
  have:=(Nat.pow_lt_pow_iff_right (by decide)).mp h2
  omega
theorem zlu (T:Txt K mg c_NoRatio c_Tide c_Wheel):Def P w K mg base (CXX P w) 1 "figures_of" ["number"] spFO:=by
 refine T.src_figures_of.okN (k:=0) sc_figures_of (fun vs H Q E h=>?_) (fun f cdv A outer s H vs Q E hr h=>?_)
 ·obtain ⟨n,rfl,_⟩:=h
  rfl
 ·obtain ⟨n,rfl,hn,k⟩:=h
  refine ⟨_,(zac (zal (i:=1) sc_figures_of.nd rfl (pe_op zja zaj zaj)) (zac (zal (i:=2) sc_figures_of.nd rfl (zbw zae)) (zac (zfk PassesOwn.never (zcb op_ge (pv 0) (pv 1) (zcp _)) (zac (zbj (pe_bm PySem.F.plainAttrs_list PySem.F.slot_list_append PySem.F.type_list_append zaz (pv 2) (zaa (pe_bm PySem.F.plainAttrs_str PySem.F.slot_str_zfill PySem.F.type_str_zfill zsd (zbg zbq rfl T.no_str boot_str (zaa (pe_op zeg (pv 0) (pv 1)) zae)) (zaa zaj zae)) zae))) (zan (zal (i:=0) sc_figures_of.nd rfl (pe_op znd (pv 0) (pv 1)))))) (zac (zbj (pe_bm PySem.F.plainAttrs_list PySem.F.slot_list_append PySem.F.type_list_append zaz (pv 2) (zaa (zbg zbq rfl T.no_str boot_str (zaa (pv 0) zae)) zae))) (zan (zay (zok K rfl rfl T.no_reversed zce (zaa (pv 2) zae)))))))),?_⟩
  show tSeq _ _ _ [some (.int (n:Int)),none,none] H
  refine zad fun R hR=>?_
  walk_at "rd"
  refine hR _ _ ?_
  clear hR
  refine zad fun R hR=>?_
  walk_at "rd"
  intro l hl
  refine hR _ _ ?_
  clear hR
  have s1:=zaf (o:=.lst []) hl
  have h1:upd H l (.lst []) l=some (.lst (([]:List Str).map V.str)):=zab
  generalize upd H l (.lst [])=H1 at s1 h1 ⊢
  refine zad fun R hR=>?_
  refine zkx (fun σ H'=>∃ (m:Nat) (ws:List Str),σ = [some (.int (m:Int)),some (.int 1000000000000000000000000000000000000000000000000000000000000),some (.ref l)]/\Same H H'/\H' l=some (.lst (ws.map V.str))/\Sw.numS (n:Int)=Sw.numS (m:Int)++Txt.join (Str.ofString "") ws.reverse/\m*2 ^ (199*ws.length)<2 ^ 5000/\(ws.length = 0\/1<=m)/\∀ z∈ws,z.length<=60)
   (fun σ _=>match σ with | [some (.int m),_,_]=>m.toNat | _=>0) ⟨n,[],rfl,s1,h1,by rw [List.reverse_nil,Sw.join0_nil,Sw.app_empty],by simpa using hn,.inl rfl,fun z h=>absurd h List.not_mem_nil⟩ ?_
  rintro σ H' ⟨m,ws,rfl,sm,hw,en,hm,h0,aw⟩
  have lw:=zxx hm h0
  refine ⟨decide ((1000000000000000000000000000000000000000000000000000000000000:Int)<=(m:Int)),fun Q hQ=>?_,fun hb=>?_,fun hb=>hR _ _ ?_⟩
  ·walk_at "rd"
   exact hQ
  ·have hb:(1000000000000000000000000000000000000000000000000000000000000:Int)<=(m:Int):=by simpa using hb
   have hb:10 ^ 60<=m:=by omega
   clear hR
   refine zby fun N hN=>?_
   refine zad fun R hR=>?_
   walk_at "rd"
   have er:(m:Int) % 1000000000000000000000000000000000000000000000000000000000000=((m % 10 ^ 60:Nat):Int):=by omega
   have eq:(m:Int) / 1000000000000000000000000000000000000000000000000000000000000=((m / 10 ^ 60:Nat):Int):=by omega
   have hr60:m % 10 ^ 60<10 ^ 60:=Nat.mod_lt _ (by decide)
   rw [er]
   refine ⟨zdk hw,_,rfl,zrg hr60,rfl,_,60,rfl,rfl,Sw.padOk (n:=60) (by decide),l,_,_,rfl,rfl,hw,zcy (by rw [List.length_map]; omega),hR _ _ ?_⟩
   clear hR
   walk_at "rd"
   rw [eq]
   have hq0:0<m / 10 ^ 60:=Nat.div_pos hb (by decide)
   have hdm:10 ^ 60*(m / 10 ^ 60)+m % 10 ^ 60=m:=Nat.div_add_mod m (10 ^ 60)
   have hsp:=Sw.num_split hq0 hr60
   rw [hdm] at hsp
   refine hN _ _ ⟨⟨m / 10 ^ 60,ws++[Txt.zfill (Sw.numS ((m % 10 ^ 60:Nat):Int)) 60],rfl,fun b o e=>?_,?_,?_,?_,.inr hq0,fun z hz=>?_⟩,?_⟩
   ·rw [zai (zah e hl)]; exact sm _ _ e
   ·rw [zab,List.map_append]; rfl
   ·rw [List.reverse_append]
    show _ = _++Txt.join (Str.ofString "") (Txt.zfill (Sw.numS ((m % 10 ^ 60:Nat):Int)) 60 :: ws.reverse)
    rw [Sw.join0_cons,<- Sw.app_assoc,<- hsp,en]
   ·rw [List.length_append]
    show m / 10 ^ 60*2 ^ (199*(ws.length+1)) < _
    refine Nat.lt_of_le_of_lt ?_ hm
    rw [Nat.mul_add,Nat.mul_one,Nat.pow_add,Nat.mul_comm (2 ^ (199*ws.length)),<- Nat.mul_assoc]
    refine Nat.mul_le_mul_right _ ?_
    have h199:2 ^ 199<=10 ^ 60:=by decide
    exact Nat.le_trans (Nat.mul_le_mul_left _ h199) (Nat.div_mul_le_self m (10 ^ 60))
   ·rcases List.mem_append.mp hz with hz | hz
    ·exact aw z hz
    ·rw [List.mem_singleton.mp hz]
     exact zxw hr60
   ·show (((m / 10 ^ 60:Nat):Int)).toNat<((m:Int)).toNat
    rw [Int.toNat_natCast,Int.toNat_natCast]
    exact Nat.div_lt_self (by omega) (by decide)
  ·have hb:¬ ((1000000000000000000000000000000000000000000000000000000000000:Int)<=(m:Int)):=by simpa using hb
   have hb:m<10 ^ 60:=by omega
   clear hR
   refine zad fun R hR=>?_
   walk_at "rd"
   refine ⟨zdk hw,_,rfl,zrg hb,l,_,_,rfl,rfl,hw,zcy (by rw [List.length_map]; omega),hR _ _ ?_⟩
   clear hR
   walk_at "rd"
   simp only [znq]
   walk_at "rd"
   refine ⟨ws++[Sw.numS (m:Int)],by rw [zab,List.map_append]; rfl,Sw.join_ok (m:=60) (fun z hz=>?_) (by decide) (by rw [List.length_reverse,List.length_append]; show ws.length+1<=200; omega) (by decide +kernel),?_⟩
   ·rcases List.mem_append.mp (List.mem_reverse.mp hz) with hz | hz
    ·exact aw z hz
    ·rw [List.mem_singleton.mp hz]
     exact zvp hb
   ·rw [List.reverse_append]
    show Q (.str (Txt.join (Str.ofString "") (Sw.numS (m:Int) :: ws.reverse))) _
    rw [Sw.join0_cons,<- en]
    exact k _ fun b o e=>by rw [zai (zah e hl)]; exact sm _ _ e
theorem znw {n:Nat} (h:n<2 ^ 5000):(Sw.numS (n:Int)).length<=1667:=by
 refine PyProof.Rows.toString_length_le (Int.natCast_nonneg n) (by decide) ?_
 have h1:2 ^ 5000<=10 ^ 1667:=by
  have e:(2 ^ 3) ^ 1667 = 2 ^ (3*1667):=(Nat.pow_mul 2 3 1667).symm
  have h2:2 ^ 5000<=2 ^ (3*1667):=Nat.pow_le_pow_right (by decide) (by decide)
  rw [<- e] at h2
  exact Nat.le_trans h2 (Nat.pow_le_pow_left (by decide) _)
 have h3:n<10 ^ 1667:=Nat.lt_of_lt_of_le h h1
 exact_mod_cast h3
def spShF (K:PySem.W.Frag):Sp:=fun vs H Q _=>∃ (t:Addr) (n d:Int),vs = [.ref t]/\SqT K H t [.int n,.int d]/\n.natAbs<2 ^ 5000/\0<=d/\d<2 ^ 5000/\∀ H',Same H H'->Q (.str (Sw.fracS (n,d))) H'
theorem zfj (T:Txt K mg c_NoRatio c_Tide c_Wheel):Def P w K mg base (CXX P w) 2 "show_fraction" ["one"] (spShF K):=by
 have D_figures_of:=zlu (P:=P) (w:=w) (base:=base) T
 refine T.src_show_fraction.okN (k:=1) sc_show_fraction (fun vs H Q E h=>?_) (fun f cdv A outer s H vs Q E hr h=>?_)
 ·obtain ⟨t,n,d,rfl,_⟩:=h
  rfl
 ·obtain ⟨t,n,d,rfl,ht,hn,d0,d1,k⟩:=h
  refine ⟨_,(zac (zal (i:=1) sc_show_fraction.nd rfl (zhm (zcb op_lt (pe_ix (zam K rfl) (pv 0) zaj (fun _ _=>rfl)) zaj (zcp _)) zce zce)) (zac (zal (i:=2) sc_show_fraction.nd rfl (pe_op zdv (pv 1) (zao D_figures_of (hr.mono (by decide)) rfl passN (zaa (zbn zjy rfl T.no_abs boot_abs (zaa (pe_ix (zam K rfl) (pv 0) zaj (fun _ _=>rfl)) zae)) zae)))) (zan (zay (zhm (zcb op_eq (pe_ix (zam K rfl) (pv 0) zaj (fun _ _=>rfl)) zaj (zcp _)) (pv 2) (pe_op zdv (pe_op zdv (pv 2) zce) (zao D_figures_of (hr.mono (by decide)) rfl passN (zaa (pe_ix (zam K rfl) (pv 0) zaj (fun _ _=>rfl)) zae)))))))),?_⟩
  show tSeq _ _ _ [some (.ref t),none,none] H
  refine zad fun R hR=>?_
  have ix0:∀ {H'} {Q:VK},Same H H'->Q (.int n) H'->rIxT K (.ref t) (.int 0) H' Q:=fun s q=>zaq (Same.seqT s ht) rfl q
  have ix1:∀ {H'} {Q:VK},Same H H'->Q (.int d) H'->rIxT K (.ref t) (.int 1) H' Q:=fun s q=>zaq (Same.seqT s ht) rfl q
  walk_at "rd"
  have post:∀ sgn:Str,sgn.length<=1->sgn++Sw.numS (n.natAbs:Int)=Sw.numS n->R [some (.ref t),some (.str sgn),none] H:=fun sgn ls es=>by
   refine hR _ _ ?_
   clear hR
   refine zad fun R hR=>?_
   walk_at "rd"
   refine ix0 (Same.refl _) ⟨n,rfl,?_⟩
   have ea:(if n<0 then -n else n)=(n.natAbs:Int):=by split <;> omega
   rw [ea]
   have ln:=znw hn
   refine ⟨_,rfl,hn,fun H1 s1=>⟨_,rfl,zds (by omega),hR _ _ ?_⟩⟩
   clear hR
   rw [es]
   have ln2:(Sw.numS n).length<=1668:=by rw [<- es,Sw.app_len]; omega
   walk_at "rd"
   refine ix1 s1 ⟨rfl,?_⟩
   have k':Q (.str (Sw.fracS (n,d))) H1:=k _ s1
   unfold Sw.fracS at k
   simp only at k
   refine ite2 (fun c=>?_) fun c=>?_
   ·have c:d = 1:=by simpa using c
    rw [if_pos c] at k
    exact k _ s1
   ·have c:d≠1:=by simpa using c
    rw [if_neg c] at k
    obtain ⟨m,rfl⟩:=Int.eq_ofNat_of_zero_le d0
    have hm:m<2 ^ 5000:=by exact_mod_cast d1
    have lm:=znw hm
    have ls:(Sw.numS n++Sw.slash).length=(Sw.numS n).length+1:=Sw.app_len _ _
    have l1:(Str.ofString "/").length = 1:=by decide +kernel
    refine ⟨zds (by omega),ix1 s1 ⟨m,rfl,hm,fun H2 s2=>⟨_,rfl,zds (by show (Sw.numS n++Sw.slash).length + _<=_; omega),k _ (s1.trans s2)⟩⟩⟩
  clear hR
  refine ix0 (Same.refl _) ⟨n,rfl,?_⟩
  split
  ·rename_i hlt
   refine post _ (by decide +kernel) ?_
   have e:n = -(n.natAbs:Int):=by omega
   conv=>rhs; rw [e]
   exact (Sw.num_neg (by omega)).symm
  ·rename_i hlt
   refine post _ (by decide +kernel) ?_
   have e:(n.natAbs:Int)=n:=by omega
   rw [e]
   exact Sw.empty_app _
def WL (H:Hp) (ps:List Addr) (rows:List (List Str)):Prop:=Paired (fun p (r:List Str)=>H p=some (.lst (r.map V.str))) ps rows
structure WRows (H:Hp) (l:Addr) (ps:List Addr) (rows:List (List Str)):Prop where
 hl:H l=some (.lst (ps.map V.ref))
 r:WL H ps rows
 nl:l ∉ ps
theorem WL.same {H H':Hp} {ps:List Addr} {rows:List (List Str)} (h:WL H ps rows) (s:Same H H'):WL H' ps rows:=Paired.mapP h fun _ _ q=>s _ _ q
theorem WRows.same {H H':Hp} {l:Addr} {ps:List Addr} {rows:List (List Str)} (h:WRows H l ps rows) (s:Same H H'):WRows H' l ps rows:=⟨s _ _ h.hl,h.r.same s,h.nl⟩
theorem paired_snoc {α β:Type} {F:α->β->Prop} {x:α} {y:β} (h:F x y):∀ {l₁:List α} {l₂:List β},Paired F l₁ l₂->Paired F (l₁++[x]) (l₂++[y])
 | _,_,Paired.nil=>.cons h .nil
 | _,_,Paired.cons a b=>.cons a (paired_snoc h b)
theorem WRows.snoc {H:Hp} {l p:Addr} {ps:List Addr} {rows:List (List Str)} {r:List Str} (h:WRows H l ps rows) (hp:H p=some (.lst (r.map V.str))) (n:p≠l):WRows (upd H l (.lst (ps.map V.ref++[.ref p]))) l (ps++[p]) (rows++[r]):=by
 refine ⟨by rw [zab,List.map_append]; rfl,paired_snoc (by rw [zai n]; exact hp) ?_,fun z=>?_⟩
 ·have:∀ {qs:List Addr} {rs:List (List Str)},l ∉ qs->WL H qs rs->WL (upd H l (.lst (ps.map V.ref++[.ref p]))) qs rs:=fun {qs rs} hn w=>by
   induction w with
   | nil=>exact .nil
   | cons a b ih =>
    refine .cons ?_ (ih fun z=>hn (List.mem_cons_of_mem _ z))
    rw [zai (fun z=>hn (by rw [z]; simp))]
    exact a
  exact this h.nl h.r
 ·rcases List.mem_append.mp z with z | z
  ·exact h.nl z
  ·exact n (List.mem_singleton.mp z).symm
theorem zju {H:Hp} {l:Addr} {ps:List Addr} {qs:List Q4} {i:Nat} {q:Q4} (R:Row H l ps qs) (h:qs[i]? = some q):∃ p,ps[i]? = some p/\H p=some (.tup (q4 q)):=by
 obtain ⟨p,hp⟩:∃ p,ps[i]? = some p:=⟨_,List.getElem?_eq_getElem (by rw [R.r.len]; exact (List.getElem?_eq_some_iff.mp h).1)⟩
 obtain ⟨q',hq,e⟩:=R.r.get hp
 rw [h] at hq
 cases hq
 exact ⟨p,hp,e⟩
theorem zdt {n:Int} (h0:-1000000000000000000<=n) (h1:n<=1000000000000000000):n.natAbs.log2<1920:=zrg (n:=n.natAbs) (by omega)
theorem ztn {q:Rat} (h:Sw.SzQ 2400 q):q.num.natAbs<2 ^ 5000/\(q.den:Int)<2 ^ 5000:=by
 have e:2 ^ 2400<2 ^ 5000:=Nat.pow_lt_pow_right (by decide) (by decide)
 refine ⟨Nat.lt_trans h.n e,?_⟩
 have:=h.d
 have h2:((q.den:Int)).natAbs<2 ^ 2400:=this
 have h3:q.den<2 ^ 5000:=Nat.lt_trans h2 e
 exact_mod_cast h3
theorem zkn (l:List Nat):l.map natI=(l.map fun i:Nat=>(i:Int)).map V.int:=by rw [List.map_map]; rfl
def spWG:Sp:=fun vs H Q _=>∃ l ps qs ga gs rm n M a c,vs = [.ref l,.ref ga]/\Row H l ps qs/\Sw.Good n M a c qs/\(∀ q∈qs,0<=q.2.1/\q.2.1<=1000)/\H ga=some (.lst (gs.map V.ref))/\TupsF goE H gs (Sw.dealtR rm qs).2.2/\∀ H' wl wp,Same H H'->WRows H' wl wp ((Sw.dealtR rm qs).2.2.map (Sw.rowG n rm qs))->Q (.ref wl) H'
theorem zlv (T:Txt K mg c_NoRatio c_Tide c_Wheel):Def P w K mg base (CXX P w) 9 "words_gone" ["row", "gone"] spWG:=by
 have D_spans:=zrf (P:=P) (w:=w) (base:=base) T
 have D_show_fraction:=zfj (P:=P) (w:=w) (base:=base) T
 refine T.src_words_gone.okN (k:=8) sc_words_gone (fun vs H Q E h=>?_) (fun f cdv A outer s H vs Q E hr h=>?_)
 ·obtain ⟨l,ps,qs,ga,gs,rm,n,M,a,c,rfl,_⟩:=h
  rfl
 ·obtain ⟨l,ps,qs,ga,gs,rm,n,M,a,c,rfl,R0,g,wh,hg,rg,k⟩:=h
  refine ⟨_,(zac (zal (i:=2) sc_words_gone.nd rfl (zbn (zjm K rfl) rfl T.no_sorted boot_sorted (zaa (pe_lc ["place", "start"] [] rfl (by with_unfolding_all rfl) (by decide +kernel) rfl (by decide +kernel) (by exact True.intro) (by with_unfolding_all rfl) True.intro (zav K rfl (pv 1)) (fun _ _ _=>(zci (n:=2) K rfl rfl (zat (zap (i:=0) (show (["place", "start"]:List Str).Nodup from by decide +kernel) rfl (by first|left;rfl|right;rfl)) (zat (zap (i:=1) (show (["place", "start"]:List Str).Nodup from by decide +kernel) rfl (by first|left;rfl|right;rfl)) zcf)))) (fun _ _ _=>zbs) (fun _ _ _=>(pv 0))) zae))) (zac (zal (i:=3) sc_words_gone.nd rfl (zao D_spans (hr.mono (by decide)) rfl passN (zaa (pe_lc ["place"] [("row", 0)] rfl (by with_unfolding_all rfl) (by decide +kernel) rfl (by decide +kernel) (by exact ⟨rfl,True.intro⟩) (by with_unfolding_all rfl) ⟨⟨rfl,rfl,rfl⟩,True.intro⟩ (zav K rfl (pv 2)) (fun _ _ _=>(zap (i:=0) (show (["place", "row"]:List Str).Nodup from by decide +kernel) rfl (by first|left;rfl|right;rfl))) (fun _ _ _=>zbs) (fun _ _ _=>(pe_ix (zau K rfl) (pv 1) (pv 0) (fun _ _=>rfl)))) zae))) (zac (zal (i:=4) sc_words_gone.nd rfl zgf) (zac (zdq PassesOwn.never rfl (zqj K rfl rfl T.no_zip (zaa (pv 2) (zaa (pv 3) zae))) (zci (n:=2) K rfl rfl (zat (zap (i:=5) sc_words_gone.nd rfl (by first|left;rfl|right;rfl)) (zat (zap (i:=6) sc_words_gone.nd rfl (by first|left;rfl|right;rfl)) zcf))) (zan (zid (hu_of hr) (pv 4) (pv 5) (zao D_show_fraction (hr.mono (by decide)) rfl passN (zaa (pe_ix (zam K rfl) (pv 6) zaj (fun _ _=>rfl)) zae)) rfl))) (zac (zal (i:=7) sc_words_gone.nd rfl (zbw zae)) (zac (zdq PassesOwn.never rfl (zav K rfl (pv 1)) (zci (n:=2) K rfl rfl (zat (zap (i:=5) sc_words_gone.nd rfl (by first|left;rfl|right;rfl)) (zat (zap (i:=8) sc_words_gone.nd rfl (by first|left;rfl|right;rfl)) zcf))) (zac (zal (i:=9) sc_words_gone.nd rfl (pe_ix (zau K rfl) (pv 0) (pv 5) (fun _ _=>rfl))) (zac (zal (i:=10) sc_words_gone.nd rfl (pe_op zdu (pv 8) (pe_ix (zam K rfl) (pv 9) zaj (fun _ _=>rfl)))) (zan (zbj (pe_bm PySem.F.plainAttrs_list PySem.F.slot_list_append PySem.F.type_list_append zaz (pv 7) (zaa (zbw (zaa (zbg zbq rfl T.no_str boot_str (zaa (pv 5) zae)) (zaa (zbg zbq rfl T.no_str boot_str (zaa (pe_ix (zam K rfl) (pv 9) zaj (fun _ _=>rfl)) zae)) (zaa (zbg zbq rfl T.no_str boot_str (zaa (pe_ix (zam K rfl) (pv 9) zaj (fun _ _=>rfl)) zae)) (zaa (zbg zbq rfl T.no_str boot_str (zaa (pv 8) zae)) (zaa (zbg zbq rfl T.no_str boot_str (zaa (pv 10) zae)) (zaa (zum (hu_of hr) (pv 4) (pv 5) (fun _ _=>rfl)) zae))))))) zae))))))) (zan (zay (pv 7))))))))),?_⟩
  show tSeq _ _ _ [some (.ref l),some (.ref ga),none,none,none,none,none,none,none,none,none] H
  have wt:=Sw.went_of (rm:=rm) g
  have gl:=zfe rg
  have n60:qs.length<=60:=by have:=g.ln; have:=g.F.n1; omega
  have plr:(Sw.sPl rm qs).length<=60:=Nat.le_trans (Nat.le_trans (List.length_filter_le _ _) (by rw [List.length_range]; exact Nat.le_refl _)) n60
  have lgn:(Sw.dealtR rm qs).2.2.length<=60:=by
   have:=wt.pm.length_eq
   rw [List.length_map] at this
   omega
  generalize egn:(Sw.dealtR rm qs).2.2=gn at rg gl k lgn
  refine zad fun R hR=>?_
  walk_at "rd"
  refine ⟨⟨_,.of hg⟩,fun D hD=>?_⟩
  refine zbb (xs:=gs.map V.ref) (fun i τ H'=>(∃ v1 v2,τ = [v1,v2])/\Same H H'/\H' D=some (.lst (((gn.take i).map fun g=>(g.1:Int)).map V.int))) ⟨⟨none,none,rfl⟩,zaf hD,by rw [List.take_zero]; exact zab⟩ (fun i τ H' _ ⟨_,sm,_⟩=>.of (sm _ _ hg)) ?_ ?_
  ·rintro i x τ H' hx ⟨⟨v1,v2,rfl⟩,sm,hDl⟩
   obtain ⟨pp,hpp,rfl⟩:∃ p,gs[i]? = some p/\V.ref p=x:=by simpa using hx
   obtain ⟨q,hq,ht⟩:=zen rg hpp
   have hi:i<gn.length:=(List.getElem?_eq_some_iff.mp hq).1
   have ht:=sm _ _ ht
   walk_at "rd"
   refine ⟨_,.of ht,rfl,_,_,rfl,_,_,rfl,rfl,?_⟩
   unfold tYes
   walk_at "rd"
   refine ⟨_,hDl,line_lt (by rw [List.length_map,List.length_map,List.length_take]; omega),fun b o e=>?_,?_⟩
   ·rw [zai (zah e hD)]; exact sm _ _ e
   ·rw [zab,List.take_succ_eq_append_getElem hi,(List.getElem?_eq_some_iff.mp hq).2,List.map_append,List.map_append]; rfl
  rintro τ H1 ⟨_,t1,hDl⟩
  rw [List.length_map,gl,List.take_length] at hDl
  refine ⟨D,_,rfl,.of hDl,by rw [List.length_map]; omega,fun so ns2 fs sp ss=>hR _ _ ?_⟩
  clear hR
  have es:ns2=(Sw.sPl rm qs).map fun i:Nat=>(i:Int):=by
   refine List.Perm.eq_of_pairwise (le:=(·<=·)) (fun a b _ _ h1 h2=>Int.le_antisymm h1 h2) ss ?_ (sp.trans ?_)
   ·rw [List.pairwise_map]
    exact wt.so.imp fun h=>by omega
   ·have:=wt.pm.map fun i:Nat=>(i:Int)
    rw [egn,List.map_map] at this
    exact this
  subst es
  have t2:=t1.trans (zaf (o:=.lst (((Sw.sPl rm qs).map fun i:Nat=>(i:Int)).map V.int)) fs)
  have hso:upd H1 so (.lst (((Sw.sPl rm qs).map fun i:Nat=>(i:Int)).map V.int)) so=some (.lst ((Sw.sPl rm qs).map natI)):=by rw [zab,zkn]
  generalize upd H1 so (.lst (((Sw.sPl rm qs).map fun i:Nat=>(i:Int)).map V.int))=H2 at t2 hso ⊢
  clear hDl hD t1 fs sp ss
  refine zad fun R hR=>?_
  walk_at "rd"
  refine ⟨⟨_,.of hso⟩,fun D hD=>?_⟩
  show CompG _ _ _ _ D [none,some (.ref l)] _ _
  refine zbb (xs:=(Sw.sPl rm qs).map natI) (fun m τ H'=>(∃ v1,τ = [v1,some (.ref l)])/\Same H2 H'/\∃ pt,Row H' D pt ((Sw.sSub rm qs).take m)) ⟨⟨none,rfl⟩,zaf hD,[],by rw [List.take_zero]; exact ⟨zab,.nil⟩⟩ (fun m τ H' _ ⟨_,sm,_⟩=>.of (sm _ _ hso)) ?_ ?_
  ·rintro m x τ H' hx ⟨⟨v1,rfl⟩,sm,pt,RD⟩
   obtain ⟨pn,hpn,rfl⟩:∃ p,(Sw.sPl rm qs)[m]? = some p/\natI p=x:=by simpa using hx
   obtain ⟨h1,h2⟩:=wt.at_ m pn hpn
   obtain ⟨q,hq⟩:∃ q,qs[pn]? = some q:=⟨_,List.getElem?_eq_getElem h2⟩
   rw [hq] at h1
   have hm:=(List.getElem?_eq_some_iff.mp hpn).1
   obtain ⟨pc,hpc,hc4⟩:=zju (R0.same t2) hq
   walk_at "rd"
   unfold tYes
   walk_at "rd"
   refine zcd (.of (sm _ _ (t2 _ _ R0.hl))) (zcc (v:=V.ref pc) (by rw [List.getElem?_map,hpc]; rfl)) ?_
   have lr:=RD.r.len
   rw [List.length_take] at lr
   have kt:∀ b xs,H' b=some (.tup xs)->upd H' D (.lst (pt.map V.ref++[.ref pc])) b=some (.tup xs):=fun b xs e=>zel RD.hl e
   refine ⟨_,RD.hl,line_lt (by rw [List.length_map]; omega),fun b o e=>?_,pt++[pc],?_,?_⟩
   ·rw [zai (zah e hD)]; exact sm _ _ e
   ·rw [zab,List.map_append]; rfl
   ·rw [L2.take_succ_of h1.symm]
    exact Tups.snoc (kt _ _ (sm _ _ hc4)) (RD.r.keep kt)
  rintro τ H3 ⟨_,t3,pt,RD⟩
  rw [List.length_map,<- wt.ls,List.take_length] at RD
  refine ⟨n,M,a,c,D,pt,_,rfl,RD,wt.g.F,wt.g.ln,wt.g.pc,wt.g.pw,fun tl tp H4 s4 _ TL=>hR _ _ ?_⟩
  clear hR
  have sz:=wt.sp_sz
  have sl:=wt.sp_len
  refine (show tSeq _ _ _ [some (.ref l),some (.ref ga),some (.ref so),some (.ref tl),none,none,none,none,none,none,none] H4 from ?_)
  have TL:TgL H4 tl tp (Sw.sSp n rm qs):=TL
  have t5:=(t2.trans t3).trans s4
  have hso:=(t3.trans s4) _ _ hso
  clear s4 t3 RD hD
  refine zad fun R hR=>?_
  walk_at "rd"
  intro ed fed
  refine hR _ _ ?_
  clear hR
  have hd0:upd H4 ed (.dK []) ed=some (.dK ([]:List (Key×V))):=zab
  have t6:=t5.trans (zaf (o:=.dK []) fed)
  have ned:H ed=none:=t5.free fed
  have hso:=(zaf (o:=.dK []) fed) _ _ hso
  have TL:=TL.same (zaf (o:=.dK []) fed)
  have nso:so≠ed:=fun z=>by rw [z,hd0] at hso; cases hso
  generalize upd H4 ed (.dK [])=H5 at hd0 t6 hso TL ⊢
  clear t5 t2 fed
  refine zad fun R hR=>?_
  refine zbo fun Z hZ=>?_
  simp only [iZip]
  walk_at "rd"
  refine ⟨⟨_,.of hso⟩,⟨_,.of TL.hl⟩,hZ _ _ ?_⟩
  have ntl:tl≠ed:=fun z=>by have:=TL.hl; rw [z,hd0] at this; cases this
  have ltp:=Paired.length TL.r
  refine zuq (K:=K) (a:=so) (b:=tl) (xs:=(Sw.sPl rm qs).map natI) (ys:=tp.map V.ref) (fun j σ H'=>∃ v5 v6 kvs,σ = [some (.ref l),some (.ref ga),some (.ref so),some (.ref tl),some (.ref ed),v5,v6,none,none,none,none]/\(∀ b o,b≠ed->H5 b=some o->H' b=some o)/\H' ed=some (.dK kvs)/\kvs.length<=j/\∀ i p z,i<j->(Sw.sPl rm qs)[i]? = some p->(Sw.endT n rm qs)[i]? = some z->valV kvs (Sum.inl (p:Int):Key)=some (V.str z)) ⟨none,none,[],rfl,fun _ _ _ e=>e,hd0,Nat.le_refl _,fun i p z h=>absurd h (Nat.not_lt_zero _)⟩ (by rw [List.length_map,List.length_map]; omega) (fun j σ H' _ ⟨_,_,_,_,kp,_⟩=>⟨.of (kp _ _ nso hso),.of (kp _ _ ntl TL.hl)⟩) ?_ ?_
  ·rintro j x y σ H6 p hx hy ⟨v5,v6,kvs,rfl,kp,hd,lk,iv⟩ fp
   obtain ⟨pn,hpn,rfl⟩:∃ p,(Sw.sPl rm qs)[j]? = some p/\natI p=x:=by simpa using hx
   obtain ⟨pt,hpt,rfl⟩:∃ p,tp[j]? = some p/\V.ref p=y:=by simpa using hy
   obtain ⟨tt,htt,pb,pe,e1,e2,e3⟩:=zbe TL.r hpt
   have hj:=(List.getElem?_eq_some_iff.mp hpn).1
   have sn:=zaf (o:=.tup [natI pn,.ref pt]) fp
   have tk:∀ b xs,H5 b=some (.tup xs)->upd H6 p (.tup [natI pn,.ref pt]) b=some (.tup xs):=fun b xs e=>sn _ _ (kp _ _ (fun z=>by rw [z,hd0] at e; cases e) e)
   have hd:=sn _ _ hd
   have kp:∀ b o,b≠ed->H5 b=some o->upd H6 p (.tup [natI pn,.ref pt]) b=some o:=fun b o n e=>sn _ _ (kp b o n e)
   refine ⟨p,_,rfl,.of zab,rfl,_,_,rfl,_,_,rfl,rfl,?_⟩
   generalize upd H6 p (.tup [natI pn,.ref pt])=H7 at tk hd kp ⊢
   refine zby fun N hN=>?_
   show sDPut _ _ _ _ [some (.ref l),some (.ref ga),some (.ref so),some (.ref tl),some (.ref ed),some (.int (pn:Int)),some (.ref pt),none,none,none,none] H7
   walk_at "rd"
   have szt:=ztn (sz tt (List.mem_of_getElem? htt))
   refine zaq (.of (tk _ _ e1)) (v:=.ref pe) rfl ⟨pe,tt.2.num,(tt.2.den:Int),rfl,.of (tk _ _ e3),szt.1,Int.natCast_nonneg _,szt.2,fun H8 s8=>?_⟩
   refine ⟨_,DPut.k (k:=Sum.inl (pn:Int)) (s8 _ _ hd) (line_lt (by omega)),hN _ _ ⟨_,_,_,rfl,fun b o n e=>?_,zab,?_,fun i p z hi hp hz=>?_⟩⟩
   ·rw [zai n]; exact s8 _ _ (kp b o n e)
   ·have:=zmw (kvs:=kvs) (k:=(Sum.inl (pn:Int):Key)) (v:=V.str (Sw.fracS (tt.2.num,(tt.2.den:Int))))
    omega
   ·rw [zkg]
    by_cases c:i=j
    ·subst c
     rw [hpn] at hp
     cases hp
     unfold Sw.endT at hz
     rw [List.getElem?_map,htt] at hz
     rw [if_pos rfl]
     have:Sw.fracS (tt.2.num,(tt.2.den:Int))=z:=by simpa using hz
     rw [this]
    ·have hij:i<j:=by omega
     rw [if_neg (fun e=>?_)]
     ·exact iv i p z hij hp hz
     ·have e:(p:Int)=(pn:Int):=by injection e
      have hl:=List.pairwise_iff_getElem.mp wt.so i j (List.getElem?_eq_some_iff.mp hp).1 hj hij
      rw [(List.getElem?_eq_some_iff.mp hp).2,(List.getElem?_eq_some_iff.mp hpn).2] at hl
      omega
  ·rintro σ H6 ⟨v5,v6,kvs,rfl,kp,hd,lk,iv⟩
   refine hR _ _ ?_
   clear hR hZ
   rw [List.length_map] at lk iv
   have s6:Same H H6:=fun b o e=>kp b o (zah e ned) (t6 _ _ e)
   have lkE:∀ g∈gn,valV kvs (Sum.inl (g.1:Int):Key)=some (V.str (Sw.endS n rm qs g.1)):=fun x hx=>by
    have hm:x.1∈Sw.sPl rm qs:=wt.pm.subset (by rw [egn]; exact List.mem_map.mpr ⟨x,hx,rfl⟩)
    have hi:=List.idxOf_lt_length_of_mem hm
    have hp:(Sw.sPl rm qs)[(Sw.sPl rm qs).idxOf x.1]? = some x.1:=by rw [List.getElem?_eq_getElem hi,List.getElem_idxOf hi]
    obtain ⟨z,hz⟩:∃ z,(Sw.endT n rm qs)[(Sw.sPl rm qs).idxOf x.1]? = some z:=⟨_,List.getElem?_eq_getElem (by unfold Sw.endT; rw [List.length_map,sl]; exact hi)⟩
    rw [iv _ _ z hi hp hz]
    unfold Sw.endS
    rw [hz]; rfl
   have R6:=R0.same s6
   have hg6:=s6 _ _ hg
   have rg6:=zcl rg s6
   clear iv kp TL hso hd0 t6
   refine zad fun R hR=>?_
   walk_at "rd"
   intro rl frl
   refine hR _ _ ?_
   clear hR
   have sN:=zaf (o:=.lst []) frl
   have nrl:H rl=none:=s6.free frl
   have s7:=s6.trans sN
   have R7:=R6.same sN
   have hg7:=sN _ _ hg6
   have rg7:=zcl rg6 sN
   have hd7:=sN _ _ hd
   have W0:WRows (upd H6 rl (.lst [])) rl [] []:=⟨zab,.nil,List.not_mem_nil⟩
   have ngl:ga≠rl:=fun z=>by rw [z] at hg6; rw [frl] at hg6; cases hg6
   have nll:l≠rl:=fun z=>by have:=R6.hl; rw [z,frl] at this; cases this
   have nel:ed≠rl:=fun z=>by rw [z,frl] at hd; cases hd
   generalize upd H6 rl (.lst [])=H7 at s7 R7 hg7 rg7 hd7 W0 ⊢
   clear R6 hg6 rg6 hd sN s6
   refine zad fun R hR=>?_
   refine zbo fun Z hZ=>?_
   walk_at "rd"
   refine ⟨⟨_,.of hg7⟩,hZ _ _ ?_⟩
   refine zdp (K:=K) (a:=ga) (xs:=gs.map V.ref) (fun i σ H'=>∃ v5 v6 v8 v9 v10 wp,σ = [some (.ref l),some (.ref ga),some (.ref so),some (.ref tl),some (.ref ed),v5,v6,some (.ref rl),v8,v9,v10]/\(∀ b o,b≠rl->H7 b=some o->H' b=some o)/\WRows H' rl wp ((gn.take i).map (Sw.rowG n rm qs))) ⟨v5,v6,none,none,none,[],rfl,fun _ _ _ e=>e,W0⟩ (fun i σ H' _ ⟨_,_,_,_,_,_,_,kp,_⟩=>.of (kp _ _ ngl hg7)) ?_ ?_
   ·rintro i y σ H8 hy ⟨v5,v6,v8,v9,v10,wp,rfl,kp,W8⟩
    obtain ⟨pg,hpg,rfl⟩:∃ p,gs[i]? = some p/\V.ref p=y:=by simpa using hy
    obtain ⟨x,hx,ht⟩:=zen rg7 hpg
    have hxm:=List.mem_of_getElem? hx
    have hi:=(List.getElem?_eq_some_iff.mp hx).1
    have tk:∀ b xs,H7 b=some (.tup xs)->H8 b=some (.tup xs):=fun b xs e=>kp _ _ (fun z=>by have:=W0.hl; rw [z,this] at e; cases e) e
    have bd:=wt.bd x (by rw [egn]; exact hxm)
    have hm:x.1∈Sw.sPl rm qs:=wt.pm.subset (by rw [egn]; exact List.mem_map.mpr ⟨x,hxm,rfl⟩)
    obtain ⟨jj,hjj⟩:=List.mem_iff_getElem?.mp hm
    have hlt:=(wt.at_ jj x.1 hjj).2
    obtain ⟨q,hq⟩:∃ q,qs[x.1]? = some q:=⟨_,List.getElem?_eq_getElem hlt⟩
    obtain ⟨pc,hpc,hc4⟩:=zju R7 hq
    have pc0:=g.pc q (List.mem_of_getElem? hq)
    refine ⟨pg,_,rfl,.of (tk _ _ ht),rfl,_,_,rfl,_,_,rfl,rfl,?_⟩
    show tSeq _ _ _ [some (.ref l),some (.ref ga),some (.ref so),some (.ref tl),some (.ref ed),some (.int (x.1:Int)),v6,some (.ref rl),some (.int x.2),v9,v10] H8
    refine zby fun N hN=>?_
    refine zad fun R hR=>?_
    walk_at "rd"
    refine zcd (.of (kp _ _ nll R7.hl)) (zcc (v:=V.ref pc) (by rw [List.getElem?_map,hpc]; rfl)) (hR _ _ ?_)
    clear hR
    have hT:∀ {i:Int} {v:V} {Q:VK},atI (q4 q) i=some v->Q v H8->rIxT K (.ref pc) (.int i) H8 Q:=fun e q=>zaq (.of (tk _ _ hc4)) e q
    refine zad fun R hR=>?_
    walk_at "rd"
    refine hT (v:=.int q.2.2.1) rfl ⟨_,rfl,hR _ _ ?_⟩
    clear hR
    walk_at "rd"
    have wq:=wh q (List.mem_of_getElem? hq)
    have M2:=g.F.M2
    have hd8:=kp _ _ nel hd7
    have q1:=pc0.1
    have q2:=pc0.2.1
    have q3:=pc0.2.2.1
    have q4':=pc0.2.2.2.1
    refine ⟨zdk W8.hl,_,rfl,zdt (by omega) (by omega),hT (v:=.int q.2.1) rfl ⟨_,rfl,zdt (by omega) (by omega),hT (v:=.int q.1) rfl ⟨_,rfl,zdt (by omega) (by omega),_,rfl,zdt (by omega) (by omega),_,rfl,zdt (by omega) (by omega),V.str (Sw.endS n rm qs x.1),?_,fun p fp=>?_⟩⟩⟩
    ·have:=DGet.k (k:=(Sum.inl (x.1:Int):Key)) hd8
     rw [lkE x hxm] at this
     exact this
    have er:Sw.rowG n rm qs x = [Sw.numS (x.1:Int),Sw.numS q.2.1,Sw.numS q.1,Sw.numS x.2,Sw.numS (x.2+q.2.2.1),Sw.endS n rm qs x.1]:=by unfold Sw.rowG; rw [hq]
    have sp:=zaf (o:=.lst ((Sw.rowG n rm qs x).map V.str)) fp
    have e0:upd H8 p (.lst ((Sw.rowG n rm qs x).map V.str))=upd H8 p (.lst [.str (Sw.numS (x.1:Int)),.str (Sw.numS q.2.1),.str (Sw.numS q.1),.str (Sw.numS x.2),.str (Sw.numS (x.2+q.2.2.1)),.str (Sw.endS n rm qs x.1)]):=by rw [er]; rfl
    refine (show zkb (V.ref rl) [V.ref p] (upd H8 p (.lst [.str (Sw.numS (x.1:Int)),.str (Sw.numS q.2.1),.str (Sw.numS q.1),.str (Sw.numS x.2),.str (Sw.numS (x.2+q.2.2.1)),.str (Sw.endS n rm qs x.1)])) _ from ?_)
    rw [<- e0]
    have W9:=W8.same sp
    have npr:p≠rl:=fun z=>by have:=W8.hl; rw [<- z,fp] at this; cases this
    have hpn:upd H8 p (.lst ((Sw.rowG n rm qs x).map V.str)) p=some (.lst ((Sw.rowG n rm qs x).map V.str)):=zab
    have kp9:∀ b o,b≠rl->H7 b=some o->upd H8 p (.lst ((Sw.rowG n rm qs x).map V.str)) b=some o:=fun b o n e=>sp _ _ (kp b o n e)
    generalize upd H8 p (.lst ((Sw.rowG n rm qs x).map V.str))=H9 at W9 hpn kp9 ⊢
    have lw:=Paired.length W9.r
    rw [List.length_map,List.length_take] at lw
    refine ⟨rl,_,_,rfl,rfl,W9.hl,zcy (by rw [List.length_map]; omega),hN _ _ ⟨_,_,_,_,_,wp++[p],rfl,fun b o n e=>?_,?_⟩⟩
    ·rw [zai n]; exact kp9 b o n e
    ·rw [L2.take_succ_of hx,List.map_append]
     exact W9.snoc hpn npr
   ·rintro σ H8 ⟨v5,v6,v8,v9,v10,wp,rfl,kp,W8⟩
    rw [List.length_map,gl,List.take_length] at W8
    refine hR _ _ ?_
    walk_at "rd"
    exact k H8 rl wp (fun b o e=>kp b o (zah e nrl) (s7 _ _ e)) W8
def spWD:Sp:=fun vs H Q _=>∃ (l:Addr) (ps:List Addr) (qs:List Q4) (da:Addr) (ds:List Nat),vs = [.ref l,.ref da]/\Row H l ps qs/\(∀ q∈qs,(0<=q.2.1/\q.2.1<=1000)/\0<=q.1/\q.1<100000000000000)/\H da=some (.lst (ds.map natI))/\(∀ p∈ds,p<qs.length)/\qs.length<=60/\ds.length<=60/\∀ H' wl wp,Same H H'->WRows H' wl wp (ds.map (Sw.rowD qs))->Q (.ref wl) H'
theorem ziw (T:Txt K mg c_NoRatio c_Tide c_Wheel):Def P w K mg base (CXX P w) 1 "words_dropped" ["row", "dropped"] spWD:=by
 refine T.src_words_dropped.okN (k:=0) zhi (fun vs H Q E h=>?_) (fun f cdv A outer s H vs Q E hr h=>?_)
 ·obtain ⟨l,ps,qs,da,ds,rfl,_⟩:=h
  rfl
 ·obtain ⟨l,ps,qs,da,ds,rfl,R0,wh,hda,dl,ql,dn,k⟩:=h
  refine ⟨_,(zan (zay (pe_lc ["place"] [("row", 0)] rfl (by with_unfolding_all rfl) (by decide +kernel) rfl (by decide +kernel) (by exact ⟨rfl,True.intro⟩) (by with_unfolding_all rfl) ⟨⟨rfl,rfl,rfl⟩,True.intro⟩ (zav K rfl (pv 1)) (fun _ _ _=>(zap (i:=0) (show (["place", "row"]:List Str).Nodup from by decide +kernel) rfl (by first|left;rfl|right;rfl))) (fun _ _ _=>zbs) (fun _ _ _=>(zbw (zaa (zbg zbq rfl T.no_str boot_str (zaa (pv 0) zae)) (zaa (zbg zbq rfl T.no_str boot_str (zaa (pe_ix (zam K rfl) (pe_ix (zau K rfl) (pv 1) (pv 0) (fun _ _=>rfl)) zaj (fun _ _=>rfl)) zae)) (zaa (zbg zbq rfl T.no_str boot_str (zaa (pe_ix (zam K rfl) (pe_ix (zau K rfl) (pv 1) (pv 0) (fun _ _=>rfl)) zaj (fun _ _=>rfl)) zae)) (zaa zce (zaa zce (zaa zce zae))))))))))),?_⟩
  show tRet _ _ [some (.ref l),some (.ref da)] H
  walk_at "rd"
  refine ⟨⟨_,.of hda⟩,fun D hD=>?_⟩
  show CompG _ _ _ _ D [none,some (.ref l)] _ _
  refine zbb (xs:=ds.map natI) (fun m τ H'=>(∃ v1,τ = [v1,some (.ref l)])/\Same H H'/\∃ wp,WRows H' D wp ((ds.take m).map (Sw.rowD qs))) ⟨⟨none,rfl⟩,zaf hD,[],by rw [List.take_zero]; exact ⟨zab,.nil,List.not_mem_nil⟩⟩ (fun m τ H' _ ⟨_,sm,_⟩=>.of (sm _ _ hda)) ?_ ?_
  ·rintro m x τ H' hx ⟨⟨v1,rfl⟩,sm,wp,W⟩
   obtain ⟨pn,hpn,rfl⟩:∃ p,ds[m]? = some p/\natI p=x:=by simpa using hx
   have hlt:=dl pn (List.mem_of_getElem? hpn)
   have hm:=(List.getElem?_eq_some_iff.mp hpn).1
   obtain ⟨q,hq⟩:∃ q,qs[pn]? = some q:=⟨_,List.getElem?_eq_getElem hlt⟩
   obtain ⟨pc,hpc,hc4⟩:=zju R0 hq
   have wq:=wh q (List.mem_of_getElem? hq)
   walk_at "rd"
   unfold tYes
   walk_at "rd"
   have ixl:∀ {Q:VK},Q (.ref pc) H'->rIxL K (.ref l) (natI pn) H' Q:=fun q=>zcd (.of (sm _ _ R0.hl)) (zcc (v:=V.ref pc) (by rw [List.getElem?_map,hpc]; rfl)) q
   have hT:SqT K H' pc (q4 q):=.of (sm _ _ hc4)
   refine ⟨(pn:Int),rfl,zdt (by omega) (by omega),ixl (zaq hT (v:=.int q.2.1) rfl ⟨_,rfl,zdt (by omega) (by omega),ixl (zaq hT (v:=.int q.1) rfl ⟨_,rfl,zdt (by omega) (by omega),fun p fp=>?_⟩)⟩)⟩
   have er:Sw.rowD qs pn = [Sw.numS (pn:Int),Sw.numS q.2.1,Sw.numS q.1,Str.ofString "-", Str.ofString "-", Str.ofString "-"]:=by unfold Sw.rowD; rw [hq]
   have e0:upd H' p (.lst ((Sw.rowD qs pn).map V.str))=upd H' p (.lst [.str (Sw.numS (pn:Int)),.str (Sw.numS q.2.1),.str (Sw.numS q.1),.str (Str.ofString "-"),.str (Str.ofString "-"),.str (Str.ofString "-")]):=by rw [er]; rfl
   refine (show ∃ ys,upd H' p (.lst [.str (Sw.numS (pn:Int)),.str (Sw.numS q.2.1),.str (Sw.numS q.1),.str (Str.ofString "-"),.str (Str.ofString "-"),.str (Str.ofString "-")]) D=some (.lst ys)/\ys.length<sizeLine/\Same H (upd (upd H' p (.lst [.str (Sw.numS (pn:Int)),.str (Sw.numS q.2.1),.str (Sw.numS q.1),.str (Str.ofString "-"),.str (Str.ofString "-"),.str (Str.ofString "-")])) D (.lst (ys++[.ref p])))/\∃ wp,WRows (upd (upd H' p (.lst [.str (Sw.numS (pn:Int)),.str (Sw.numS q.2.1),.str (Sw.numS q.1),.str (Str.ofString "-"),.str (Str.ofString "-"),.str (Str.ofString "-")])) D (.lst (ys++[.ref p]))) D wp ((ds.take (m+1)).map (Sw.rowD qs)) from ?_)
   rw [<- e0]
   have sp:=zaf (o:=.lst ((Sw.rowD qs pn).map V.str)) fp
   have W9:=W.same sp
   have npD:p≠D:=fun z=>by have:=W.hl; rw [<- z,fp] at this; cases this
   have hpn2:upd H' p (.lst ((Sw.rowD qs pn).map V.str)) p=some (.lst ((Sw.rowD qs pn).map V.str)):=zab
   have sm:=sm.trans sp
   generalize upd H' p (.lst ((Sw.rowD qs pn).map V.str))=H9 at W9 hpn2 sm ⊢
   have lw:=Paired.length W9.r
   rw [List.length_map,List.length_take] at lw
   refine ⟨_,W9.hl,zcy (by rw [List.length_map]; omega),fun b o e=>?_,wp++[p],?_⟩
   ·rw [zai (zah e hD)]; exact sm _ _ e
   ·rw [L2.take_succ_of hpn,List.map_append]
    exact W9.snoc hpn2 npD
  ·rintro τ H' ⟨_,sm,wp,W⟩
   rw [List.length_map,List.take_length] at W
   exact k H' D wp sm W
def spCol:Sp:=fun vs H Q _=>∃ (l:Addr) (ps:List Addr) (rows:List (List Str)),vs = [.ref l]/\WRows H l ps rows/\rows≠[]/\rows.length<=64/\(∀ r∈rows,r.length = 6/\∀ z∈r,z.length<=2000)/\∀ H',Same H H'->Q (.str (Sw.colF rows)) H'
theorem zoo (T:Txt K mg c_NoRatio c_Tide c_Wheel):Def P w K mg base (CXX P w) 1 "columned" ["rows"] spCol:=by
 obtain ⟨t_HEADINGS,h_HEADINGS,hT⟩:=T.mg_HEADINGS
 refine T.src_columned.okN (k:=0) sc_columned (fun vs H Q E h=>?_) (fun f cdv A outer s H vs Q E hr h=>?_)
 ·obtain ⟨l,ps,rows,rfl,_⟩:=h
  rfl
 ·obtain ⟨l,ps,rows,rfl,W0,ne,rl,wr,k⟩:=h
  refine ⟨_,(zac (zsk (i0:=1) "column" ["column"] [("rows", 0)] rfl (by with_unfolding_all rfl) (fun _=>by with_unfolding_all rfl) (fun _=>by with_unfolding_all rfl) rfl (by decide +kernel) (by exact ⟨rfl,True.intro⟩) (by with_unfolding_all rfl) ⟨⟨rfl,rfl,rfl⟩,True.intro⟩ (by decide +kernel) (zfz rfl T.no_range (zaa (zbn (zkz K rfl) rfl T.no_len boot_len (zaa (zot (v:=.ref t_HEADINGS) rfl h_HEADINGS rfl) zae)) zae)) (fun _ _ _=>(zap (i:=0) (show (["column", "rows"]:List Str).Nodup from by decide +kernel) rfl (by first|left;rfl|right;rfl) (Or.inl (show (("column" : Str) == ("column" : Str))=true from by decide +kernel)))) (fun _ _ _=>zbs) (fun _ _ _=>(zbn (zlo K rfl rfl) rfl T.no_max boot_max (zaa (pe_lc ["words"] [("column", 0)] rfl (by with_unfolding_all rfl) (by decide +kernel) rfl (by decide +kernel) (by exact ⟨rfl,True.intro⟩) (by with_unfolding_all rfl) ⟨⟨rfl,rfl,rfl⟩,True.intro⟩ (zav K rfl (pv 1)) (fun _ _ _=>(zap (i:=0) (show (["words", "column"]:List Str).Nodup from by decide +kernel) rfl (by first|left;rfl|right;rfl))) (fun _ _ _=>zbs) (fun _ _ _=>(zbn zfd rfl T.no_len boot_len (zaa (pe_ix (zau K rfl) (pv 0) (pv 1) (fun _ _=>rfl)) zae)))) zae))) (by with_unfolding_all rfl) sc_columned.nd rfl (by first|left;rfl|right;rfl)) (zac (zal (i:=2) sc_columned.nd rfl (zbw zae)) (zac (zdq PassesOwn.never rfl (zav K rfl (pv 0)) (zap (i:=3) sc_columned.nd rfl (by first|left;rfl|right;rfl)) (zan (zbj (pe_bm PySem.F.plainAttrs_list PySem.F.slot_list_append PySem.F.type_list_append zaz (pv 2) (zaa (pe_bm PySem.F.plainAttrs_str PySem.F.slot_str_join PySem.F.type_str_join (zmn K) zce (zaa (pe_lc ["word", "width"] [] rfl (by with_unfolding_all rfl) (by decide +kernel) rfl (by decide +kernel) (by exact True.intro) (by with_unfolding_all rfl) True.intro (zqj K rfl rfl T.no_zip (zaa (pv 3) (zaa (pv 1) zae))) (fun _ _ _=>(zci (n:=2) K rfl rfl (zat (zap (i:=0) (show (["word", "width"]:List Str).Nodup from by decide +kernel) rfl (by first|left;rfl|right;rfl)) (zat (zap (i:=1) (show (["word", "width"]:List Str).Nodup from by decide +kernel) rfl (by first|left;rfl|right;rfl)) zcf)))) (fun _ _ _=>zbs) (fun _ _ _=>(zxm K rfl PySem.F.plainAttrs_str PySem.F.slot_str_rjust PySem.F.type_str_rjust zsg (pv 0) (zaa (pv 1) zae)))) zae)) zae))))) (zan (zay (pe_bm PySem.F.plainAttrs_str PySem.F.slot_str_join PySem.F.type_str_join (zmn K) zce (zaa (pv 2) zae))))))),?_⟩
  show tSeq _ _ _ [some (.ref l),none,none,none] H
  refine zad fun R hR=>?_
  walk_at "rd"
  refine zuh (hT H) ⟨_,rfl,by show _<=((6:Nat):Int); decide,by show ((6:Nat):Int) < _; decide,fun D hD=>?_⟩
  refine (show CompG (Itr 0 6) _ _ _ D [none,some (.ref l)] _ _ from ?_)
  refine zoh (fun i τ H'=>(∃ v1,τ = [v1,some (.ref l)])/\Same H H'/\H' D=some (.lst ((((List.range 6).take i).map fun k=>(Sw.widthF rows k:Int)).map V.int))) ⟨⟨none,rfl⟩,zaf hD,by rw [List.take_zero]; exact zab⟩ ?_ ?_
  ·rintro i τ H' hi ⟨⟨v1,rfl⟩,sm,hDl⟩
   have W:=W0.same sm
   walk_at "rd"
   unfold tYes
   walk_at "rd"
   refine ⟨⟨_,.of W.hl⟩,fun D1 hD1=>?_⟩
   show CompG (Itl K l) _ _ _ D1 [none,some (.int (0+(i:Int)))] _ _
   refine zbb (xs:=ps.map V.ref) (fun j τ H2=>(∃ v,τ = [v,some (.int (0+(i:Int)))])/\Same H' H2/\H2 D1=some (.lst ((((rows.take j).map fun r=>((r[i]?).getD Str.empty).length).map fun n:Nat=>(n:Int)).map V.int))) ⟨⟨none,rfl⟩,zaf hD1,by rw [List.take_zero]; exact zab⟩ (fun j τ H2 _ ⟨_,s2,_⟩=>.of (s2 _ _ W.hl)) ?_ ?_
   ·rintro j x τ H2 hx ⟨⟨v,rfl⟩,s2,hD2⟩
    obtain ⟨pr,hpr,rfl⟩:∃ p,ps[j]? = some p/\V.ref p=x:=by simpa using hx
    obtain ⟨r,hr,hpl⟩:=zbe W.r hpr
    have hj:=(List.getElem?_eq_some_iff.mp hr).1
    obtain ⟨r6,rz⟩:=wr r (List.mem_of_getElem? hr)
    obtain ⟨z,hz⟩:∃ z,r[i]? = some z:=⟨_,List.getElem?_eq_getElem (by omega)⟩
    have zl:=rz z (List.mem_of_getElem? hz)
    walk_at "rd"
    have e:(0+(i:Int))=((i:Nat):Int):=by omega
    rw [e]
    refine zcd (.of (s2 _ _ hpl)) (zcc (j:=i) (v:=V.str z) (by rw [List.getElem?_map,hz]; rfl)) ⟨z,rfl,zds (by omega),_,hD2,zcy (by rw [List.length_map,List.length_map,List.length_map,List.length_take]; omega),fun b o eb=>?_,?_⟩
    ·rw [zai (zah eb hD1)]; exact s2 _ _ eb
    ·rw [zab,L2.take_succ_of hr,List.map_append,List.map_append,List.map_append]
     show some (HO.lst (_++[V.int (z.length:Int)]))=some (HO.lst (_++[V.int ((((r[i]?).getD Str.empty).length:Nat):Int)]))
     rw [hz]; rfl
   rintro τ H2 ⟨_,s2,hD2⟩
   rw [List.length_map,Paired.length W.r,List.take_length] at hD2
   refine ⟨D1,_,rfl,.of hD2,by rw [List.length_map,List.length_map]; exact List.length_pos_iff.mpr ne,fun m hm hall=>?_⟩
   obtain ⟨mm,hmm,rfl⟩:=List.mem_map.mp hm
   have ew:Sw.widthF rows i=mm:=Sw.width_is hmm fun z hz=>by
    have:=hall (z:Int) (List.mem_map.mpr ⟨z,hz,rfl⟩)
    omega
   refine ⟨_,s2 _ _ hDl,zcy (by rw [List.length_map,List.length_map,List.length_take,List.length_range]; omega),fun b o eb=>?_,?_⟩
   ·rw [zai (zah eb hD)]; exact (sm.trans s2) _ _ eb
   ·rw [zab,L2.take_succ_of (show (List.range 6)[i]? = some i by rw [List.getElem?_range hi]),List.map_append,List.map_append,<- ew]; rfl
  rintro τ H1 ⟨_,s1,hw⟩
  have hw:H1 D=some (.lst (((List.range 6).map fun k=>(Sw.widthF rows k:Int)).map V.int)):=hw
  refine hR _ _ ?_
  clear hR
  have wrz:∀ r∈rows,∀ z∈r,z.length<=2000:=fun r hr=>(wr r hr).2
  have W1:=W0.same s1
  refine zad fun R hR=>?_
  walk_at "rd"
  intro ll fll
  refine hR _ _ ?_
  clear hR
  have nll:H ll=none:=s1.free fll
  have sN:=zaf (o:=.lst []) fll
  have s2:=s1.trans sN
  have W2:=W1.same sN
  have hw2:=sN _ _ hw
  have hl2:upd H1 ll (.lst []) ll=some (.lst (([]:List Str).map V.str)):=zab
  have nW:l≠ll:=fun z=>by have:=W1.hl; rw [z,fll] at this; cases this
  have nD:D≠ll:=fun z=>by rw [z,fll] at hw; cases hw
  have nP:∀ (p:Addr) (xs:List V),H1 p=some (.lst xs)->p≠ll:=fun p xs e z=>by rw [z,fll] at e; cases e
  have W1r:=W1.r
  generalize upd H1 ll (.lst [])=H2 at s2 W2 hw2 hl2 sN ⊢
  refine zad fun R hR=>?_
  refine zbo fun Z hZ=>?_
  walk_at "rd"
  refine ⟨⟨_,.of W2.hl⟩,hZ _ _ ?_⟩
  refine zdp (K:=K) (a:=l) (xs:=ps.map V.ref) (fun i σ H'=>∃ v3,σ = [some (.ref l),some (.ref D),some (.ref ll),v3]/\(∀ b o,b≠ll->H2 b=some o->H' b=some o)/\H' ll=some (.lst (((rows.take i).map fun r=>Txt.join (Str.ofString "  ") (Sw.padW rows r)).map V.str))) ⟨none,rfl,fun _ _ _ e=>e,by rw [List.take_zero]; exact hl2⟩ (fun i σ H' _ ⟨_,_,kp,_⟩=>.of (kp _ _ nW W2.hl)) ?_ ?_
  ·rintro i x σ H' hx ⟨v3,rfl,kp,hll⟩
   obtain ⟨pr,hpr,rfl⟩:∃ p,ps[i]? = some p/\V.ref p=x:=by simpa using hx
   obtain ⟨r,hr,hpl1⟩:=zbe W1r hpr
   have hpl:=kp _ _ (nP _ _ hpl1) (sN _ _ hpl1)
   have hwH:=kp _ _ nD hw2
   have hi:=(List.getElem?_eq_some_iff.mp hr).1
   have hrm:=List.mem_of_getElem? hr
   obtain ⟨r6,rz⟩:=wr r hrm
   show tDrop _ _ [some (.ref l),some (.ref D),some (.ref ll),some (.ref pr)] H'
   refine zby fun N hN=>?_
   walk_at "rd"
   refine ⟨zdk hll,rfl,?_⟩
   simp only [iZip]
   walk_at "rd"
   refine ⟨⟨_,.of hpl⟩,⟨_,.of hwH⟩,fun D2 hD2=>?_⟩
   show CompG _ _ _ _ D2 [none,none] _ _
   have pl6:=Sw.pad_len (rows:=rows) r6
   refine zry (K:=K) (a:=pr) (b:=D) (xs:=r.map V.str) (ys:=((List.range 6).map fun k=>(Sw.widthF rows k:Int)).map V.int) (fun j τ H3=>(∃ v1 v2,τ = [v1,v2])/\Same H' H3/\H3 D2=some (.lst (((Sw.padW rows r).take j).map V.str))) ⟨⟨none,none,rfl⟩,zaf hD2,by rw [List.take_zero]; exact zab⟩ (by rw [List.length_map,List.length_map,List.length_map,List.length_range,r6]; exact Nat.le_refl _) (fun j τ H3 _ ⟨_,s3,_⟩=>⟨.of (s3 _ _ hpl),.of (s3 _ _ hwH)⟩) ?_ ?_
   ·rintro j x y τ H3 p hx hy ⟨⟨v1,v2,rfl⟩,s3,hD3⟩ fp
    obtain ⟨z,hz,rfl⟩:∃ z,r[j]? = some z/\V.str z=x:=by simpa using hx
    have hj:j<6:=by have:=(List.getElem?_eq_some_iff.mp hz).1; omega
    have hy:V.int (Sw.widthF rows j:Int)=y:=by
     rw [List.getElem?_map,List.getElem?_map,List.getElem?_range hj] at hy
     simpa using hy
    subst hy
    have sn:=zaf (o:=.tup [.str z,.int (Sw.widthF rows j:Int)]) fp
    have s3:=s3.trans sn
    have hD3:=sn _ _ hD3
    refine ⟨p,_,rfl,.of zab,rfl,_,_,rfl,_,_,rfl,rfl,?_⟩
    generalize upd H3 p (.tup [.str z,.int (Sw.widthF rows j:Int)])=H4 at s3 hD3 ⊢
    simp only [tYes,if_true]
    walk_at "rd"
    have wl:=Sw.width_le (k:=j) wrz
    refine ⟨rfl,z,_,rfl,rfl,Sw.padOk (by omega),_,hD3,zcy (by rw [List.length_map,List.length_take]; omega),fun b o eb=>?_,?_⟩
    ·rw [zai (zah eb hD2)]; exact s3 _ _ eb
    ·rw [zab,L2.take_succ_of (Sw.pad_get hz hj),List.map_append,Sw.rjust_eq]; rfl
   ·rintro τ H3 ⟨_,s3,hD3⟩
    rw [List.length_map,r6,<- pl6,List.take_length] at hD3
    have pz:=Sw.pad_le wrz hrm
    refine ⟨_,D2,_,rfl,rfl,hD3,Sw.join_okB (m:=2000) pz (by rw [pl6]; decide) (by decide +kernel),ll,_,_,rfl,rfl,s3 _ _ hll,zcy (by rw [List.length_map,List.length_map,List.length_take]; omega),hN _ _ ⟨_,rfl,fun b o n e=>?_,?_⟩⟩
    ·rw [zai n]; exact s3 _ _ (kp b o n e)
    ·rw [zab,L2.take_succ_of hr,List.map_append,List.map_append]; rfl
  ·rintro σ H' ⟨v3,rfl,kp,hll⟩
   rw [List.length_map,Paired.length W1r,List.take_length] at hll
   refine hR _ _ ?_
   walk_at "rd"
   have sH:Same H H':=fun b o e=>kp b o (zah e nll) (s2 _ _ e)
   refine ⟨rfl,_,_,_,rfl,rfl,hll,Sw.join_okB (m:=12012) (fun z hz=>?_) (by rw [List.length_map]; omega) (by decide +kernel),k _ sH⟩
   obtain ⟨r,hr,rfl⟩:=List.mem_map.mp hz
   have h1:=Sw.join_len (sep:=Str.ofString "  ") (Sw.pad_le wrz hr)
   rw [Sw.pad_len (wr r hr).1] at h1
   have h2:(Str.ofString "  ").length = 2:=by decide +kernel
   omega
theorem zjv {α β:Type} {F:α->β->Prop}:∀ {l₁ k₁:List α} {l₂ k₂:List β},Paired F l₁ l₂->Paired F k₁ k₂->Paired F (l₁++k₁) (l₂++k₂)
 | _,_,_,_,Paired.nil,h=>h
 | _,_,_,_,Paired.cons a b,h=>.cons a (zjv b h)
theorem znx {H:Hp} {x:Addr}:∀ {ps:List Addr} {rows:List (List Str)},WL H ps rows->H x=none->x ∉ ps
 | _,_,Paired.nil,_=>List.not_mem_nil
 | _,_,Paired.cons a b,h=>fun z=>by
  rcases List.mem_cons.mp z with z | z
  ·rw [<- z,h] at a; cases a
  ·exact znx b h z
def spRep:Sp:=fun vs H Q _=>∃ l rv ps qs rm n M a c,vs = [.ref l,rv]/\Row H l ps qs/\RmV H rv rm/\Sw.Good n M a c qs/\(∀ q∈qs,0<=q.2.1/\q.2.1<=1000)/\qs.length<=31/\∀ H',Same H H'->Q (.str (Sw.colF (Sw.wordsW n rm qs))) H'
theorem zst (T:Txt K mg c_NoRatio c_Tide c_Wheel):DefD P w K mg base (CXX P w) 10 "report" ["row", "rooms"] [[],[.non]] spRep:=by
 obtain ⟨t_HEADINGS,h_HEADINGS,hT⟩:=T.mg_HEADINGS
 have D_dealt:=zrc (P:=P) (w:=w) (base:=base) T
 have D_columned:=zoo (P:=P) (w:=w) (base:=base) T
 have D_words_gone:=zlv (P:=P) (w:=w) (base:=base) T
 have D_words_dropped:=ziw (P:=P) (w:=w) (base:=base) T
 refine T.src_report.okN (k:=9) sc_report (fun vs H Q E h=>?_) (fun f cdv A outer s H vs Q E hr h=>?_)
 ·obtain ⟨l,rv,ps,qs,rm,n,M,a,c,rfl,_⟩:=h
  rfl
 ·obtain ⟨l,rv,ps,qs,rm,n,M,a,c,rfl,R0,RM,g,wh,q31,k⟩:=h
  refine ⟨_,(zac (zal (i:=2) sc_report.nd rfl (zfh (dvs:=[]) D_dealt (by simp) (hr.mono (by decide)) rfl passN (zaa (pv 0) (zaa (pv 1) zae)))) (zan (zay (zao D_columned (hr.mono (by decide)) rfl passN (zaa (pe_op zpj (pe_op zpj (zbw (zaa (zbg (zje K rfl) rfl T.no_list boot_list (zaa (zot (v:=.ref t_HEADINGS) rfl h_HEADINGS rfl) zae)) zae)) (zao D_words_gone (hr.mono (by decide)) rfl passN (zaa (pv 0) (zaa (pe_ix (zam K rfl) (pv 2) zaj (fun _ _=>rfl)) zae)))) (zao D_words_dropped (hr.mono (by decide)) rfl passN (zaa (pv 0) (zaa (pe_ix (zam K rfl) (pv 2) zaj (fun _ _=>rfl)) zae)))) zae))))),?_⟩
  show tSeq _ _ _ [some (.ref l),some rv,none] H
  refine zad fun R hR=>?_
  walk_at "rd"
  refine ⟨l,rv,ps,qs,rm,n,M,a,c,rfl,R0,RM,g,fun r ga da gs H1 s1 hr1 hg1 rg1 hd1 nga nda gad=>hR _ _ ?_⟩
  clear hR
  have wt:=Sw.went_of (rm:=rm) g
  have wo:=Sw.words_ok wt g wh
  walk_at "rd"
  refine ⟨t_HEADINGS,_,rfl,.inr (hT H1),fun h0 fh p fp=>?_⟩
  have e1:=zaf (o:=.lst (Sw.headW.map V.str)) fh
  have hh:upd H1 h0 (.lst (Sw.headW.map V.str)) h0=some (.lst (Sw.headW.map V.str)):=zab
  have e2:=e1.trans (zaf (o:=.lst [.ref h0]) fp)
  have hp:upd (upd H1 h0 (.lst (Sw.headW.map V.str))) p (.lst [.ref h0]) p=some (.lst [.ref h0]):=zab
  have hh:upd (upd H1 h0 (.lst (Sw.headW.map V.str))) p (.lst [.ref h0]) h0=some (.lst (Sw.headW.map V.str)):=(zaf (o:=.lst [.ref h0]) fp) _ _ hh
  have e2:Same H1 (upd (upd H1 h0 (.lst (Sw.headW.map V.str))) p (.lst [.ref h0])):=e2
  have lg:(Sw.dealtR rm qs).2.2.length<=31:=by
   have:=wt.pm.length_eq
   rw [List.length_map] at this
   rw [this]
   exact Nat.le_trans (Nat.le_trans (List.length_filter_le _ _) (by rw [List.length_range]; exact Nat.le_refl _)) q31
  have ld:=wt.dl
  refine (show rIxT K (V.ref r) (V.int 0) (upd (upd H1 h0 (.lst (Sw.headW.map V.str))) p (.lst [.ref h0])) _ from ?_)
  generalize upd (upd H1 h0 (.lst (Sw.headW.map V.str))) p (.lst [.ref h0])=H2 at e2 hp hh ⊢
  have s2:=s1.trans e2
  refine zaq (.of (e2 _ _ hr1)) (v:=.ref ga) rfl ⟨l,ps,qs,ga,gs,rm,n,M,a,c,rfl,R0.same s2,g,wh,e2 _ _ hg1,zcl rg1 e2,fun H3 wl wp s3 W3=>?_⟩
  have lw:=Paired.length W3.r
  rw [List.length_map] at lw
  refine ⟨p,wl,_,_,rfl,rfl,s3 _ _ hp,W3.hl,zds (by rw [List.length_map]; show 1+wp.length<=_; omega),fun p3 f3=>?_⟩
  have e4:=zaf (o:=.lst ([.ref h0]++wp.map V.ref)) f3
  have hp3:upd H3 p3 (.lst ([.ref h0]++wp.map V.ref)) p3=some (.lst ((h0 :: wp).map V.ref)):=zab
  have w4:WL (upd H3 p3 (.lst ([.ref h0]++wp.map V.ref))) (h0 :: wp) (Sw.headW :: (Sw.dealtR rm qs).2.2.map (Sw.rowG n rm qs)):=.cons (e4 _ _ (s3 _ _ hh)) (W3.r.same e4)
  generalize upd H3 p3 (.lst ([.ref h0]++wp.map V.ref))=H4 at e4 hp3 w4 ⊢
  have s4:=(e2.trans s3).trans e4
  have n60:qs.length<=60:=by omega
  refine zaq (.of (s4 _ _ hr1)) (v:=.ref da) rfl ⟨l,ps,qs,da,Sw.droppedR rm qs,rfl,R0.same (s1.trans s4),fun q hq=>⟨wh q hq,(g.pc q hq).1,(g.pc q hq).2.1⟩,s4 _ _ hd1,wt.dr,n60,Nat.le_trans wt.dl n60,fun H5 wl5 wp5 s5 W5=>?_⟩
  have lw5:=Paired.length W5.r
  rw [List.length_map] at lw5
  refine ⟨p3,wl5,_,_,rfl,rfl,s5 _ _ hp3,W5.hl,zds (by rw [List.length_map,List.length_map,List.length_cons]; omega),fun p6 f6=>?_⟩
  have e6:=zaf (o:=.lst ((h0 :: wp).map V.ref++wp5.map V.ref)) f6
  have w6:WL H5 ((h0 :: wp)++wp5) (Sw.wordsW n rm qs):=zjv (w4.same s5) W5.r
  have W6:WRows (upd H5 p6 (.lst ((h0 :: wp).map V.ref++wp5.map V.ref))) p6 ((h0 :: wp)++wp5) (Sw.wordsW n rm qs):=⟨by rw [zab,List.map_append],w6.same e6,znx w6 f6⟩
  generalize upd H5 p6 (.lst ((h0 :: wp).map V.ref++wp5.map V.ref))=H6 at e6 W6 ⊢
  refine ⟨p6,_,_,rfl,W6,(by unfold Sw.wordsW; intro z; cases z),(by unfold Sw.wordsW; rw [List.length_cons,List.length_append,List.length_map,List.length_map]; omega),wo,fun H7 s7=>k _ (((s1.trans s4).trans s5).trans (e6.trans s7))⟩
theorem zft (T:Txt K mg c_NoRatio c_Tide c_Wheel):Def P w K mg base (CXX P w) 1 "_law_cell_at" ["_law_script", "_law_k"] (ztb K):=by
 refine T.src__law_cell_at.okN (k:=0) zin (fun vs H Q E h=>?_) (fun f cdv A outer s H vs Q E hr h=>?_)
 ·obtain ⟨a,ns,i,rfl,_⟩:=h
  rfl
 ·obtain ⟨a,ns,i,rfl,hS,hi,k⟩:=h
  refine ⟨_,(zac (ps_if (zcb op_lt (pv 1) (zbn (zkz K rfl) rfl T.no_len boot_len (zaa (pv 0) zae)) (zcp _)) (zan (zay (pe_ix (zau K rfl) (pv 0) (pv 1) (fun _ _=>rfl)))) zdf) (zan (zay zaj))),?_⟩
  refine ⟨_,rfl,_,rfl,a,_,rfl,.inl hS,_,_,rfl,rfl,_,rfl,?_⟩
  refine ite2 (fun h=>?_) (fun h=>?_)
  ·have h':i<(ns.map V.int).length:=of_decide_eq_true h
   exact ⟨_,rfl,_,rfl,a,_,_,_,rfl,rfl,hS,zoe hi (by simpa using h'),k⟩
  ·have h':¬ i<(ns.map V.int).length:=fun z=>h (decide_eq_true z)
   show Q (.int 0) H
   rw [zme hi (by simpa using h')] at k
   exact k
theorem zsu (xs:List V) (n:Nat) (h:n<=xs.length):cutV xs (some (n:Int)) none=xs.drop n:=by
 unfold cutV
 rw [HT.sIx_none,HT.sIx_nat,Nat.min_eq_left h]
 exact List.take_of_length_le (by rw [List.length_drop]; omega)
def zsv:Sp:=fun vs H Q _=>∃ c mn,vs = [.int c,.int ((mn:Nat):Int)]/\mn<=60/\∀ p (ms:List Int) H',Same H H'->H p=none->H' p=some (.lst (ms.map V.int))->ms.length=mn->(∀ m∈ms,0<=m/\m<2147483647)->Q (.ref p) H'
theorem zgs (T:Txt K mg c_NoRatio c_Tide c_Wheel):Def P w K mg base (CXX P w) 1 "_law_stream" ["_law_cell", "_law_many"] zsv:=by
 refine T.src__law_stream.okN (k:=0) sc__law_stream (fun vs H Q E h=>?_) (fun f cdv A outer s H vs Q E hr h=>?_)
 ·obtain ⟨c,mn,rfl,_⟩:=h
  rfl
 ·obtain ⟨c,mn,rfl,mn6,k⟩:=h
  refine ⟨_,(zac (zal (i:=2) sc__law_stream.nd rfl (zbw zae)) (zac (zal (i:=3) sc__law_stream.nd rfl (pe_op zdu (pe_op zeg (pv 0) zaj) zaj)) (zac (zdq PassesOwn.never rfl (zfz rfl T.no_range (zaa (pe_op zdu (pv 1) zaj) zae)) (zap (i:=4) sc__law_stream.nd rfl (by first|left;rfl|right;rfl)) (zac (zal (i:=3) sc__law_stream.nd rfl (pe_op zeg (pe_op zdu (pe_op zdu (pe_op zdg (pv 3) (pv 3)) (pe_op zdg zaj (pv 3))) (pv 4)) zaj)) (zan (zbj (pe_bm PySem.F.plainAttrs_list PySem.F.slot_list_append PySem.F.type_list_append zaz (pv 2) (zaa (pv 3) zae)))))) (zan (zay (znc (zng K rfl) (pv 2) (zmb zaj) ztv)))))),?_⟩
  show tSeq _ _ _ [some (.int c),some (.int ((mn:Nat):Int)),none,none,none] H
  refine zad fun R hR=>?_
  walk_at "rd"
  intro p0 hp0
  refine hR _ _ ?_
  have s0:=zaf (o:=.lst []) hp0
  have h0:upd H p0 (.lst []) p0=some (.lst (([]:List Int).map V.int)):=zab
  generalize upd H p0 (.lst [])=H0 at s0 h0 ⊢
  refine zad fun R hR=>?_
  walk_at "rd"
  refine hR _ _ ?_
  have e1:=Int.emod_nonneg c (show (2147483647:Int)≠0 by decide)
  have e2:=Int.emod_lt_of_pos c (show (0:Int)<2147483647 by decide)
  generalize hx:c % 2147483647+48271=x
  have x0:0<=x:=by omega
  have x1:x<3000000000:=by omega
  clear hx e1 e2
  refine zad fun R hR=>?_
  refine zbo fun Z hZ=>?_
  walk_at "rd"
  have e1:((mn:Int)+1).toNat=mn+1:=by omega
  rw [e1]
  refine ⟨by omega,by omega,hZ _ _ ?_⟩
  refine zhw (fun i σ H'=>∃ n v4 ms,σ = [some (.int c),some (.int ((mn:Nat):Int)),some (.ref p0),some (.int n),v4]/\Same H H'/\H' p0=some (.lst ((ms:List Int).map V.int))/\ms.length=i/\(∀ m∈ms,0<=m/\m<2147483647)/\0<=n/\n<3000000000) ⟨x,none,[],rfl,s0,h0,rfl,fun m h=>absurd h List.not_mem_nil,x0,x1⟩ ?_ ?_
  ·rintro i σ H1 hi ⟨n,v4,ms,rfl,sm,hl,lm,mm,n0,n1⟩
   show tSeq _ _ _ [some (.int c),some (.int ((mn:Nat):Int)),some (.ref p0),some (.int n),some (.int (0+(i:Int)))] H1
   have zn:Sw.Sz 70 n:=Sw.Sz.r18 (by omega) (by omega)
   refine zad fun R hR=>?_
   walk_at "rd"
   refine ⟨⟨zn.mono (by decide),zn.mono (by decide)⟩,⟨Sw.Sz.lit (by decide),zn.mono (by decide)⟩,hR _ _ ?_⟩
   generalize hy:(n*n+48271*n+(0+(i:Int))) % 2147483647=y
   have y0:0<=y:=by rw [<- hy]; exact Int.emod_nonneg _ (by decide)
   have y1:y<2147483647:=by rw [<- hy]; exact Int.emod_lt_of_pos _ (by decide)
   refine zby fun R hR=>?_
   walk_at "rd"
   refine ⟨zdk hl,zgc hl (by rw [List.length_map]; omega) (hR _ _ ?_)⟩
   refine ⟨y,_,ms++[y],rfl,fun b o e=>?_,by rw [zab,List.map_append]; rfl,by simp [lm],fun m h=>?_,y0,by omega⟩
   ·rw [zai (zah e hp0)]; exact sm _ _ e
   ·rcases List.mem_append.mp h with z | z
    ·exact mm m z
    ·have:m=y:=by simpa using z
     subst this
     exact ⟨y0,y1⟩
  ·rintro σ H1 ⟨n,v4,ms,rfl,sm,hl,lm,mm,n0,n1⟩
   refine hR _ _ ?_
   walk_at "rd"
   refine ztc (.of hl) fun p hp=>?_
   have lm:ms.length=mn+1:=by simpa using lm
   have ec:=zsu (ms.map V.int) 1 (by rw [List.length_map]; omega)
   refine k p (ms.drop 1) _ (sm.trans (zaf hp)) (sm.free hp) (by rw [zab]; exact congrArg (fun z=>some (HO.lst z)) (ec.trans (by rw [List.map_drop]))) (by rw [List.length_drop,lm]; omega) fun m h=>mm m (List.mem_of_mem_drop h)
theorem zvq (xs:List V) (lo hi:Nat):(cutV xs (some (lo:Int)) (some (hi:Int))).length<=hi-lo:=by
 unfold cutV
 rw [HT.sIx_nat,HT.sIx_nat,List.length_take]
 omega
theorem pickX {K:PySem.W.Frag} {H:Hp} {t:Addr} {i:Int} {Q:VK} (xs:List Int) (h0:0<=i) (h1:i<xs.length) (k:∀ z:Int,xs[i.toNat]? = some z->Q (.int z) (upd H t (.lst (xs.map V.int)))):rIxL K (.ref t) (.int i) (upd H t (.lst (xs.map V.int))) Q:=by
 have:=zcc (xs:=xs.map V.int) (j:=i.toNat) (v:=V.int (xs[i.toNat]'(by omega))) (by simp)
 rw [Int.toNat_of_nonneg h0] at this
 exact zcd (.of zab) this (k _ (List.getElem?_eq_getElem _))
def spRow (K:PySem.W.Frag):Sp:=fun vs H Q _=>∃ (a:Addr) (ns:List Int),vs = [.ref a]/\SqL K H a (ns.map V.int)/\ns.length<=63/\∀ H' l ps qs,Same H H'->H l=none->Row H' l ps qs->qs.length<=14->(∃ n M a c,Sw.Good n M a c qs)->(∀ q∈qs,0<=q.2.1/\q.2.1<=11)->Q (.ref l) H'
theorem zop (T:Txt K mg c_NoRatio c_Tide c_Wheel):Def P w K mg base (CXX P w) 2 "_law_row" ["_law_script"] (spRow K):=by
 have D__law_stream:=zgs (P:=P) (w:=w) (base:=base) T
 have D__law_cell_at:=zft (P:=P) (w:=w) (base:=base) T
 refine T.src__law_row.okN (k:=1) sc__law_row (fun vs H Q E h=>?_) (fun f cdv A outer s H vs Q E hr h=>?_)
 ·obtain ⟨a,ns,rfl,_⟩:=h
  rfl
 ·obtain ⟨a,ns,rfl,hS,hlen,k⟩:=h
  refine ⟨_,(zac (zal (i:=1) sc__law_row.nd rfl (pe_op zeg (zao D__law_cell_at (hr.mono (by decide)) rfl passN (zaa (pv 0) (zaa zaj zae))) zaj)) (zac (zal (i:=2) sc__law_row.nd rfl (pe_op zeg (pv 1) zaj)) (zac (zal (i:=3) sc__law_row.nd rfl (pe_ix (zau K rfl) (zbw (zaa zaj (zaa zaj (zaa (pe_op zoy (pe_op zja zaj zaj) (pe_op zja zaj zaj)) zae)))) (pv 2) (fun _ _=>rfl))) (zac (zal (i:=4) sc__law_row.nd rfl (zbw zae)) (zac (zdq PassesOwn.never rfl (zav K rfl (znc (zng K rfl) (pv 0) (zmb zaj) (zmb (pe_op zdu zaj (pe_ix (zau K rfl) (zbw (zaa zaj (zaa zaj (zaa zaj zae)))) (pv 2) (fun _ _=>rfl)))))) (zap (i:=5) sc__law_row.nd rfl (by first|left;rfl|right;rfl)) (zac (zal (i:=6) sc__law_row.nd rfl (zao D__law_stream (hr.mono (by decide)) rfl passN (zaa (pv 5) (zaa zaj zae)))) (zac (zal (i:=3) sc__law_row.nd rfl (pe_op zdu (pv 3) (pe_op zeg (pe_ix (zau K rfl) (pv 6) zaj (fun _ _=>rfl)) (pe_ix (zau K rfl) (zbw (zaa zaj (zaa zaj (zaa (pe_op zja zaj zaj) zae)))) (pv 2) (fun _ _=>rfl))))) (zac (zal (i:=7) sc__law_row.nd rfl (pe_op zdu zaj (pe_op zeg (pe_ix (zau K rfl) (pv 6) zaj (fun _ _=>rfl)) (pe_ix (zau K rfl) (zbw (zaa zaj (zaa zaj (zaa (pe_op zja zaj zaj) zae)))) (pv 2) (fun _ _=>rfl))))) (zan (zbj (pe_bm PySem.F.plainAttrs_list PySem.F.slot_list_append PySem.F.type_list_append zaz (pv 4) (zaa (zcg (zaa (pv 3) (zaa (pe_op zeg (pe_ix (zau K rfl) (pv 6) zaj (fun _ _=>rfl)) (pe_op zdu zaj (pe_op zeg (pe_op znd (pv 1) zaj) zaj))) (zaa (pv 7) (zaa (pe_op zdu zaj (pe_op zeg (pe_ix (zau K rfl) (pv 6) zaj (fun _ _=>rfl)) (pe_ix (zau K rfl) (zbw (zaa zaj (zaa zaj (zaa (pe_op zja zaj zaj) zae)))) (pv 2) (fun _ _=>rfl)))) zae))))) zae)))))))) (zan (zay (pv 4)))))))),?_⟩
  show tSeq _ _ _ [some (.ref a),none,none,none,none,none,none,none] H
  refine zad fun R hR=>?_
  walk_at "rd"
  refine zky hS (by decide) ?_
  walk_at "rd"
  refine hR _ _ ?_
  clear hR
  have k0:=Int.emod_nonneg (cellI ns 0) (show (2147483647:Int)≠0 by decide)
  generalize cellI ns 0 % 2147483647=kind at k0 ⊢
  refine zad fun R hR=>?_
  walk_at "rd"
  refine hR _ _ ?_
  clear hR
  generalize hw:kind % 3=way
  have w0:0<=way/\way<3:=by omega
  clear hw
  refine zad fun R hR=>?_
  walk_at "rd"
  intro q1 f1
  refine pickX [0,95,999900000000] w0.1 w0.2 fun at0 hm1=>hR _ _ ?_
  clear hR
  have a0:0<=at0/\at0<=999900000000:=by
   have hm:=List.mem_of_getElem? hm1
   simp only [List.mem_cons,List.not_mem_nil,or_false] at hm
   omega
  have s1:=zaf (o:=.lst (([0,95,999900000000]:List Int).map V.int)) f1
  generalize upd H q1 (.lst (([0,95,999900000000]:List Int).map V.int))=H1 at s1 ⊢
  clear hm1 f1
  refine zad fun R hR=>?_
  walk_at "rd"
  intro l hl
  refine hR _ _ ?_
  clear hR
  have hl0:H l=none:=s1.free hl
  have s2:=zaf (o:=.lst []) hl
  have hl2:upd H1 l (.lst []) l=some (.lst (([]:List Addr).map V.ref)):=zab
  have sm2:=s1.trans s2
  generalize upd H1 l (.lst [])=H2 at hl2 sm2 ⊢
  clear s1 s2 hl
  refine zad fun R hR=>?_
  refine zbo fun Z hZ=>?_
  walk_at "rd"
  intro q2 f2
  refine pickX [14,14,5] w0.1 w0.2 fun hi hm2=>⟨_,rfl,?_⟩
  have b2:1<=hi/\hi<=14:=by
   have hm:=List.mem_of_getElem? hm2
   simp only [List.mem_cons,List.not_mem_nil,or_false] at hm
   omega
  have n2:=zaf (o:=.lst (([14,14,5]:List Int).map V.int)) f2
  have hl2:=n2 _ _ hl2
  have sm2:=sm2.trans n2
  generalize upd H2 q2 (.lst (([14,14,5]:List Int).map V.int))=H3 at hl2 sm2 ⊢
  clear n2 f2
  obtain ⟨ms,em,hm3⟩:=zpr ns (some 2) (some (2+hi))
  have lms:(ms.length:Int)<=hi:=by
   have e:=zvq (ns.map V.int) 2 (2+hi).toNat
   have e1:(((2+hi).toNat:Nat):Int) = 2+hi:=by omega
   rw [e1] at e
   have e2:cutV (ns.map V.int) (some ((2:Nat):Int)) (some (2+hi))=ms.map V.int:=em
   rw [e2,List.length_map] at e
   omega
  refine ztc (sm2.seq hS) fun p hp=>?_
  have npl:p≠l:=fun z=>by rw [z,hl2] at hp; cases hp
  have n3:=zaf (o:=.lst (cutV (ns.map V.int) (some 2) (some (2+hi)))) hp
  have hl3:=n3 _ _ hl2
  have sm3:=sm2.trans n3
  have hp3:upd H3 p (.lst (cutV (ns.map V.int) (some 2) (some (2+hi)))) p=some (.lst (ms.map V.int)):=by rw [zab,em]
  generalize upd H3 p (.lst (cutV (ns.map V.int) (some 2) (some (2+hi))))=H4 at hl3 sm3 hp3 ⊢
  clear n3 hp hl2 sm2 em
  refine ⟨p,rfl,⟨_,.of hp3⟩,hZ _ _ ?_⟩
  have cls:(hi<=8/\way = 2)\/way≠2:=by
   by_cases w2:way = 2
   ·subst w2
    simp at hm2
    exact .inl ⟨by omega,rfl⟩
   ·exact .inr w2
  refine zdp (K:=K) (a:=p) (xs:=ms.map V.int) (fun i σ H'=>∃ at_ ps qs v5 v6 v7,σ = [some (.ref a),some (.int kind),some (.int way),some (.int at_),some (.ref l),v5,v6,v7]/\Same H H'/\H' p=some (.lst (ms.map V.int))/\Row H' l ps qs/\qs.length=i/\0<=at_/\at_<=999900000000+1000001*i/\(∀ q∈qs,0<=q.1/\q.1<=at_/\1<=q.2.2.1/\q.2.2.1<=1000000/\1<=q.2.2.2/\q.2.2.2<=1000000/\(way≠2->q.2.2.2<=99)/\0<=q.2.1/\q.2.1<=11)/\qs.Pairwise (fun a b=>a.1<=b.1)) ⟨at0,[],[],none,none,none,rfl,sm3,hp3,⟨hl3,.nil⟩,rfl,a0.1,by simp; omega,fun q h=>absurd h List.not_mem_nil,.nil⟩ (fun i σ H' _ ⟨_,_,_,_,_,_,_,_,h,_⟩=>.of h) ?_ ?_
  ·rintro i y σ H5 hy ⟨at_,ps,qs,v5,v6,v7,rfl,sm,hp5,R5,lq,t0,t1,qk,pw⟩
   obtain ⟨c,hc,rfl⟩:∃ c,ms[i]? = some c/\V.int c=y:=by simpa using hy
   have hil:i<ms.length:=(List.getElem?_eq_some_iff.mp hc).1
   show tSeq _ _ _ [some (.ref a),some (.int kind),some (.int way),some (.int at_),some (.ref l),some (.int c),v6,v7] H5
   refine zby fun N hN=>?_
   refine zad fun R hR=>?_
   walk_at "rd"
   refine ⟨c,4,rfl,by decide,fun xp xs H6 s6 _ hx lx xm=>hR _ _ ?_⟩
   clear hR
   match xs,lx with
   | [x0,x1,x2,x3],_ =>
    have hx0:∀ {HH:Hp},Same H6 HH->SqL K HH xp [.int x0,.int x1,.int x2,.int x3]:=fun sh=>.of (sh _ _ hx)
    have m0:=xm x0 (by simp)
    have m1:=xm x1 (by simp)
    have m2:=xm x2 (by simp)
    have m3:=xm x3 (by simp)
    have sm:=sm.trans s6
    have hp5:=s6 _ _ hp5
    have R5:=R5.same s6
    clear s6 xm
    refine zad fun R hR=>?_
    walk_at "rd"
    refine zcd (hx0 (Same.refl _)) (show atI [V.int x0,.int x1,.int x2,.int x3] 0=some (.int x0) from rfl) ?_
    intro q4' f4
    refine pickX [3,12,1000000] w0.1 w0.2 fun z hz=>⟨_,rfl,z,rfl,?_,hR _ _ ?_⟩
    ·have hm:=List.mem_of_getElem? hz
     simp only [List.mem_cons,List.not_mem_nil,or_false] at hm
     omega
    clear hR
    have z1:0<z/\z<=1000001:=by
     have hm:=List.mem_of_getElem? hz
     simp only [List.mem_cons,List.not_mem_nil,or_false] at hm
     omega
    have s7:=zaf (o:=.lst (([3,12,1000000]:List Int).map V.int)) f4
    have sA:=s7
    generalize upd H6 q4' (.lst (([3,12,1000000]:List Int).map V.int))=H7 at s7 sA ⊢
    clear f4 hz
    have u0:=Int.emod_nonneg x0 (show z≠0 by omega)
    have u1:=Int.emod_lt_of_pos x0 z1.1
    generalize hat:at_ + x0 % z=at1
    have at1b:at_<=at1/\at1<=at_ + 1000001:=by omega
    clear hat u0 u1 z1
    refine zad fun R hR=>?_
    walk_at "rd"
    refine zcd (hx0 sA) (show atI [V.int x0,.int x1,.int x2,.int x3] 1=some (.int x1) from rfl) ?_
    intro q5 f5
    refine pickX [9,14,1000000] w0.1 w0.2 fun z hz=>⟨_,rfl,z,rfl,?_,hR _ _ ?_⟩
    ·have hm:=List.mem_of_getElem? hz
     simp only [List.mem_cons,List.not_mem_nil,or_false] at hm
     omega
    clear hR
    have z1:0<z/\z<=1000000:=by
     have hm:=List.mem_of_getElem? hz
     simp only [List.mem_cons,List.not_mem_nil,or_false] at hm
     omega
    have sA:=sA.trans (zaf (o:=.lst (([9,14,1000000]:List Int).map V.int)) f5)
    generalize upd H7 q5 (.lst (([9,14,1000000]:List Int).map V.int))=H8 at sA ⊢
    clear f5 hz s7
    have u0:=Int.emod_nonneg x1 (show z≠0 by omega)
    have u1:=Int.emod_lt_of_pos x1 z1.1
    generalize hle:1+x1 % z=len
    have lenb:1<=len/\len<=1000000:=by omega
    clear hle u0 u1 z1
    walk_at "rd"
    have R9:=R5.same sA
    refine ⟨zdk R9.hl,?_⟩
    refine zcd (hx0 sA) (show atI [V.int x0,.int x1,.int x2,.int x3] 3=some (.int x3) from rfl) ?_
    refine ⟨_,rfl,by omega,?_⟩
    have sw:0<1+kind / 3 % 12:=by omega
    have sw0:=Int.emod_nonneg x3 (show 1+kind / 3 % 12≠0 by omega)
    have sw1:=Int.emod_lt_of_pos x3 sw
    have sw2:x3 % (1+kind / 3 % 12)<=11:=by omega
    generalize x3 % (1+kind / 3 % 12)=who at sw0 sw2 ⊢
    refine zcd (hx0 sA) (show atI [V.int x0,.int x1,.int x2,.int x3] 2=some (.int x2) from rfl) ?_
    intro q6 f6
    refine pickX [9,3,1000000] w0.1 w0.2 fun z hz=>⟨_,rfl,z,rfl,?_,?_⟩
    ·have hm:=List.mem_of_getElem? hz
     simp only [List.mem_cons,List.not_mem_nil,or_false] at hm
     omega
    have z1:0<z/\z<=1000000:=by
     have hm:=List.mem_of_getElem? hz
     simp only [List.mem_cons,List.not_mem_nil,or_false] at hm
     omega
    have z2:way≠2->z<=50:=fun w2=>by
     have w5:way = 0\/way = 1:=by omega
     rcases w5 with rfl | rfl <;> simp at hz <;> omega
    have sA:=sA.trans (zaf (o:=.lst (([9,3,1000000]:List Int).map V.int)) f6)
    generalize upd H8 q6 (.lst (([9,3,1000000]:List Int).map V.int))=H10 at sA ⊢
    clear f6 hz
    have u0:=Int.emod_nonneg x2 (show z≠0 by omega)
    have u1:=Int.emod_lt_of_pos x2 z1.1
    generalize hsh:1+x2 % z=sh
    have shb:1<=sh/\sh<=1000000/\(way≠2->sh<=99):=⟨by omega,by omega,fun w2=>by have:=z2 w2; omega⟩
    clear hsh u0 u1 z1 z2
    intro tp ftp
    have sA:=sA.trans (zaf (o:=.tup [.int at1,.int who,.int len,.int sh]) ftp)
    have htp:upd H10 tp (.tup [.int at1,.int who,.int len,.int sh]) tp=some (.tup (q4 (at1,who,len,sh))):=zab
    generalize upd H10 tp (.tup [.int at1,.int who,.int len,.int sh])=H11 at sA htp ⊢
    have R11:=R5.same sA
    have hp11:=sA _ _ hp5
    have lr:=R11.r.len
    have kt:∀ b xs,H11 b=some (.tup xs)->upd H11 l (.lst (ps.map V.ref++[.ref tp])) b=some (.tup xs):=fun b xs e=>zel R11.hl e
    refine zgc R11.hl (by rw [List.length_map]; omega) (hN _ _ ⟨at1,ps++[tp],qs++[(at1,who,len,sh)],_,_,_,rfl,fun b o e=>?_,?_,⟨?_,?_⟩,by rw [List.length_append,lq]; rfl,by omega,by push_cast; omega,fun q hq=>?_,?_⟩)
    ·rw [zai (zah e hl0)]; exact sA _ _ (sm _ _ e)
    ·rw [zai npl]; exact hp11
    ·rw [zab,List.map_append]; rfl
    ·exact Tups.snoc (kt _ _ htp) (R11.r.keep kt)
    ·rcases List.mem_append.mp hq with y | y
     ·have:=qk q y
      omega
     ·have:q = _:=List.mem_singleton.mp y
      rw [this]
      exact ⟨by omega,Int.le_refl _,lenb.1,lenb.2,shb.1,shb.2.1,shb.2.2,sw0,sw2⟩
    ·rw [List.pairwise_append]
     refine ⟨pw,by simp,fun u hu v hv=>?_⟩
     have:v = _:=List.mem_singleton.mp hv
     rw [this]
     have:=qk u hu
     show u.1<=at1
     omega
  ·rintro σ H5 ⟨at_,ps,qs,v5,v6,v7,rfl,sm,hp5,R5,lq,t0,t1,qk,pw⟩
   rw [List.length_map] at lq t1
   refine hR _ _ ?_
   walk_at "rd"
   refine k H5 l ps qs sm hl0 R5 (by omega) ?_ fun q hq=>⟨(qk q hq).2.2.2.2.2.2.2.1,(qk q hq).2.2.2.2.2.2.2.2⟩
   rcases cls with ⟨h8,_⟩ | nw
   ·exact ⟨16,1000000,24,44,⟨Sw.fit16,by omega,fun q hq=>by have:=qk q hq; exact ⟨by omega,by omega,by omega,by omega,by omega,by omega⟩,pw⟩⟩
   ·exact ⟨60,99,13,20,⟨Sw.fit60,by omega,fun q hq=>by have:=qk q hq; have:=this.2.2.2.2.2.2.1 nw; exact ⟨by omega,by omega,by omega,by omega,by omega,by omega⟩,pw⟩⟩
structure RmS (H:Hp) (rl:Addr) (kvs:List (Key×V)) (rm:Int->Option Int):Prop where
 hd:H rl=some (.dK kvs)
 hv:∀ w:Int,valV kvs (Sum.inl w:Key)=(rm w).map V.int
 al:∀ kv∈kvs,∃ n:Int,kv.2=V.int n
 nd:(kvs.map (·.1)).Nodup
theorem zvr {kvs:List (Key×V)} {k:Key} {v:V} (h:(kvs.map (·.1)).Nodup):((putK kvs k v).map (·.1)).Nodup:=by
 unfold putK
 split
 ·have:(kvs.map fun kv=>if kv.1=k then (kv.1,v) else kv).map (·.1)=kvs.map (·.1):=by
   rw [List.map_map]
   refine List.map_congr_left fun kv _=>?_
   show (if kv.1=k then (kv.1,v) else kv).1=kv.1
   split <;> rfl
  rw [this]
  exact h
 ·rename_i c
  rw [List.map_append]
  refine List.nodup_append.mpr ⟨h,by simp,fun y hy z hz=>?_⟩
  have:z=k:=by simpa using hz
  subst this
  intro e
  subst e
  obtain ⟨kv,h1,h2⟩:=List.mem_map.mp hy
  exact c (List.any_eq_true.mpr ⟨kv,h1,by simpa using h2⟩)
theorem zvs {kvs:List (Key×V)} {k:Key} {n:Int} (h:∀ kv∈kvs,∃ n:Int,kv.2=V.int n):∀ kv∈putK kvs k (.int n),∃ n:Int,kv.2=V.int n:=by
 intro kv hkv
 unfold putK at hkv
 split at hkv
 ·obtain ⟨p,hp,rfl⟩:=List.mem_map.mp hkv
  split
  ·exact ⟨n,rfl⟩
  ·exact h p hp
 ·rcases List.mem_append.mp hkv with z | z
  ·exact h kv z
  ·have:kv=(k,.int n):=by simpa using z
   exact ⟨n,by rw [this]⟩
theorem zvt {kvs:List (Key×V)} {rm:Int->Option Int} {w0 n:Int} (hv:∀ w:Int,valV kvs (Sum.inl w:Key)=(rm w).map V.int):∀ w:Int,valV (putK kvs (Sum.inl w0) (.int n)) (Sum.inl w:Key)=((fun w=>if w=w0 then some n else rm w) w).map V.int:=by
 intro w
 rw [zkg]
 by_cases e:w=w0
 ·rw [if_pos (by rw [e])]
  show _=Option.map V.int (if w=w0 then some n else rm w)
  rw [if_pos e]; rfl
 ·rw [if_neg (fun z=>e (by cases z; rfl))]
  show _=Option.map V.int (if w=w0 then some n else rm w)
  rw [if_neg e]; exact hv w
theorem sum_pos:∀ ms:List Int,(∀ m∈ms,1<=m)->0<=ms.sum
 | [],_=>Int.le_refl _
 | m :: r,h=>by
  rw [List.sum_cons]
  have h1:=h m (by simp)
  have h2:=sum_pos r fun m hm=>h m (List.mem_cons_of_mem _ hm)
  omega
def zvu:Sp:=fun vs H Q _=>∃ c l ps qs,vs = [.int c,.ref l]/\Row H l ps qs/\qs.length<=60/\(∀ q∈qs,1<=q.2.2.1)/\(∀ H',Same H H'->Q .non H')/\∀ rl kvs rm H',Same H H'->RmS H' rl kvs rm->kvs.length<=12->Q (.ref rl) H'
theorem zlw (T:Txt K mg c_NoRatio c_Tide c_Wheel):Def P w K mg base (CXX P w) 2 "_law_rooms" ["_law_cell", "_law_row_here"] zvu:=by
 have D__law_stream:=zgs (P:=P) (w:=w) (base:=base) T
 refine T.src__law_rooms.okN (k:=1) sc__law_rooms (fun vs H Q E h=>?_) (fun f cdv A outer s H vs Q E hr h=>?_)
 ·obtain ⟨c,l,ps,qs,rfl,_⟩:=h
  rfl
 ·obtain ⟨c,l,ps,qs,rfl,R0,n60,ql,k0,k⟩:=h
  refine ⟨_,(zac (ps_if (zcb op_eq (pe_op zeg (pv 0) zaj) zaj (zcp _)) (zan (zay zix)) zdf) (zac (zal (i:=2) sc__law_rooms.nd rfl zgf) (zac (zal (i:=3) sc__law_rooms.nd rfl (zao D__law_stream (hr.mono (by decide)) rfl passN (zaa (pv 0) (zaa zaj zae)))) (zac (zdq PassesOwn.never rfl (zfz rfl T.no_range (zaa zaj zae)) (zap (i:=4) sc__law_rooms.nd rfl (by first|left;rfl|right;rfl)) (zan (ps_if (zcb op_eq (pe_op zeg (pe_ix (zau K rfl) (pv 3) (pv 4) (fun _ _=>rfl)) zaj) zaj (zcp _)) (zan (zid (hu_of hr) (pv 2) (pv 4) (pe_op zeg (pe_ix (zau K rfl) (pv 3) (pe_op zdu (pv 4) zaj) (fun _ _=>rfl)) (pe_op zdu zaj (zbn (zgb K rfl rfl) rfl T.no_sum boot_sum (zaa (pe_lc ["_law_piece"] [("_law_who", 4)] rfl (by with_unfolding_all rfl) (by decide +kernel) rfl (by decide +kernel) (by exact ⟨rfl,True.intro⟩) (by with_unfolding_all rfl) ⟨⟨rfl,rfl,rfl⟩,True.intro⟩ (zav K rfl (pv 1)) (fun _ _ _=>(zap (i:=0) (show (["_law_piece", "_law_who"]:List Str).Nodup from by decide +kernel) rfl (by first|left;rfl|right;rfl))) (fun _ _ _=>(zga (zcb op_eq (pe_ix (zam K rfl) (pv 0) zaj (fun _ _=>rfl)) (pv 1) (zcp _)))) (fun _ _ _=>(pe_ix (zam K rfl) (pv 0) zaj (fun _ _=>rfl)))) zae)))) rfl)) zdf))) (zan (zay (pv 2))))))),?_⟩
  show tSeq _ _ _ [some (.int c),some (.ref l),none,none,none] H
  have len:=R0.r.len
  refine zad fun R hR=>?_
  walk_at "rd"
  refine ite2 (fun _=>k0 _ (Same.refl _)) fun _=>hR _ _ ?_
  clear hR
  refine zad fun R hR=>?_
  walk_at "rd"
  intro rl frl
  refine hR _ _ ?_
  clear hR
  have s1:=zaf (o:=.dK []) frl
  have hd1:upd H rl (.dK []) rl=some (.dK []):=zab
  generalize upd H rl (.dK [])=H1 at s1 hd1 ⊢
  refine zad fun R hR=>?_
  walk_at "rd"
  refine ⟨c,24,rfl,by decide,fun xp xs H2 s2 _ hx lx xm=>hR _ _ ?_⟩
  clear hR
  have hd2:=s2 _ _ hd1
  have s2:=s1.trans s2
  refine zad fun R hR=>?_
  refine zbo fun Z hZ=>?_
  walk_at "rd"
  refine hZ _ _ ?_
  refine zhw (fun i σ H'=>∃ kvs rm v4,σ = [some (.int c),some (.ref l),some (.ref rl),some (.ref xp),v4]/\Same H H'/\H' xp=some (.lst (xs.map V.int))/\RmS H' rl kvs rm/\kvs.length<=i) ⟨[],fun _=>none,none,rfl,s2,hx,⟨hd2,fun w=>rfl,fun kv h=>absurd h List.not_mem_nil,List.nodup_nil⟩,Nat.le_refl _⟩ ?_ ?_
  ·rintro i σ H3 hi ⟨kvs,rm,v4,rfl,sm,hx3,RS,kn⟩
   have hi:i<12:=hi
   have R3:=R0.same sm
   obtain ⟨xi,hxi⟩:∃ z,xs[i]? = some z:=⟨_,List.getElem?_eq_getElem (by omega)⟩
   obtain ⟨yi,hyi⟩:∃ z,xs[i+12]? = some z:=⟨_,List.getElem?_eq_getElem (by omega)⟩
   have ha:atI (xs.map V.int) (0+(i:Int))=some (.int xi):=by
    rw [Int.zero_add]
    exact zcc (by rw [List.getElem?_map,hxi]; rfl)
   have hb:atI (xs.map V.int) (0+(i:Int)+12)=some (.int yi):=by
    have:=zcc (xs:=xs.map V.int) (j:=i+12) (v:=.int yi) (by rw [List.getElem?_map,hyi]; rfl)
    rw [show (0+(i:Int)+12)=((i+12:Nat):Int) by omega]
    exact this
   show tIfS _ _ _ _ [some (.int c),some (.ref l),some (.ref rl),some (.ref xp),some (.int (0+(i:Int)))] H3
   refine zby fun N hN=>?_
   walk_at "rd"
   refine zcd (.of hx3) ha ⟨xi,rfl,ite2 (fun _=>?_) fun _=>hN _ _ ⟨kvs,rm,_,rfl,sm,hx3,RS,by omega⟩⟩
   refine zcd (.of hx3) hb ?_
   refine ⟨⟨_,.of R3.hl⟩,fun D hD=>?_⟩
   show CompG _ _ _ _ D [none,some (.int (0+(i:Int)))] _ _
   refine zbb (xs:=ps.map V.ref) (fun m τ H'=>(∃ v1,τ = [v1,some (.int (0+(i:Int)))])/\Same H3 H'/\∃ ms:List Int,H' D=some (.lst (ms.map V.int))/\ms.length<=m/\∀ x∈ms,1<=x) ⟨⟨none,rfl⟩,zaf hD,[],zab,Nat.le_refl _,fun x h=>absurd h List.not_mem_nil⟩ (fun m τ H' _ ⟨_,s',_⟩=>.of (s' _ _ R3.hl)) ?_ ?_
   ·rintro m y τ H' hy ⟨⟨v1,rfl⟩,s',ms,hDl,ml,mm⟩
    obtain ⟨pp,hpp,rfl⟩:∃ p,ps[m]? = some p/\V.ref p=y:=by simpa using hy
    obtain ⟨q,hq,hq4⟩:=R3.r.get hpp
    have hm:m<qs.length:=(List.getElem?_eq_some_iff.mp hq).1
    walk_at "rd"
    refine zaq (v:=.int q.2.1) (.of (s' _ _ hq4)) rfl ⟨rfl,?_⟩
    refine ite2 (fun _=>?_) fun _=>⟨s',ms,hDl,by omega,mm⟩
    refine zaq (v:=.int q.2.2.1) (.of (s' _ _ hq4)) rfl ?_
    refine ⟨_,hDl,line_lt (by rw [List.length_map]; omega),fun b o e=>?_,ms++[q.2.2.1],by rw [zab,List.map_append]; rfl,by rw [List.length_append]; simp only [List.length_cons,List.length_nil]; omega,fun x hx=>?_⟩
    ·rw [zai (zah e hD)]; exact s' _ _ e
    ·rcases List.mem_append.mp hx with z | z
     ·exact mm x z
     ·have:x=q.2.2.1:=by simpa using z
      rw [this]; exact ql q (List.mem_of_getElem? hq)
   rintro τ H4 ⟨_,s4,ms,hDl,ml,mm⟩
   have sp0:0<=ms.sum:=sum_pos ms mm
   have hx4:=s4 _ _ hx3
   have hd4:=s4 _ _ RS.hd
   have sm4:=sm.trans s4
   have lp:=zew kvs (Sum.inl (0+(i:Int)):Key) (.int (yi % (2+ms.sum)))
   refine ⟨D,ms,rfl,.of hDl,_,rfl,yi,rfl,by omega,_,DPut.k (k:=Sum.inl (0+(i:Int))) hd4 (line_lt (by omega)),hN _ _ ⟨_,fun w=>if w = 0+(i:Int) then some (yi % (2+ms.sum)) else rm w,_,rfl,fun b o e=>?_,?_,⟨zab,zvt RS.hv,zvs RS.al,zvr RS.nd⟩,by omega⟩⟩
   ·rw [zai (zah e frl)]; exact sm4 _ _ e
   ·rw [zai (ne_of hx4 hd4 (by intro z; cases z))]; exact hx4
  ·rintro σ H3 ⟨kvs,rm,v4,rfl,sm,hx3,RS,kn⟩
   refine hR _ _ ?_
   walk_at "rd"
   exact k rl kvs rm H3 sm RS kn
def spLW:Sp:=fun vs H Q _=>∃ l ps qs ga gs da rm n M a c,vs = [.ref l,.ref ga,.ref da]/\Row H l ps qs/\Sw.Good n M a c qs/\(∀ q∈qs,0<=q.2.1/\q.2.1<=1000)/\H ga=some (.lst (gs.map V.ref))/\TupsF goE H gs (Sw.dealtR rm qs).2.2/\H da=some (.lst ((Sw.droppedR rm qs).map natI))/\∀ H' wl wp,Same H H'->WRows H' wl wp (Sw.wordsW n rm qs)->Q (.ref wl) H'
theorem zlx (T:Txt K mg c_NoRatio c_Tide c_Wheel):Def P w K mg base (CXX P w) 9 "_law_words" ["_law_row_here", "_law_goings", "_law_dropped"] spLW:=by
 have D_spans:=zrf (P:=P) (w:=w) (base:=base) T
 have D_show_fraction:=zfj (P:=P) (w:=w) (base:=base) T
 refine T.src__law_words.okN (k:=8) sc__law_words (fun vs H Q E h=>?_) (fun f cdv A outer s H vs Q E hr h=>?_)
 ·obtain ⟨l,ps,qs,ga,gs,da,rm,n,M,a,c,rfl,_⟩:=h
  rfl
 ·obtain ⟨l,ps,qs,ga,gs,da,rm,n,M,a,c,rfl,R0,g,wh,hg,rg,hda,k⟩:=h
  refine ⟨_,(zac (zal (i:=3) sc__law_words.nd rfl (zbn (zjm K rfl) rfl T.no_sorted boot_sorted (zaa (pe_lc ["_law_place", "_law_start"] [] rfl (by with_unfolding_all rfl) (by decide +kernel) rfl (by decide +kernel) (by exact True.intro) (by with_unfolding_all rfl) True.intro (zav K rfl (pv 1)) (fun _ _ _=>(zci (n:=2) K rfl rfl (zat (zap (i:=0) (show (["_law_place", "_law_start"]:List Str).Nodup from by decide +kernel) rfl (by first|left;rfl|right;rfl)) (zat (zap (i:=1) (show (["_law_place", "_law_start"]:List Str).Nodup from by decide +kernel) rfl (by first|left;rfl|right;rfl)) zcf)))) (fun _ _ _=>zbs) (fun _ _ _=>(pv 0))) zae))) (zac (zal (i:=4) sc__law_words.nd rfl (zao D_spans (hr.mono (by decide)) rfl passN (zaa (pe_lc ["_law_place"] [("_law_row_here", 0)] rfl (by with_unfolding_all rfl) (by decide +kernel) rfl (by decide +kernel) (by exact ⟨rfl,True.intro⟩) (by with_unfolding_all rfl) ⟨⟨rfl,rfl,rfl⟩,True.intro⟩ (zav K rfl (pv 3)) (fun _ _ _=>(zap (i:=0) (show (["_law_place", "_law_row_here"]:List Str).Nodup from by decide +kernel) rfl (by first|left;rfl|right;rfl))) (fun _ _ _=>zbs) (fun _ _ _=>(pe_ix (zau K rfl) (pv 1) (pv 0) (fun _ _=>rfl)))) zae))) (zac (zal (i:=5) sc__law_words.nd rfl (zbw (zaa (zbw (zaa zce (zaa zce (zaa zce (zaa zce (zaa zce (zaa zce zae))))))) zae))) (zac (zdq PassesOwn.never rfl (zav K rfl (pv 1)) (zci (n:=2) K rfl rfl (zat (zap (i:=6) sc__law_words.nd rfl (by first|left;rfl|right;rfl)) (zat (zap (i:=7) sc__law_words.nd rfl (by first|left;rfl|right;rfl)) zcf))) (zac (zou (pe_ix (zau K rfl) (pv 0) (pv 6) (fun _ _=>rfl)) (zci (n:=4) K rfl rfl (zat (zap (i:=8) sc__law_words.nd rfl (by first|left;rfl|right;rfl)) (zat (zap (i:=9) sc__law_words.nd rfl (by first|left;rfl|right;rfl)) (zat (zap (i:=10) sc__law_words.nd rfl (by first|left;rfl|right;rfl)) (zat (zap (i:=11) sc__law_words.nd rfl (by first|left;rfl|right;rfl)) zcf)))))) (zac (zqe (i0:=12) ["_law_number"] [] rfl (by with_unfolding_all rfl) (by decide +kernel) rfl (by decide +kernel) (by exact True.intro) (by with_unfolding_all rfl) True.intro (zav K rfl (zbw (zaa (pv 6) (zaa (pv 9) (zaa (pv 8) (zaa (pv 7) (zaa (pe_op zdu (pv 7) (pv 10)) zae))))))) (fun _ _ _=>(zap (i:=0) (show (["_law_number"]:List Str).Nodup from by decide +kernel) rfl (by first|left;rfl|right;rfl))) (fun _ _ _=>zbs) (fun _ _ _=>(zbg zbq rfl T.no_str boot_str (zaa (pv 0) zae))) (by with_unfolding_all rfl) sc__law_words.nd rfl (by first|left;rfl|right;rfl)) (zan (zbj (pe_bm PySem.F.plainAttrs_list PySem.F.slot_list_append PySem.F.type_list_append zaz (pv 5) (zaa (pe_op zpj (pv 12) (zbw (zaa (zao D_show_fraction (hr.mono (by decide)) rfl passN (zaa (pe_ix (zam K rfl) (pe_ix (zau K rfl) (pv 4) (pe_bm PySem.F.plainAttrs_list PySem.F.slot_list_index PySem.F.type_list_index (zsb hr.units66) (pv 3) (zaa (pv 6) zae)) (fun _ _=>rfl)) zaj (fun _ _=>rfl)) zae)) zae))) zae))))))) (zac (zdq PassesOwn.never rfl (zav K rfl (pv 2)) (zap (i:=6) sc__law_words.nd rfl (by first|left;rfl|right;rfl)) (zan (zbj (pe_bm PySem.F.plainAttrs_list PySem.F.slot_list_append PySem.F.type_list_append zaz (pv 5) (zaa (zbw (zaa (zbg zbq rfl T.no_str boot_str (zaa (pv 6) zae)) (zaa (zbg zbq rfl T.no_str boot_str (zaa (pe_ix (zam K rfl) (pe_ix (zau K rfl) (pv 0) (pv 6) (fun _ _=>rfl)) zaj (fun _ _=>rfl)) zae)) (zaa (zbg zbq rfl T.no_str boot_str (zaa (pe_ix (zam K rfl) (pe_ix (zau K rfl) (pv 0) (pv 6) (fun _ _=>rfl)) zaj (fun _ _=>rfl)) zae)) (zaa zce (zaa zce (zaa zce zae))))))) zae))))) (zan (zay (pv 5)))))))),?_⟩
  show tSeq _ _ _ [some (.ref l),some (.ref ga),some (.ref da),none,none,none,none,none,none,none,none,none,none] H
  unfold Sw.wordsW at k
  have wt:=Sw.went_of (rm:=rm) g
  have gl:=zfe rg
  have n60:qs.length<=60:=by have:=g.ln; have:=g.F.n1; omega
  have plr:(Sw.sPl rm qs).length<=60:=Nat.le_trans (Nat.le_trans (List.length_filter_le _ _) (by rw [List.length_range]; exact Nat.le_refl _)) n60
  have lgn:(Sw.dealtR rm qs).2.2.length<=60:=by
   have:=wt.pm.length_eq
   rw [List.length_map] at this
   omega
  generalize egn:(Sw.dealtR rm qs).2.2=gn at rg gl k lgn
  refine zad fun R hR=>?_
  walk_at "rd"
  refine ⟨⟨_,.of hg⟩,fun D hD=>?_⟩
  refine zbb (xs:=gs.map V.ref) (fun i τ H'=>(∃ v1 v2,τ = [v1,v2])/\Same H H'/\H' D=some (.lst (((gn.take i).map fun g=>(g.1:Int)).map V.int))) ⟨⟨none,none,rfl⟩,zaf hD,by rw [List.take_zero]; exact zab⟩ (fun i τ H' _ ⟨_,sm,_⟩=>.of (sm _ _ hg)) ?_ ?_
  ·rintro i x τ H' hx ⟨⟨v1,v2,rfl⟩,sm,hDl⟩
   obtain ⟨pp,hpp,rfl⟩:∃ p,gs[i]? = some p/\V.ref p=x:=by simpa using hx
   obtain ⟨q,hq,ht⟩:=zen rg hpp
   have hi:i<gn.length:=(List.getElem?_eq_some_iff.mp hq).1
   have ht:=sm _ _ ht
   walk_at "rd"
   refine ⟨_,.of ht,rfl,_,_,rfl,_,_,rfl,rfl,?_⟩
   unfold tYes
   walk_at "rd"
   refine ⟨_,hDl,line_lt (by rw [List.length_map,List.length_map,List.length_take]; omega),fun b o e=>?_,?_⟩
   ·rw [zai (zah e hD)]; exact sm _ _ e
   ·rw [zab,List.take_succ_eq_append_getElem hi,(List.getElem?_eq_some_iff.mp hq).2,List.map_append,List.map_append]; rfl
  rintro τ H1 ⟨_,t1,hDl⟩
  rw [List.length_map,gl,List.take_length] at hDl
  refine ⟨D,_,rfl,.of hDl,by rw [List.length_map]; omega,fun so ns2 fs sp ss=>hR _ _ ?_⟩
  clear hR
  have es:ns2=(Sw.sPl rm qs).map fun i:Nat=>(i:Int):=by
   refine List.Perm.eq_of_pairwise (le:=(·<=·)) (fun a b _ _ h1 h2=>Int.le_antisymm h1 h2) ss ?_ (sp.trans ?_)
   ·rw [List.pairwise_map]
    exact wt.so.imp fun h=>by omega
   ·have:=wt.pm.map fun i:Nat=>(i:Int)
    rw [egn,List.map_map] at this
    exact this
  subst es
  have t2:=t1.trans (zaf (o:=.lst (((Sw.sPl rm qs).map fun i:Nat=>(i:Int)).map V.int)) fs)
  have hso:upd H1 so (.lst (((Sw.sPl rm qs).map fun i:Nat=>(i:Int)).map V.int)) so=some (.lst ((Sw.sPl rm qs).map natI)):=by rw [zab,zkn]
  generalize upd H1 so (.lst (((Sw.sPl rm qs).map fun i:Nat=>(i:Int)).map V.int))=H2 at t2 hso ⊢
  clear hDl hD t1 fs sp ss
  refine zad fun R hR=>?_
  walk_at "rd"
  refine ⟨⟨_,.of hso⟩,fun D hD=>?_⟩
  show CompG _ _ _ _ D [none,some (.ref l)] _ _
  refine zbb (xs:=(Sw.sPl rm qs).map natI) (fun m τ H'=>(∃ v1,τ = [v1,some (.ref l)])/\Same H2 H'/\∃ pt,Row H' D pt ((Sw.sSub rm qs).take m)) ⟨⟨none,rfl⟩,zaf hD,[],by rw [List.take_zero]; exact ⟨zab,.nil⟩⟩ (fun m τ H' _ ⟨_,sm,_⟩=>.of (sm _ _ hso)) ?_ ?_
  ·rintro m x τ H' hx ⟨⟨v1,rfl⟩,sm,pt,RD⟩
   obtain ⟨pn,hpn,rfl⟩:∃ p,(Sw.sPl rm qs)[m]? = some p/\natI p=x:=by simpa using hx
   obtain ⟨h1,h2⟩:=wt.at_ m pn hpn
   obtain ⟨q,hq⟩:∃ q,qs[pn]? = some q:=⟨_,List.getElem?_eq_getElem h2⟩
   rw [hq] at h1
   have hm:=(List.getElem?_eq_some_iff.mp hpn).1
   obtain ⟨pc,hpc,hc4⟩:=zju (R0.same t2) hq
   walk_at "rd"
   unfold tYes
   walk_at "rd"
   refine zcd (.of (sm _ _ (t2 _ _ R0.hl))) (zcc (v:=V.ref pc) (by rw [List.getElem?_map,hpc]; rfl)) ?_
   have lr:=RD.r.len
   rw [List.length_take] at lr
   have kt:∀ b xs,H' b=some (.tup xs)->upd H' D (.lst (pt.map V.ref++[.ref pc])) b=some (.tup xs):=fun b xs e=>zel RD.hl e
   refine ⟨_,RD.hl,line_lt (by rw [List.length_map]; omega),fun b o e=>?_,pt++[pc],?_,?_⟩
   ·rw [zai (zah e hD)]; exact sm _ _ e
   ·rw [zab,List.map_append]; rfl
   ·rw [L2.take_succ_of h1.symm]
    exact Tups.snoc (kt _ _ (sm _ _ hc4)) (RD.r.keep kt)
  rintro τ H3 ⟨_,t3,pt,RD⟩
  rw [List.length_map,<- wt.ls,List.take_length] at RD
  refine ⟨n,M,a,c,D,pt,_,rfl,RD,wt.g.F,wt.g.ln,wt.g.pc,wt.g.pw,fun tl tp H4 s4 _ TL=>hR _ _ ?_⟩
  clear hR
  have sz:=wt.sp_sz
  have sl:=wt.sp_len
  have TL:TgL H4 tl tp (Sw.sSp n rm qs):=TL
  have t5:=(t2.trans t3).trans s4
  have hso:=(t3.trans s4) _ _ hso
  have hso0:=hso
  have TL0:=TL
  clear s4 t3 RD hD
  refine (show tSeq _ _ _ [some (.ref l),some (.ref ga),some (.ref da),some (.ref so),some (.ref tl),none,none,none,none,none,none,none,none] H4 from ?_)
  refine zad fun R hR=>?_
  walk_at "rd"
  intro h0 fh0 ll fll
  refine hR _ _ ?_
  clear hR
  have e1:=zaf (o:=.lst (Sw.headW.map V.str)) fh0
  have e2:Same H4 (upd (upd H4 h0 (.lst (Sw.headW.map V.str))) ll (.lst [.ref h0])):=e1.trans (zaf (o:=.lst [.ref h0]) fll)
  have W0:WRows (upd (upd H4 h0 (.lst (Sw.headW.map V.str))) ll (.lst [.ref h0])) ll [h0] [Sw.headW]:=by
   have n0:h0≠ll:=fun z=>by
    have:upd H4 h0 (.lst (Sw.headW.map V.str)) h0=none:=by rw [z] at fll ⊢; exact fll
    rw [zab] at this; cases this
   exact ⟨zab,.cons (by rw [zai n0,zab]) .nil,fun z=>n0 (List.mem_singleton.mp z).symm⟩
  have nll:H ll=none:=(t5.trans e1).free fll
  have t6:=t5.trans e2
  have hso:=e2 _ _ hso
  have TL:=TL.same e2
  refine (show tSeq _ _ _ [some (.ref l),some (.ref ga),some (.ref da),some (.ref so),some (.ref tl),some (.ref ll),none,none,none,none,none,none,none] (upd (upd H4 h0 (.lst (Sw.headW.map V.str))) ll (.lst [.ref h0])) from ?_)
  have nf:∀ (p:Addr) (xs:HO),H4 p=some xs->p≠ll:=fun p xs e z=>by
   have:=e1 _ _ e
   rw [z] at this
   rw [show upd H4 h0 (.lst (Sw.headW.map V.str)) ll=none from fll] at this
   cases this
  have nso:so≠ll:=nf _ _ hso0
  have ntl:tl≠ll:=nf _ _ TL0.hl
  generalize upd (upd H4 h0 (.lst (Sw.headW.map V.str))) ll (.lst [.ref h0])=H5 at t6 hso TL W0 ⊢
  have nga:ga≠ll:=fun z=>by rw [z,nll] at hg; cases hg
  have nda:da≠ll:=fun z=>by rw [z,nll] at hda; cases hda
  have nl:l≠ll:=fun z=>by have:=R0.hl; rw [z,nll] at this; cases this
  have R5:=R0.same t6
  have hg5:=t6 _ _ hg
  have hda5:=t6 _ _ hda
  have rg5:=zcl rg t6
  refine zad fun R hR=>?_
  refine zbo fun Z hZ=>?_
  walk_at "rd"
  refine ⟨⟨_,.of hg5⟩,hZ _ _ ?_⟩
  refine zdp (K:=K) (a:=ga) (xs:=gs.map V.ref) (fun i σ H'=>∃ v6 v7 v8 v9 v10 v11 v12 wp,σ = [some (.ref l),some (.ref ga),some (.ref da),some (.ref so),some (.ref tl),some (.ref ll),v6,v7,v8,v9,v10,v11,v12]/\(∀ b o,b≠ll->H5 b=some o->H' b=some o)/\WRows H' ll wp (Sw.headW :: (gn.take i).map (Sw.rowG n rm qs))) ⟨none,none,none,none,none,none,none,_,rfl,fun _ _ _ e=>e,by rw [List.take_zero]; exact W0⟩ (fun i σ H' _ ⟨_,_,_,_,_,_,_,_,_,kp,_⟩=>.of (kp _ _ nga hg5)) ?_ ?_
  ·rintro i y σ H8 hy ⟨v6,v7,v8,v9,v10,v11,v12,wp,rfl,kp,W8⟩
   obtain ⟨pg,hpg,rfl⟩:∃ p,gs[i]? = some p/\V.ref p=y:=by simpa using hy
   obtain ⟨x,hx,ht⟩:=zen rg5 hpg
   have hxm:=List.mem_of_getElem? hx
   have hi:=(List.getElem?_eq_some_iff.mp hx).1
   have tk:∀ b xs,H5 b=some (.tup xs)->H8 b=some (.tup xs):=fun b xs e=>kp _ _ (fun z=>by have:=W0.hl; rw [z,this] at e; cases e) e
   have bd:=wt.bd x (by rw [egn]; exact hxm)
   have hm:x.1∈Sw.sPl rm qs:=wt.pm.subset (by rw [egn]; exact List.mem_map.mpr ⟨x,hxm,rfl⟩)
   obtain ⟨jj,hjj⟩:=List.mem_iff_getElem?.mp hm
   have hlt:=(wt.at_ jj x.1 hjj).2
   obtain ⟨q,hq⟩:∃ q,qs[x.1]? = some q:=⟨_,List.getElem?_eq_getElem hlt⟩
   obtain ⟨pc,hpc,hc4⟩:=zju R5 hq
   have pc0:=g.pc q (List.mem_of_getElem? hq)
   refine ⟨pg,_,rfl,.of (tk _ _ ht),rfl,_,_,rfl,_,_,rfl,rfl,?_⟩
   show tSeq _ _ _ [some (.ref l),some (.ref ga),some (.ref da),some (.ref so),some (.ref tl),some (.ref ll),some (.int (x.1:Int)),some (.int x.2),v8,v9,v10,v11,v12] H8
   refine zby fun N hN=>?_
   refine zad fun R hR=>?_
   walk_at "rd"
   refine zcd (.of (kp _ _ nl R5.hl)) (zcc (v:=V.ref pc) (by rw [List.getElem?_map,hpc]; rfl)) ⟨pc,rfl,_,.of (tk _ _ hc4),rfl,_,_,rfl,_,_,rfl,_,_,rfl,_,_,rfl,rfl,hR _ _ ?_⟩
   clear hR
   have wq:=wh q (List.mem_of_getElem? hq)
   have q1:=pc0.1
   have q2:=pc0.2.1
   have q3:=pc0.2.2.1
   have q4':=pc0.2.2.2.1
   refine (show tSeq _ _ _ [some (.ref l),some (.ref ga),some (.ref da),some (.ref so),some (.ref tl),some (.ref ll),some (.int (x.1:Int)),some (.int x.2),some (.int q.1),some (.int q.2.1),some (.int q.2.2.1),some (.int q.2.2.2),v12] H8 from ?_)
   refine zad fun R hR=>?_
   walk_at "rd"
   intro p5 f5
   have s5:=zaf (o:=.lst (([(x.1:Int),q.2.1,q.1,x.2,x.2+q.2.2.1]:List Int).map V.int)) f5
   have h5:upd H8 p5 (.lst (([(x.1:Int),q.2.1,q.1,x.2,x.2+q.2.2.1]:List Int).map V.int)) p5=some (.lst (([(x.1:Int),q.2.1,q.1,x.2,x.2+q.2.2.1]:List Int).map V.int)):=zab
   have bds:∀ z∈([(x.1:Int),q.2.1,q.1,x.2,x.2+q.2.2.1]:List Int),-1000000000000000000<=z/\z<=1000000000000000000:=fun z hz=>by
    simp only [List.mem_cons,List.not_mem_nil,or_false] at hz
    omega
   refine ⟨⟨_,.of h5⟩,fun D hD=>?_⟩
   show CompG _ _ _ _ D [none] _ _
   have l5:([(x.1:Int),q.2.1,q.1,x.2,x.2+q.2.2.1]:List Int).length = 5:=rfl
   have rw5:Sw.rowG n rm qs x=(([(x.1:Int),q.2.1,q.1,x.2,x.2+q.2.2.1]:List Int).map Sw.numS)++[Sw.endS n rm qs x.1]:=by unfold Sw.rowG; rw [hq]; rfl
   refine (show CompG (Itl K p5) _ _ _ D [none] (upd (upd H8 p5 (.lst (([(x.1:Int),q.2.1,q.1,x.2,x.2+q.2.2.1]:List Int).map V.int))) D (.lst [])) _ from ?_)
   have hD:upd H8 p5 (.lst (([(x.1:Int),q.2.1,q.1,x.2,x.2+q.2.2.1]:List Int).map V.int)) D=none:=hD
   generalize upd H8 p5 (.lst (([(x.1:Int),q.2.1,q.1,x.2,x.2+q.2.2.1]:List Int).map V.int))=H9 at s5 h5 hD ⊢
   generalize ([(x.1:Int),q.2.1,q.1,x.2,x.2+q.2.2.1]:List Int)=five at h5 bds l5 rw5
   refine zbb (xs:=five.map V.int) (fun m τ H'=>(∃ v1,τ = [v1])/\Same H9 H'/\H' D=some (.lst (((five.take m).map Sw.numS).map V.str))) ⟨⟨none,rfl⟩,zaf hD,by rw [List.take_zero]; exact zab⟩ (fun m τ H' _ ⟨_,s',_⟩=>.of (s' _ _ h5)) ?_ ?_
   ·rintro m y τ H' hy ⟨⟨v1,rfl⟩,s',hDl⟩
    obtain ⟨z,hz,rfl⟩:∃ z,five[m]? = some z/\V.int z=y:=by simpa using hy
    have hm5:=(List.getElem?_eq_some_iff.mp hz).1
    have bz:=bds z (List.mem_of_getElem? hz)
    walk_at "rd"
    simp only [tYes,if_true]
    walk_at "rd"
    refine ⟨_,rfl,zdt bz.1 bz.2,_,hDl,zcy (by rw [List.length_map,List.length_map,List.length_take]; omega),fun b o e=>?_,?_⟩
    ·rw [zai (zah e hD)]; exact s' _ _ e
    ·rw [zab,L2.take_succ_of hz,List.map_append,List.map_append]; rfl
   rintro τ H10 ⟨_,s10,hDl⟩
   rw [List.length_map,List.take_length] at hDl
   refine hR _ _ ?_
   clear hR
   have s9:=s5.trans s10
   have W10:=W8.same s9
   have kp10:∀ b o,b≠ll->H5 b=some o->H10 b=some o:=fun b o n e=>s9 _ _ (kp b o n e)
   have nDl:D≠ll:=fun z=>by have:=s5 _ _ W8.hl; rw [<- z,hD] at this; cases this
   have hi2:=List.idxOf_lt_length_of_mem hm
   have hp2:(Sw.sPl rm qs)[(Sw.sPl rm qs).idxOf x.1]? = some x.1:=by rw [List.getElem?_eq_getElem hi2,List.getElem_idxOf hi2]
   obtain ⟨tt,htt⟩:∃ z,(Sw.sSp n rm qs)[(Sw.sPl rm qs).idxOf x.1]? = some z:=⟨_,List.getElem?_eq_getElem (by rw [sl]; exact hi2)⟩
   obtain ⟨pt2,hpt2,pb,pe,e1',e2',e3'⟩:=zgl TL.r htt
   have endE:Sw.endS n rm qs x.1=Sw.fracS (tt.2.num,(tt.2.den:Int)):=by
    unfold Sw.endS Sw.endT
    rw [List.getElem?_map,htt]; rfl
   have szt:=ztn (sz tt (List.mem_of_getElem? htt))
   have tk10:∀ b xs,H5 b=some (.tup xs)->H10 b=some (.tup xs):=fun b xs e=>s9 _ _ (tk _ _ e)
   walk_at "rd"
   have hso10:=kp10 _ _ nso hso
   refine ⟨zdk W10.hl,zdk hso10,so,(Sw.sPl rm qs).map (fun i:Nat=>(i:Int)),(x.1:Int),(Sw.sPl rm qs).idxOf x.1,rfl,rfl,by rw [hso10,zkn],zcy (by rw [List.length_map]; omega),by rw [List.getElem?_map,hp2]; rfl,fun m hm2 hm3=>?_,?_⟩
   ·rw [List.getElem?_map] at hm3
    cases hmm:(Sw.sPl rm qs)[m]? with
    | none=>rw [hmm] at hm3; cases hm3
    | some p' =>
     rw [hmm] at hm3
     have e:(p':Int)=(x.1:Int):=by simpa using hm3
     have hl:=List.pairwise_iff_getElem.mp wt.so m _ (List.getElem?_eq_some_iff.mp hmm).1 hi2 hm2
     rw [(List.getElem?_eq_some_iff.mp hmm).2,List.getElem_idxOf hi2] at hl
     omega
   refine zcd (.of (kp10 _ _ ntl TL.hl)) (zcc (v:=V.ref pt2) (by rw [List.getElem?_map,hpt2]; rfl)) (zaq (.of (tk10 _ _ e1')) (v:=.ref pe) rfl ⟨pe,tt.2.num,(tt.2.den:Int),rfl,.of (tk10 _ _ e3'),szt.1,Int.natCast_nonneg _,szt.2,fun H11 s11 p fp=>?_⟩)
   rw [<- endE]
   have s12:=s11.trans (zaf (o:=.lst [.str (Sw.endS n rm qs x.1)]) fp)
   refine ⟨D,p,_,_,rfl,rfl,s12 _ _ hDl,zab,zds (by rw [List.length_map,List.length_map]; show five.length+1<=_; omega),fun p6 f6=>?_⟩
   have e6:((five.map Sw.numS).map V.str++[V.str (Sw.endS n rm qs x.1)])=(Sw.rowG n rm qs x).map V.str:=by rw [rw5,List.map_append]; rfl
   rw [e6]
   have s13:=s12.trans (zaf (o:=.lst ((Sw.rowG n rm qs x).map V.str)) f6)
   have WB:=W10.same s13
   have hpn2:upd (upd H11 p (.lst [.str (Sw.endS n rm qs x.1)])) p6 (.lst ((Sw.rowG n rm qs x).map V.str)) p6=some (.lst ((Sw.rowG n rm qs x).map V.str)):=zab
   have np6:p6≠ll:=fun z=>by have:=s12 _ _ W10.hl; rw [<- z,f6] at this; cases this
   have kpB:∀ b o,b≠ll->H5 b=some o->upd (upd H11 p (.lst [.str (Sw.endS n rm qs x.1)])) p6 (.lst ((Sw.rowG n rm qs x).map V.str)) b=some o:=fun b o n e=>s13 _ _ (kp10 b o n e)
   generalize upd (upd H11 p (.lst [.str (Sw.endS n rm qs x.1)])) p6 (.lst ((Sw.rowG n rm qs x).map V.str))=HB at WB hpn2 kpB ⊢
   have lw:=Paired.length WB.r
   rw [List.length_cons,List.length_map,List.length_take] at lw
   refine ⟨ll,_,_,rfl,rfl,WB.hl,zcy (by rw [List.length_map]; omega),hN _ _ ⟨_,_,_,_,_,_,_,wp++[p6],rfl,fun b o n e=>?_,?_⟩⟩
   ·rw [zai n]; exact kpB b o n e
   ·rw [L2.take_succ_of hx,List.map_append,<- List.cons_append]
    exact WB.snoc hpn2 np6
  ·rintro σ H8 ⟨v6,v7,v8,v9,v10,v11,v12,wp,rfl,kp,W8⟩
   rw [List.length_map,gl,List.take_length] at W8
   refine hR _ _ ?_
   clear hR hZ
   refine zad fun R hR=>?_
   refine zbo fun Z hZ=>?_
   walk_at "rd"
   have hda8:=kp _ _ nda hda5
   have R8l:=kp _ _ nl R5.hl
   have tk8:∀ b xs,H5 b=some (.tup xs)->H8 b=some (.tup xs):=fun b xs e=>kp _ _ (fun z=>by have:=W0.hl; rw [z,this] at e; cases e) e
   have dl:=wt.dl
   refine ⟨⟨_,.of hda8⟩,hZ _ _ ?_⟩
   refine zdp (K:=K) (a:=da) (xs:=(Sw.droppedR rm qs).map natI) (fun i σ H'=>∃ v6 v7 v8 v9 v10 v11 v12 wp,σ = [some (.ref l),some (.ref ga),some (.ref da),some (.ref so),some (.ref tl),some (.ref ll),v6,v7,v8,v9,v10,v11,v12]/\(∀ b o,b≠ll->H8 b=some o->H' b=some o)/\WRows H' ll wp ((Sw.headW :: gn.map (Sw.rowG n rm qs))++((Sw.droppedR rm qs).take i).map (Sw.rowD qs))) ⟨v6,v7,v8,v9,v10,v11,v12,wp,rfl,fun _ _ _ e=>e,by rw [List.take_zero,List.map_nil,List.append_nil]; exact W8⟩ (fun i σ H' _ ⟨_,_,_,_,_,_,_,_,_,kp',_⟩=>.of (kp' _ _ nda hda8)) ?_ ?_
   ·rintro i y σ H9 hy ⟨v6,v7,v8,v9,v10,v11,v12,wp,rfl,kp9,W9⟩
    obtain ⟨pn,hpn,rfl⟩:∃ p,(Sw.droppedR rm qs)[i]? = some p/\natI p=y:=by simpa using hy
    have hlt:=wt.dr pn (List.mem_of_getElem? hpn)
    have hi:=(List.getElem?_eq_some_iff.mp hpn).1
    obtain ⟨q,hq⟩:∃ q,qs[pn]? = some q:=⟨_,List.getElem?_eq_getElem hlt⟩
    obtain ⟨pc,hpc,hc4⟩:=zju R5 hq
    have wq:=wh q (List.mem_of_getElem? hq)
    have q1:=(g.pc q (List.mem_of_getElem? hq)).1
    have q2:=(g.pc q (List.mem_of_getElem? hq)).2.1
    have ixl:∀ {Q:VK},Q (.ref pc) H9->rIxL K (.ref l) (.int (pn:Int)) H9 Q:=fun q=>zcd (.of (kp9 _ _ nl R8l)) (zcc (v:=V.ref pc) (by rw [List.getElem?_map,hpc]; rfl)) q
    have hT9:SqT K H9 pc (q4 q):=.of (kp9 _ _ (fun z=>by have:=W8.hl; rw [z] at hc4; rw [tk8 _ _ hc4] at this; cases this) (tk8 _ _ hc4))
    show tDrop _ _ [some (.ref l),some (.ref ga),some (.ref da),some (.ref so),some (.ref tl),some (.ref ll),some (.int (pn:Int)),v7,v8,v9,v10,v11,v12] H9
    refine zby fun N hN=>?_
    walk_at "rd"
    refine ⟨zdk W9.hl,(pn:Int),rfl,zdt (by omega) (by omega),ixl (zaq hT9 (v:=.int q.2.1) rfl ⟨_,rfl,zdt (by omega) (by omega),ixl (zaq hT9 (v:=.int q.1) rfl ⟨_,rfl,zdt (by omega) (by omega),fun p fp=>?_⟩)⟩)⟩
    have er:Sw.rowD qs pn = [Sw.numS (pn:Int),Sw.numS q.2.1,Sw.numS q.1,Str.ofString "-", Str.ofString "-", Str.ofString "-"]:=by unfold Sw.rowD; rw [hq]
    have e0:upd H9 p (.lst ((Sw.rowD qs pn).map V.str))=upd H9 p (.lst [.str (Sw.numS (pn:Int)),.str (Sw.numS q.2.1),.str (Sw.numS q.1),.str (Str.ofString "-"),.str (Str.ofString "-"),.str (Str.ofString "-")]):=by rw [er]; rfl
    refine (show zkb (V.ref ll) [V.ref p] (upd H9 p (.lst [.str (Sw.numS (pn:Int)),.str (Sw.numS q.2.1),.str (Sw.numS q.1),.str (Str.ofString "-"),.str (Str.ofString "-"),.str (Str.ofString "-")])) _ from ?_)
    rw [<- e0]
    have sp:=zaf (o:=.lst ((Sw.rowD qs pn).map V.str)) fp
    have WA:=W9.same sp
    have npD:p≠ll:=fun z=>by have:=W9.hl; rw [<- z,fp] at this; cases this
    have hpn2:upd H9 p (.lst ((Sw.rowD qs pn).map V.str)) p=some (.lst ((Sw.rowD qs pn).map V.str)):=zab
    have kpA:∀ b o,b≠ll->H8 b=some o->upd H9 p (.lst ((Sw.rowD qs pn).map V.str)) b=some o:=fun b o n e=>sp _ _ (kp9 b o n e)
    generalize upd H9 p (.lst ((Sw.rowD qs pn).map V.str))=HA at WA hpn2 kpA ⊢
    have lw:=Paired.length WA.r
    rw [List.length_append,List.length_cons,List.length_map,List.length_map,List.length_take] at lw
    refine ⟨ll,_,_,rfl,rfl,WA.hl,zcy (by rw [List.length_map]; omega),hN _ _ ⟨_,_,_,_,_,_,_,wp++[p],rfl,fun b o n e=>?_,?_⟩⟩
    ·rw [zai n]; exact kpA b o n e
    ·rw [L2.take_succ_of hpn,List.map_append,<- List.append_assoc]
     exact WA.snoc hpn2 npD
   ·rintro σ H9 ⟨v6,v7,v8,v9,v10,v11,v12,wp,rfl,kp9,W9⟩
    rw [List.length_map,List.take_length] at W9
    refine hR _ _ ?_
    walk_at "rd"
    exact k H9 ll wp (fun b o e=>kp9 b o (zah e nll) (kp b o (zah e nll) (t6 _ _ e))) W9
theorem zmx (T:Txt K mg c_NoRatio c_Tide c_Wheel):Def P w K mg base (CXX P w) 1 "_law_laid" ["_law_lines"] spCol:=by
 refine T.src__law_laid.okN (k:=0) sc__law_laid (fun vs H Q E h=>?_) (fun f cdv A outer s H vs Q E hr h=>?_)
 ·obtain ⟨l,ps,rows,rfl,_⟩:=h
  rfl
 ·obtain ⟨l,ps,rows,rfl,W0,ne,rl,wr,k⟩:=h
  refine ⟨_,(zac (zal (i:=1) sc__law_laid.nd rfl (zbw zae)) (zac (zdq PassesOwn.never rfl (zav K rfl (pv 0)) (zap (i:=2) sc__law_laid.nd rfl (by first|left;rfl|right;rfl)) (zac (zal (i:=3) sc__law_laid.nd rfl zce) (zac (zdq PassesOwn.never rfl (zfz rfl T.no_range (zaa zaj zae)) (zap (i:=4) sc__law_laid.nd rfl (by first|left;rfl|right;rfl)) (zac (zal (i:=5) sc__law_laid.nd rfl (zbn (zlo K rfl rfl) rfl T.no_max boot_max (zaa (pe_lc ["_law_other"] [("_law_k", 4)] rfl (by with_unfolding_all rfl) (by decide +kernel) rfl (by decide +kernel) (by exact ⟨rfl,True.intro⟩) (by with_unfolding_all rfl) ⟨⟨rfl,rfl,rfl⟩,True.intro⟩ (zav K rfl (pv 0)) (fun _ _ _=>(zap (i:=0) (show (["_law_other", "_law_k"]:List Str).Nodup from by decide +kernel) rfl (by first|left;rfl|right;rfl))) (fun _ _ _=>zbs) (fun _ _ _=>(zbn zfd rfl T.no_len boot_len (zaa (pe_ix (zau K rfl) (pv 0) (pv 1) (fun _ _=>rfl)) zae)))) zae))) (zac (zal (i:=3) sc__law_laid.nd rfl (pe_op zdv (pe_op zdv (pv 3) (pe_op zvb zce (pe_op zoy (pv 5) (zbn zfd rfl T.no_len boot_len (zaa (pe_ix (zau K rfl) (pv 2) (pv 4) (fun _ _=>rfl)) zae))))) (pe_ix (zau K rfl) (pv 2) (pv 4) (fun _ _=>rfl)))) (zan (ps_if (zcb op_lt (pv 4) zaj (zcp _)) (zan (zal (i:=3) sc__law_laid.nd rfl (pe_op zdv (pv 3) zce))) zdf))))) (zan (zbj (pe_bm PySem.F.plainAttrs_list PySem.F.slot_list_append PySem.F.type_list_append zaz (pv 1) (zaa (pv 3) zae))))))) (zan (zay (pe_bm PySem.F.plainAttrs_str PySem.F.slot_str_join PySem.F.type_str_join (zmn K) zce (zaa (pv 1) zae)))))),?_⟩
  show tSeq _ _ _ [some (.ref l),none,none,none,none,none] H
  have wrz:∀ r∈rows,∀ z∈r,z.length<=2000:=fun r hr=>(wr r hr).2
  refine zad fun R hR=>?_
  walk_at "rd"
  intro ll fll
  refine hR _ _ ?_
  clear hR
  have sN:=zaf (o:=.lst []) fll
  have W2:=W0.same sN
  have hl2:upd H ll (.lst []) ll=some (.lst (([]:List Str).map V.str)):=zab
  have nW:l≠ll:=fun z=>by have:=W0.hl; rw [z,fll] at this; cases this
  have nP:∀ (p:Addr) (xs:List V),H p=some (.lst xs)->p≠ll:=fun p xs e z=>by rw [z,fll] at e; cases e
  generalize upd H ll (.lst [])=H2 at W2 hl2 sN ⊢
  refine zad fun R hR=>?_
  refine zbo fun Z hZ=>?_
  walk_at "rd"
  refine ⟨⟨_,.of W2.hl⟩,hZ _ _ ?_⟩
  refine zdp (K:=K) (a:=l) (xs:=ps.map V.ref) (fun i σ H'=>∃ v2 v3 v4 v5,σ = [some (.ref l),some (.ref ll),v2,v3,v4,v5]/\(∀ b o,b≠ll->H2 b=some o->H' b=some o)/\H' ll=some (.lst (((rows.take i).map fun r=>Txt.join (Str.ofString "  ") (Sw.padW rows r)).map V.str))) ⟨none,none,none,none,rfl,fun _ _ _ e=>e,by rw [List.take_zero]; exact hl2⟩ (fun i σ H' _ ⟨_,_,_,_,_,kp,_⟩=>.of (kp _ _ nW W2.hl)) ?_ ?_
  ·rintro i x σ H' hx ⟨v2,v3,v4,v5,rfl,kp,hll⟩
   obtain ⟨pr,hpr,rfl⟩:∃ p,ps[i]? = some p/\V.ref p=x:=by simpa using hx
   obtain ⟨r,hr,hpl1⟩:=zbe W0.r hpr
   have hi:=(List.getElem?_eq_some_iff.mp hr).1
   have hrm:=List.mem_of_getElem? hr
   obtain ⟨r6,rz⟩:=wr r hrm
   have pl6:=Sw.pad_len (rows:=rows) r6
   have pz:=Sw.pad_le wrz hrm
   have key:∀ (p:Addr) (xs:List V),H p=some (.lst xs)->H' p=some (.lst xs):=fun p xs e=>kp _ _ (nP _ _ e) (sN _ _ e)
   have hpl:=key _ _ hpl1
   have hlH:=key _ _ W0.hl
   show tSeq _ _ _ [some (.ref l),some (.ref ll),some (.ref pr),v3,v4,v5] H'
   refine zby fun N hN=>?_
   refine zad fun R hR=>?_
   walk_at "rd"
   refine hR _ _ ?_
   clear hR
   refine zad fun R hR=>?_
   refine zbo fun Z2 hZ2=>?_
   walk_at "rd"
   refine hZ2 _ _ ?_
   refine zhw (fun j σ H3=>∃ v4 v5,σ = [some (.ref l),some (.ref ll),some (.ref pr),some (.str (Sw.accF (Sw.padW rows r) j)),v4,v5]/\Same H' H3) ⟨v4,v5,rfl,Same.refl _⟩ ?_ ?_
   ·rintro j σ H3 hj ⟨v4,v5,rfl,s3⟩
    have hj:j<6:=hj
    show tSeq _ _ _ [some (.ref l),some (.ref ll),some (.ref pr),some (.str (Sw.accF (Sw.padW rows r) j)),some (.int (0+(j:Int))),v5] H3
    have ej:(0+(j:Int))=((j:Nat):Int):=by omega
    rw [ej]
    obtain ⟨z,hz⟩:∃ z,r[j]? = some z:=⟨_,List.getElem?_eq_getElem (by omega)⟩
    have zl:=rz z (List.mem_of_getElem? hz)
    have al:=Sw.acc_len pz j
    have al2:(2000+2)*j<=12012:=by
     have:=Nat.mul_le_mul_left 2002 (show j<=6 by omega)
     omega
    have wl:=Sw.width_le (k:=j) wrz
    refine zby fun N2 hN2=>?_
    refine zad fun R hR=>?_
    walk_at "rd"
    refine ⟨⟨_,.of (s3 _ _ hlH)⟩,fun D1 hD1=>?_⟩
    show CompG (Itl K l) _ _ _ D1 [none,some (.int (j:Int))] _ _
    refine zbb (xs:=ps.map V.ref) (fun m τ H4=>(∃ v,τ = [v,some (.int (j:Int))])/\Same H3 H4/\H4 D1=some (.lst ((((rows.take m).map fun r=>((r[j]?).getD Str.empty).length).map fun n:Nat=>(n:Int)).map V.int))) ⟨⟨none,rfl⟩,zaf hD1,by rw [List.take_zero]; exact zab⟩ (fun m τ H4 _ ⟨_,s4,_⟩=>.of (s4 _ _ (s3 _ _ hlH))) ?_ ?_
    ·rintro m x τ H4 hx ⟨⟨v,rfl⟩,s4,hD4⟩
     obtain ⟨pr2,hpr2,rfl⟩:∃ p,ps[m]? = some p/\V.ref p=x:=by simpa using hx
     obtain ⟨r2,hr2,hpl2⟩:=zbe W0.r hpr2
     have hm:=(List.getElem?_eq_some_iff.mp hr2).1
     obtain ⟨r26,rz2⟩:=wr r2 (List.mem_of_getElem? hr2)
     obtain ⟨z2,hz2⟩:∃ z,r2[j]? = some z:=⟨_,List.getElem?_eq_getElem (by omega)⟩
     have zl2:=rz2 z2 (List.mem_of_getElem? hz2)
     walk_at "rd"
     simp only [tYes,if_true]
     walk_at "rd"
     refine zcd (.of (s4 _ _ (s3 _ _ (key _ _ hpl2)))) (zcc (j:=j) (v:=V.str z2) (by rw [List.getElem?_map,hz2]; rfl)) ⟨z2,rfl,zds (by omega),_,hD4,zcy (by rw [List.length_map,List.length_map,List.length_map,List.length_take]; omega),fun b o eb=>?_,?_⟩
     ·rw [zai (zah eb hD1)]; exact s4 _ _ eb
     ·rw [zab,L2.take_succ_of hr2,List.map_append,List.map_append,List.map_append]
      show some (HO.lst (_++[V.int (z2.length:Int)]))=some (HO.lst (_++[V.int ((((r2[j]?).getD Str.empty).length:Nat):Int)]))
      rw [hz2]; rfl
    rintro τ H4 ⟨_,s4,hD4⟩
    rw [List.length_map,Paired.length W0.r,List.take_length] at hD4
    refine ⟨D1,_,rfl,.of hD4,by rw [List.length_map,List.length_map]; exact List.length_pos_iff.mpr ne,fun m hm hall=>hR _ _ ?_⟩
    clear hR
    obtain ⟨mm,hmm,rfl⟩:=List.mem_map.mp hm
    have ew:Sw.widthF rows j=mm:=Sw.width_is hmm fun z hz=>by
     have:=hall (z:Int) (List.mem_map.mpr ⟨z,hz,rfl⟩)
     omega
    subst ew
    have zw:z.length<=Sw.widthF rows j:=by
     obtain ⟨_,a2,_⟩:=Sw.foldl_max (rows.map fun r=>((r[j]?).getD Str.empty).length) 0
     have:=a2 z.length (List.mem_map.mpr ⟨r,hrm,by rw [hz]; rfl⟩)
     exact this
    have s5:=s3.trans s4
    have ixw:∀ {Q:VK},Q (.str z) H4->rIxL K (.ref pr) (.int (j:Int)) H4 Q:=fun q=>zcd (.of (s5 _ _ hpl)) (zcc (j:=j) (v:=V.str z) (by rw [List.getElem?_map,hz]; rfl)) q
    refine zad fun R hR=>?_
    walk_at "rd"
    have ec:((Sw.widthF rows j:Int)-(z.length:Int))=((Sw.widthF rows j-z.length:Nat):Int):=by omega
    have lb:=Sw.blanks_len (Sw.widthF rows j-z.length)
    have l1:(Str.ofString " ").length = 1:=by decide +kernel
    have hp:=Sw.pad_get (rows:=rows) hz hj
    have l2:(Sw.accF (Sw.padW rows r) j++Sw.blanks (Sw.widthF rows j-z.length)).length=(Sw.accF (Sw.padW rows r) j).length+(Sw.blanks (Sw.widthF rows j-z.length)).length:=Sw.app_len _ _
    refine ixw ⟨z,rfl,zds (by omega),_,_,rfl,rfl,by omega,by omega,by omega,?_⟩
    rw [ec,Sw.mul_blank]
    refine ⟨_,rfl,zds (by omega),ixw ⟨z,rfl,zds (by omega),hR _ _ ?_⟩⟩
    clear hR
    have e1:Sw.accF (Sw.padW rows r) j++Sw.blanks (Sw.widthF rows j-z.length)++z=Sw.accF (Sw.padW rows r) j++((Sw.padW rows r)[j]?).getD Str.empty:=by rw [hp,Sw.app_assoc]; rfl
    rw [e1]
    have l3:=Sw.app_len (Sw.accF (Sw.padW rows r) j) (((Sw.padW rows r)[j]?).getD Str.empty)
    have l4:(((Sw.padW rows r)[j]?).getD Str.empty).length<=2000:=by
     rw [hp]
     exact pz _ (List.mem_of_getElem? hp)
    have l5:(Str.ofString "  ").length = 2:=by decide +kernel
    walk_at "rd"
    refine ite2 (fun c=>⟨zds (by omega),hN2 _ _ ⟨some (.int (j:Int)),some (.int (Sw.widthF rows j:Int)),?_,s5⟩⟩) fun c=>hN2 _ _ ⟨some (.int (j:Int)),some (.int (Sw.widthF rows j:Int)),?_,s5⟩
    ·have:Sw.accF (Sw.padW rows r) (j+1)=Sw.accF (Sw.padW rows r) j++((Sw.padW rows r)[j]?).getD Str.empty++Str.ofString "  " := by
      show (if j<5 then _ else _) = _
      rw [if_pos (by omega)]
     rw [this]
    ·have:Sw.accF (Sw.padW rows r) (j+1)=Sw.accF (Sw.padW rows r) j++((Sw.padW rows r)[j]?).getD Str.empty:=by
      show (if j<5 then _ else _) = _
      rw [if_neg (by omega)]
     rw [this]
   ·rintro σ H3 ⟨v4,v5,rfl,s3⟩
    refine hR _ _ ?_
    clear hR
    rw [Sw.acc_six pl6]
    walk_at "rd"
    refine ⟨zdk (s3 _ _ hll),ll,_,_,rfl,rfl,s3 _ _ hll,zcy (by rw [List.length_map,List.length_map,List.length_take]; omega),hN _ _ ⟨_,_,_,_,rfl,fun b o n e=>?_,?_⟩⟩
    ·rw [zai n]; exact s3 _ _ (kp b o n e)
    ·rw [zab,L2.take_succ_of hr,List.map_append,List.map_append]; rfl
  ·rintro σ H' ⟨v2,v3,v4,v5,rfl,kp,hll⟩
   rw [List.length_map,Paired.length W0.r,List.take_length] at hll
   refine hR _ _ ?_
   walk_at "rd"
   have sH:Same H H':=fun b o e=>kp b o (zah e fll) (sN _ _ e)
   refine ⟨rfl,_,_,_,rfl,rfl,hll,Sw.join_okB (m:=12012) (fun z hz=>?_) (by rw [List.length_map]; omega) (by decide +kernel),k _ sH⟩
   obtain ⟨r,hr,rfl⟩:=List.mem_map.mp hz
   have h1:=Sw.join_len (sep:=Str.ofString "  ") (Sw.pad_le wrz hr)
   rw [Sw.pad_len (wr r hr).1] at h1
   have h2:(Str.ofString "  ").length = 2:=by decide +kernel
   omega
theorem zvv {H:Hp} {kvs:List (Key×V)} (nd:(kvs.map (·.1)).Nodup) (al:∀ kv∈kvs,∃ n:Int,kv.2=V.int n):SameD K H kvs kvs:=by
 have key:∀ {kvs:List (Key×V)},(kvs.map (·.1)).Nodup->∀ kv∈kvs,valV kvs kv.1=some kv.2:=fun {kvs}=>by
  induction kvs with
  | nil=>intro _ kv h; cases h
  | cons x r ih =>
   intro nd kv h
   rw [List.map_cons,List.nodup_cons] at nd
   rcases List.mem_cons.mp h with e | e
   ·subst e; exact zcr rfl
   ·rw [zcs fun z=>nd.1 (by rw [z]; exact List.mem_map.mpr ⟨kv,e,rfl⟩)]
    exact ih nd.2 kv e
 refine ⟨rfl,fun kv hkv=>?_⟩
 obtain ⟨n,e⟩:=al kv hkv
 exact ⟨kv.2,.int n,key nd kv hkv,by rw [e]; exact .int n,by rw [e]; exact .int n,rfl⟩
theorem zxy {f:Addr} {fd:FuncData} (F:Fun K "law" "law" s_law f fd) (T:Txt K mg c_NoRatio c_Tide c_Wheel):FnOk P w K mg base CX0 11 f fd ["_law_script"] (spLaw K):=by
 have D__law_cell_at:=zft (P:=P) (w:=w) (base:=base) T
 have D__law_row:=zop (P:=P) (w:=w) (base:=base) T
 have D__law_rooms:=zlw (P:=P) (w:=w) (base:=base) T
 have D_report:=zst (P:=P) (w:=w) (base:=base) T
 have D_dealt:=zrc (P:=P) (w:=w) (base:=base) T
 have D__law_words:=zlx (P:=P) (w:=w) (base:=base) T
 have D__law_laid:=zmx (P:=P) (w:=w) (base:=base) T
 refine F.ok sc_law (fun vs H Q E h=>?_) (fun cdv A outer s H vs Q E hr h=>?_)
 ·obtain ⟨a,ns,rfl,_⟩:=h
  rfl
 ·obtain ⟨sc,ns,rfl,hS,hlen,k⟩:=h
  refine ⟨_,(zac (zal (i:=1) sc_law.nd rfl (zao D__law_row (hr.mono (by decide)) rfl passN (zaa (pv 0) zae))) (zac (zal (i:=2) sc_law.nd rfl (zao D__law_rooms (hr.mono (by decide)) rfl passN (zaa (zao D__law_cell_at (hr.mono (by decide)) rfl passN (zaa (pv 0) (zaa zaj zae))) (zaa (pv 1) zae)))) (zac (zal (i:=3) sc_law.nd rfl (zbg (zje K rfl) rfl T.no_list boot_list (zaa (pv 1) zae))) (zac (ps_if (zcb zsz (pv 2) zix (zcp _)) (zac (zal (i:=4) sc_law.nd rfl (zfh (dvs:=[V.non]) D_report (by simp) (hr.mono (by decide)) rfl passN (zaa (pv 3) zae))) (zan (zou (zfh (dvs:=[V.non]) D_dealt (by simp) (hr.mono (by decide)) rfl passN (zaa (pv 1) zae)) (zci (n:=2) K rfl rfl (zat (zap (i:=5) sc_law.nd rfl (by first|left;rfl|right;rfl)) (zat (zap (i:=6) sc_law.nd rfl (by first|left;rfl|right;rfl)) zcf)))))) (zac (zal (i:=7) sc_law.nd rfl (zbg zoi rfl T.no_dict boot_dict (zaa (pv 2) zae))) (zac (zal (i:=4) sc_law.nd rfl (zfh (dvs:=[]) D_report (by simp) (hr.mono (by decide)) rfl passN (zaa (pv 3) (zaa (pv 7) zae)))) (zac (zou (zfh (dvs:=[]) D_dealt (by simp) (hr.mono (by decide)) rfl passN (zaa (pv 1) (zaa (pv 2) zae))) (zci (n:=2) K rfl rfl (zat (zap (i:=5) sc_law.nd rfl (by first|left;rfl|right;rfl)) (zat (zap (i:=6) sc_law.nd rfl (by first|left;rfl|right;rfl)) zcf)))) (zan (ps_if (zcb (zuv K rfl hr.units66) (pv 7) (pv 2) (zcp _)) (zan (zay pe_bl)) zdf)))))) (zac (ps_if (PW.pt (pw_or (zna (zeb (zbn (zla K rfl) rfl T.no_isinstance boot_isinstance (zaa (pv 4) (zaa (ztq (v:=.ty "str") rfl T.no_str boot_str rfl) zae))))) (zsw (zcb (zuf K rfl hr.units) (pv 3) (pv 1) (zcp _))))) (zan (zay pe_bl)) zdf) (zan (zay (zjx op_eq (pv 4) (zao D__law_laid (hr.mono (by decide)) rfl passN (zaa (zao D__law_words (hr.mono (by decide)) rfl passN (zaa (pv 1) (zaa (pv 5) (zaa (pv 6) zae)))) zae)) (zcp _))))))))),?_⟩
  show tSeq _ _ _ [some (.ref sc),none,none,none,none,none,none,none] H
  refine zad fun R hR=>?_
  walk_at "rd"
  refine ⟨sc,ns,rfl,hS,hlen,fun H1 l ps qs s1 nl R1 q14 gd wh=>hR _ _ ?_⟩
  clear hR
  have hS:=s1.seq hS
  obtain ⟨n,M,a,cc,g⟩:=gd
  have len:=R1.r.len
  have wh2:∀ q∈qs,0<=q.2.1/\q.2.1<=1000:=fun q hq=>⟨(wh q hq).1,by have:=(wh q hq).2; omega⟩
  clear s1 nl
  have tail:∀ (rm:Int->Option Int) (H':Hp) (l1 ga da:Addr) (gs:List Addr) (v2 v7:Option V) (R':L2.St->Hp->Prop),Row H' l ps qs->Row H' l1 ps qs->H' ga=some (.lst (gs.map V.ref))->TupsF goE H' gs (Sw.dealtR rm qs).2.2->H' da=some (.lst ((Sw.droppedR rm qs).map natI))->True:=fun _ _ _ _ _ _ _ _ _ _ _ _ _ _=>trivial
  clear tail
  refine zad fun R hR=>?_
  walk_at "rd"
  refine zky hS (by omega) ?_
  generalize cellI ns 1=c1
  have fin:∀ (v2:V) (rm:Int->Option Int) (H2:Hp),Row H2 l ps qs->((v2 = .non/\rm=fun _=>none)\/∃ rl kvs,v2 = .ref rl/\RmS H2 rl kvs rm/\kvs.length<=12)->R [some (.ref sc),some (.ref l),some v2,none,none,none,none,none] H2:=by
   intro v2 rm H2 R2 rmv
   refine hR _ _ ?_
   clear hR hS R1
   refine zad fun R hR=>?_
   walk_at "rd"
   refine zwp (.of R2.hl) fun l1 f1=>hR _ _ ?_
   clear hR
   have R3:=R2.copy f1
   have s1:=zaf (o:=.lst (ps.map V.ref)) f1
   have R2:=R2.same s1
   have rmv:(v2 = .non/\rm=fun _=>none)\/∃ rl kvs,v2 = .ref rl/\RmS (upd H2 l1 (.lst (ps.map V.ref))) rl kvs rm/\kvs.length<=12:=rmv.imp id fun ⟨rl,kvs,e,RS,lk⟩=>⟨rl,kvs,e,⟨s1 _ _ RS.hd,RS.hv,RS.al,RS.nd⟩,lk⟩
   generalize upd H2 l1 (.lst (ps.map V.ref))=H3 at R2 R3 rmv ⊢
   refine zad fun R hR=>?_
   have post:∀ (H':Hp) (ga da:Addr) (gs:List Addr) (v7:Option V),Row H' l ps qs->Row H' l1 ps qs->H' ga=some (.lst (gs.map V.ref))->TupsF goE H' gs (Sw.dealtR rm qs).2.2->H' da=some (.lst ((Sw.droppedR rm qs).map natI))->R [some (.ref sc),some (.ref l),some v2,some (.ref l1),some (.str (Sw.colF (Sw.wordsW n rm qs))),some (.ref ga),some (.ref da),v7] H':=by
    intro H' ga da gs v7 Ra Rb hg rg hd
    refine hR _ _ ?_
    clear hR
    refine zad fun R hR=>?_
    walk_at "rd"
    refine ⟨_,_,_,_,true,rfl,rfl,.str _,rfl,_,rfl,?_⟩
    rw [if_neg (by decide)]
    refine zug (.lst (.of Rb.hl) Rb.r.deep) (.lst (.of Ra.hl) Ra.r.deep) (zof qs) ⟨_,rfl,?_⟩
    rw [if_neg (by decide)]
    refine hR _ _ ?_
    clear hR
    walk_at "rd"
    have wt:=Sw.went_of (rm:=rm) g
    refine ⟨l,ps,qs,ga,gs,da,rm,n,M,a,cc,rfl,Ra,g,wh2,hg,rg,hd,fun H4 wl wp s4 W4=>?_⟩
    refine ⟨wl,wp,_,rfl,W4,by unfold Sw.wordsW; simp,?_,Sw.words_ok wt g wh2,fun H5 s5=>?_⟩
    ·have lg:(Sw.dealtR rm qs).2.2.length<=14:=by
      have:=wt.pm.length_eq
      rw [List.length_map] at this
      rw [this]
      exact Nat.le_trans (Nat.le_trans (List.length_filter_le _ _) (by rw [List.length_range]; exact Nat.le_refl _)) q14
     have ld:=wt.dl
     unfold Sw.wordsW
     rw [List.length_cons,List.length_append,List.length_map,List.length_map]
     omega
    ·refine ⟨rfl,?_⟩
     rw [decide_eq_true rfl]
     exact k _
   clear hR
   rcases rmv with ⟨rfl,rfl⟩ | ⟨rl,kvs,rfl,RS,lk⟩
   ·show tIfS _ _ _ _ [_,_,some .non,_,_,_,_,_] _
    walk_at "rd"
    refine zad fun R' hR'=>?_
    walk_at "rd"
    refine ⟨l1,.non,ps,qs,fun _=>none,n,M,a,cc,rfl,R3,.inl ⟨rfl,rfl⟩,g,wh2,by omega,fun H4 s4=>hR' _ _ ?_⟩
    clear hR'
    walk_at "rd"
    refine ⟨l,.non,ps,qs,fun _=>none,n,M,a,cc,rfl,R2.same s4,.inl ⟨rfl,rfl⟩,g,fun r ga da gs H5 s5 hr5 hg5 rg5 hd5 nga nda gad=>?_⟩
    exact ⟨r,rfl,_,.of hr5,rfl,_,_,rfl,_,_,rfl,rfl,post H5 ga da gs _ ((R2.same s4).same s5) ((R3.same s4).same s5) hg5 rg5 hd5⟩
   ·show tIfS _ _ _ _ [_,_,some (.ref rl),_,_,_,_,_] _
    walk_at "rd"
    refine iteN (by intro z; cases z) ?_
    refine zad fun R' hR'=>?_
    walk_at "rd"
    refine ⟨rl,kvs,rfl,RS.hd,fun r1 fr1=>hR' _ _ ?_⟩
    clear hR'
    have s4:=zaf (o:=.dK kvs) fr1
    have hk:upd H3 r1 (.dK kvs) r1=some (.dK kvs):=zab
    have R2:=R2.same s4
    have R3:=R3.same s4
    have RS:RmS (upd H3 r1 (.dK kvs)) rl kvs rm:=⟨s4 _ _ RS.hd,RS.hv,RS.al,RS.nd⟩
    generalize upd H3 r1 (.dK kvs)=H4 at hk R2 R3 RS ⊢
    refine zad fun R' hR'=>?_
    walk_at "rd"
    refine ⟨l1,.ref r1,ps,qs,rm,n,M,a,cc,rfl,R3,.inr ⟨r1,rfl,kvs,hk,RS.hv⟩,g,wh2,by omega,fun H5 s5=>hR' _ _ ?_⟩
    clear hR'
    have R2:=R2.same s5
    have R3:=R3.same s5
    have hk:=s5 _ _ hk
    have RS:RmS H5 rl kvs rm:=⟨s5 _ _ RS.hd,RS.hv,RS.al,RS.nd⟩
    refine zad fun R' hR'=>?_
    walk_at "rd"
    refine ⟨l,.ref rl,ps,qs,rm,n,M,a,cc,rfl,R2,.inr ⟨rl,rfl,kvs,RS.hd,RS.hv⟩,g,fun r ga da gs H6 s6 hr6 hg6 rg6 hd6 nga nda gad=>?_⟩
    refine ⟨r,rfl,_,.of hr6,rfl,_,_,rfl,_,_,rfl,rfl,hR' _ _ ?_⟩
    clear hR'
    walk_at "rd"
    refine ⟨r1,rl,kvs,kvs,rfl,rfl,.inl (s6 _ _ hk),.inl (s6 _ _ RS.hd),zvv RS.nd RS.al,_,rfl,?_⟩
    rw [if_neg (by decide)]
    exact post H6 ga da gs _ (R2.same s6) (R3.same s6) hg6 rg6 hd6
  exact ⟨c1,l,ps,qs,rfl,R1,by omega,fun q hq=>(g.pc q hq).2.2.1,fun H2 s2=>fin _ (fun _=>none) H2 (R1.same s2) (.inl ⟨rfl,rfl⟩),fun rl kvs rm H2 s2 RS lk=>fin _ rm H2 (R1.same s2) (.inr ⟨rl,kvs,rfl,RS,lk⟩)⟩
end
theorem all_mk {l:PySem.W.OpenLaw} {w:World} {K:PySem.W.Frag} {h:Heap} {mg:Str->Option Value} {fa f1 f2 f3 f4 f5 f6 f7 f8 f9 f10 f11 f12 f13 f14 f15 f16 f17 f18 f19 f20 f21 f22 f23 f24 f25 f26 f27 f28 f29 f30 f31:Addr} (X:K.In h) (G:h.Ns mainGlobals mg) (hfa:mg "law" = some (.ref fa))
    {od1 an1 od2 an2 od3 an3 od4 an4 od5 an5 od6 an6 od7 an7 od8 an8 od9 an9 od10 an10 od11 an11 od12 an12 od13 an13 od14 an14 od15 an15 od16 an16 od17 an17 od18 an18 od19 an19 od20 an20 od21 an21 od22 an22 od23 an23 od24 an24 od25 an25 od26 an26 od27 an27 od28 an28 od29 an29 od30 an30 od31 an31:Option Addr} {sl1 sl2 sl3 sl4 sl5 sl6 sl7 sl8 sl9 sl10 sl11 sl12 sl13 sl14 sl15 sl16 sl17 sl18 sl19 sl20 sl21 sl22 sl23 sl24 sl25 sl26 sl27 sl28 sl29 sl30 sl31:Array (Option Value)} {oc1 kV1 dc1 pm1 cd1 ct1 oc2 kV2 dc2 pm2 cd2 ct2 oc3 kV3 dc3 pm3 cd3 ct3 oc4 kV4 dc4 pm4 cd4 ct4 oc5 kV5 dc5 pm5 cd5 ct5 oc6 kV6 dc6 pm6 cd6 ct6 oc7 kV7 dc7 pm7 cd7 ct7 oc8 kV8 dc8 pm8 cd8 ct8 oc9 kV9 dc9 pm9 cd9 ct9 oc10 kV10 dc10 pm10 cd10 ct10 oc11 kV11 dc11 pm11 cd11 ct11 oc12 kV12 dc12 pm12 cd12 ct12 oc13 kV13 dc13 pm13 cd13 ct13 oc14 kV14 dc14 pm14 cd14 ct14 oc15 kV15 dc15 pm15 cd15 ct15 oc16 kV16 dc16 pm16 cd16 ct16 oc17 kV17 dc17 pm17 cd17 ct17 oc18 kV18 dc18 pm18 cd18 ct18 oc19 kV19 dc19 pm19 cd19 ct19 oc20 kV20 dc20 pm20 cd20 ct20 oc21 kV21 dc21 pm21 cd21 ct21 oc22 kV22 dc22 pm22 cd22 ct22 oc23 kV23 dc23 pm23 cd23 ct23 oc24 kV24 dc24 pm24 cd24 ct24 oc25 kV25 dc25 pm25 cd25 ct25 oc26 kV26 dc26 pm26 cd26 ct26 oc27 kV27 dc27 pm27 cd27 ct27 oc28 kV28 dc28 pm28 cd28 ct28 oc29 kV29 dc29 pm29 cd29 ct29 oc30 kV30 dc30 pm30 cd30 ct30 oc31 kV31 dc31 pm31 cd31 ct31:Value}
    {tu_HEADINGS:Addr} {td_HEADINGS:Option Addr} {tn_HEADINGS:Nat} {tl_HEADINGS:Array (Option Value)} {tk0_HEADINGS tk1_HEADINGS tk2_HEADINGS tk3_HEADINGS tk4_HEADINGS tk5_HEADINGS:Tok}
    {c_NoRatio:Addr}
    {cd_NoRatio:ClassData}
    (b_NoRatio:PySem.W.nsIn K mainGlobals "NoRatio" = some (some (.ref c_NoRatio)))
    (hd_NoRatio:PySem.W.hasDictIn K c_NoRatio=true)
    (ga_NoRatio:PySem.W.findIn K (.ref c_NoRatio) "__getattribute__" = some (some (.builtin "BaseException.__getattribute__")))
    (gn_NoRatio:PySem.W.findIn K (.ref c_NoRatio) "__getattr__" = some none)
    (sa_NoRatio:PySem.W.findIn K (.ref c_NoRatio) "__setattr__" = some (some (.builtin "object.__setattr__")))
    (cl_NoRatio:PySem.W.findIn K (.ref c_NoRatio) "__class__" = some (some (.builtin "object.__class__")))
    (be_NoRatio:PySem.W.mroIn K c_NoRatio (.type "BaseException")=some true)
    (ob_NoRatio:PySem.W.mroIn K c_NoRatio (.type "object")=some true)
    (kp_NoRatio:PySem.W.keepIn K (.ref c_NoRatio)=true)
    (ci_NoRatio:PySem.W.clsIn K c_NoRatio=some cd_NoRatio)
    (ti_NoRatio:PySem.W.typeIn K (.ref c_NoRatio)=some (.type "type"))
    (ex_NoRatio:PySem.W.excIn K c_NoRatio bmV "ValueError.__new__" = true)
    (kg:PySem.W.specialIn K (.builtin "object.__class__") "__get__" = some (some (.builtin "getset_descriptor.__get__")))
    (kt:PySem.W.takesIn K (.builtin "object.__class__")=some true)
    (s_NoRatio_NoRatio:PySem.W.subIn K (.ref c_NoRatio) (.ref c_NoRatio)=some true)
    (v_NoRatio_VE:PySem.W.subIn K (.ref c_NoRatio) (.type "ValueError")=some true)
    (a1:PySem.W.nsIn K mainGlobals "divisor" = some (some (.ref f1))) (l1:K.lookup f1=some ⟨oc1,od1,.func (PySem.W.fnOf "divisor" "divisor" (zas zeq) (zar zeq) (zag zeq) .none kV1 dc1 pm1 an1 cd1 ct1),sl1⟩) (c1:PySem.W.codeIn K cd1 "divisor" = true) (k1:PySem.W.keepIn K (.ref f1)=true)
    (a2:PySem.W.nsIn K mainGlobals "ratio" = some (some (.ref f2))) (l2:K.lookup f2=some ⟨oc2,od2,.func (PySem.W.fnOf "ratio" "ratio" (zas zgw) (zar zgw) (zag zgw) .none kV2 dc2 pm2 an2 cd2 ct2),sl2⟩) (c2:PySem.W.codeIn K cd2 "ratio" = true) (k2:PySem.W.keepIn K (.ref f2)=true)
    (a3:PySem.W.nsIn K mainGlobals "plus" = some (some (.ref f3))) (l3:K.lookup f3=some ⟨oc3,od3,.func (PySem.W.fnOf "plus" "plus" (zas zjq) (zar zjq) (zag zjq) .none kV3 dc3 pm3 an3 cd3 ct3),sl3⟩) (c3:PySem.W.codeIn K cd3 "plus" = true) (k3:PySem.W.keepIn K (.ref f3)=true)
    (a4:PySem.W.nsIn K mainGlobals "minus" = some (some (.ref f4))) (l4:K.lookup f4=some ⟨oc4,od4,.func (PySem.W.fnOf "minus" "minus" (zas zgx) (zar zgx) (zag zgx) .none kV4 dc4 pm4 an4 cd4 ct4),sl4⟩) (c4:PySem.W.codeIn K cd4 "minus" = true) (k4:PySem.W.keepIn K (.ref f4)=true)
    (a5:PySem.W.nsIn K mainGlobals "times" = some (some (.ref f5))) (l5:K.lookup f5=some ⟨oc5,od5,.func (PySem.W.fnOf "times" "times" (zas zgy) (zar zgy) (zag zgy) .none kV5 dc5 pm5 an5 cd5 ct5),sl5⟩) (c5:PySem.W.codeIn K cd5 "times" = true) (k5:PySem.W.keepIn K (.ref f5)=true)
    (a6:PySem.W.nsIn K mainGlobals "over" = some (some (.ref f6))) (l6:K.lookup f6=some ⟨oc6,od6,.func (PySem.W.fnOf "over" "over" (zas zjr) (zar zjr) (zag zjr) .none kV6 dc6 pm6 an6 cd6 ct6),sl6⟩) (c6:PySem.W.codeIn K cd6 "over" = true) (k6:PySem.W.keepIn K (.ref f6)=true)
    (a7:PySem.W.nsIn K mainGlobals "under" = some (some (.ref f7))) (l7:K.lookup f7=some ⟨oc7,od7,.func (PySem.W.fnOf "under" "under" (zas zgz) (zar zgz) (zag zgz) .none kV7 dc7 pm7 an7 cd7 ct7),sl7⟩) (c7:PySem.W.codeIn K cd7 "under" = true) (k7:PySem.W.keepIn K (.ref f7)=true)
    (a8:PySem.W.nsIn K mainGlobals "lesser" = some (some (.ref f8))) (l8:K.lookup f8=some ⟨oc8,od8,.func (PySem.W.fnOf "lesser" "lesser" (zas zfo) (zar zfo) (zag zfo) .none kV8 dc8 pm8 an8 cd8 ct8),sl8⟩) (c8:PySem.W.codeIn K cd8 "lesser" = true) (k8:PySem.W.keepIn K (.ref f8)=true)
    (a9:PySem.W.nsIn K mainGlobals "greater" = some (some (.ref f9))) (l9:K.lookup f9=some ⟨oc9,od9,.func (PySem.W.fnOf "greater" "greater" (zas zer) (zar zer) (zag zer) .none kV9 dc9 pm9 an9 cd9 ct9),sl9⟩) (c9:PySem.W.codeIn K cd9 "greater" = true) (k9:PySem.W.keepIn K (.ref f9)=true)
    (a10:PySem.W.nsIn K mainGlobals "least" = some (some (.ref f10))) (l10:K.lookup f10=some ⟨oc10,od10,.func (PySem.W.fnOf "least" "least" (zas zha) (zar zha) (zag zha) .none kV10 dc10 pm10 an10 cd10 ct10),sl10⟩) (c10:PySem.W.codeIn K cd10 "least" = true) (k10:PySem.W.keepIn K (.ref f10)=true)
    (a11:PySem.W.nsIn K mainGlobals "heads_of" = some (some (.ref f11))) (l11:K.lookup f11=some ⟨oc11,od11,.func (PySem.W.fnOf "heads_of" "heads_of" (zas zdx) (zar zdx) (zag zdx) .none kV11 dc11 pm11 an11 cd11 ct11),sl11⟩) (c11:PySem.W.codeIn K cd11 "heads_of" = true) (k11:PySem.W.keepIn K (.ref f11)=true)
    (a12:PySem.W.nsIn K mainGlobals "tags_of" = some (some (.ref f12))) (l12:K.lookup f12=some ⟨oc12,od12,.func (PySem.W.fnOf "tags_of" "tags_of" (zas zes) (zar zes) (zag zes) .none kV12 dc12 pm12 an12 cd12 ct12),sl12⟩) (c12:PySem.W.codeIn K cd12 "tags_of" = true) (k12:PySem.W.keepIn K (.ref f12)=true)
    (a13:PySem.W.nsIn K mainGlobals "heads_at" = some (some (.ref f13))) (l13:K.lookup f13=some ⟨oc13,od13,.func (PySem.W.fnOf "heads_at" "heads_at" (zas zdy) (zar zdy) (zag zdy) .none kV13 dc13 pm13 an13 cd13 ct13),sl13⟩) (c13:PySem.W.codeIn K cd13 "heads_at" = true) (k13:PySem.W.keepIn K (.ref f13)=true)
    (a14:PySem.W.nsIn K mainGlobals "first_end" = some (some (.ref f14))) (l14:K.lookup f14=some ⟨oc14,od14,.func (PySem.W.fnOf "first_end" "first_end" (zas zdm) (zar zdm) (zag zdm) .none kV14 dc14 pm14 an14 cd14 ct14),sl14⟩) (c14:PySem.W.codeIn K cd14 "first_end" = true) (k14:PySem.W.keepIn K (.ref f14)=true)
    (a15:PySem.W.nsIn K mainGlobals "flow" = some (some (.ref f15))) (l15:K.lookup f15=some ⟨oc15,od15,.func (PySem.W.fnOf "flow" "flow" (zas zjs) (zar zjs) (zag zjs) .none kV15 dc15 pm15 an15 cd15 ct15),sl15⟩) (c15:PySem.W.codeIn K cd15 "flow" = true) (k15:PySem.W.keepIn K (.ref f15)=true)
    (a16:PySem.W.nsIn K mainGlobals "spans" = some (some (.ref f16))) (l16:K.lookup f16=some ⟨oc16,od16,.func (PySem.W.fnOf "spans" "spans" (zas zhb) (zar zhb) (zag zhb) .none kV16 dc16 pm16 an16 cd16 ct16),sl16⟩) (c16:PySem.W.codeIn K cd16 "spans" = true) (k16:PySem.W.keepIn K (.ref f16)=true)
    (a17:PySem.W.nsIn K mainGlobals "overflows" = some (some (.ref f17))) (l17:K.lookup f17=some ⟨oc17,od17,.func (PySem.W.fnOf "overflows" "overflows" (zas zdn) (zar zdn) (zag zdn) .none kV17 dc17 pm17 an17 cd17 ct17),sl17⟩) (c17:PySem.W.codeIn K cd17 "overflows" = true) (k17:PySem.W.keepIn K (.ref f17)=true)
    {dt_dealt:Addr} {do_dealt:Value} {dd_dealt:Option Addr} {dn_dealt:Nat} {dl_dealt:Array (Option Value)}
    (a18:PySem.W.nsIn K mainGlobals "dealt" = some (some (.ref f18))) (l18:K.lookup f18=some ⟨oc18,od18,.func (PySem.W.fnOf "dealt" "dealt" (zas zdr) (zar zdr) (zag zdr) (.ref dt_dealt) kV18 dc18 pm18 an18 cd18 ct18),sl18⟩) (c18:PySem.W.codeIn K cd18 "dealt" = true) (k18:PySem.W.keepIn K (.ref f18)=true)
    (dk_dealt:K.lookup dt_dealt=some ⟨do_dealt,dd_dealt,.seq #[.none] dn_dealt,dl_dealt⟩)
    (a19:PySem.W.nsIn K mainGlobals "figures_of" = some (some (.ref f19))) (l19:K.lookup f19=some ⟨oc19,od19,.func (PySem.W.fnOf "figures_of" "figures_of" (zas zdb) (zar zdb) (zag zdb) .none kV19 dc19 pm19 an19 cd19 ct19),sl19⟩) (c19:PySem.W.codeIn K cd19 "figures_of" = true) (k19:PySem.W.keepIn K (.ref f19)=true)
    (a20:PySem.W.nsIn K mainGlobals "show_fraction" = some (some (.ref f20))) (l20:K.lookup f20=some ⟨oc20,od20,.func (PySem.W.fnOf "show_fraction" "show_fraction" (zas zbu) (zar zbu) (zag zbu) .none kV20 dc20 pm20 an20 cd20 ct20),sl20⟩) (c20:PySem.W.codeIn K cd20 "show_fraction" = true) (k20:PySem.W.keepIn K (.ref f20)=true)
    (a21:PySem.W.nsIn K mainGlobals "words_gone" = some (some (.ref f21))) (l21:K.lookup f21=some ⟨oc21,od21,.func (PySem.W.fnOf "words_gone" "words_gone" (zas zdc) (zar zdc) (zag zdc) .none kV21 dc21 pm21 an21 cd21 ct21),sl21⟩) (c21:PySem.W.codeIn K cd21 "words_gone" = true) (k21:PySem.W.keepIn K (.ref f21)=true)
    (a22:PySem.W.nsIn K mainGlobals "words_dropped" = some (some (.ref f22))) (l22:K.lookup f22=some ⟨oc22,od22,.func (PySem.W.fnOf "words_dropped" "words_dropped" (zas zbv) (zar zbv) (zag zbv) .none kV22 dc22 pm22 an22 cd22 ct22),sl22⟩) (c22:PySem.W.codeIn K cd22 "words_dropped" = true) (k22:PySem.W.keepIn K (.ref f22)=true)
    (a23:PySem.W.nsIn K mainGlobals "columned" = some (some (.ref f23))) (l23:K.lookup f23=some ⟨oc23,od23,.func (PySem.W.fnOf "columned" "columned" (zas zdz) (zar zdz) (zag zdz) .none kV23 dc23 pm23 an23 cd23 ct23),sl23⟩) (c23:PySem.W.codeIn K cd23 "columned" = true) (k23:PySem.W.keepIn K (.ref f23)=true)
    {dt_report:Addr} {do_report:Value} {dd_report:Option Addr} {dn_report:Nat} {dl_report:Array (Option Value)}
    (a24:PySem.W.nsIn K mainGlobals "report" = some (some (.ref f24))) (l24:K.lookup f24=some ⟨oc24,od24,.func (PySem.W.fnOf "report" "report" (zas zct) (zar zct) (zag zct) (.ref dt_report) kV24 dc24 pm24 an24 cd24 ct24),sl24⟩) (c24:PySem.W.codeIn K cd24 "report" = true) (k24:PySem.W.keepIn K (.ref f24)=true)
    (dk_report:K.lookup dt_report=some ⟨do_report,dd_report,.seq #[.none] dn_report,dl_report⟩)
    (a25:PySem.W.nsIn K mainGlobals "_law_cell_at" = some (some (.ref f25))) (l25:K.lookup f25=some ⟨oc25,od25,.func (PySem.W.fnOf "_law_cell_at" "_law_cell_at" (zas zbz) (zar zbz) (zag zbz) .none kV25 dc25 pm25 an25 cd25 ct25),sl25⟩) (c25:PySem.W.codeIn K cd25 "_law_cell_at" = true) (k25:PySem.W.keepIn K (.ref f25)=true)
    (a26:PySem.W.nsIn K mainGlobals "_law_stream" = some (some (.ref f26))) (l26:K.lookup f26=some ⟨oc26,od26,.func (PySem.W.fnOf "_law_stream" "_law_stream" (zas zco) (zar zco) (zag zco) .none kV26 dc26 pm26 an26 cd26 ct26),sl26⟩) (c26:PySem.W.codeIn K cd26 "_law_stream" = true) (k26:PySem.W.keepIn K (.ref f26)=true)
    (a27:PySem.W.nsIn K mainGlobals "_law_row" = some (some (.ref f27))) (l27:K.lookup f27=some ⟨oc27,od27,.func (PySem.W.fnOf "_law_row" "_law_row" (zas zea) (zar zea) (zag zea) .none kV27 dc27 pm27 an27 cd27 ct27),sl27⟩) (c27:PySem.W.codeIn K cd27 "_law_row" = true) (k27:PySem.W.keepIn K (.ref f27)=true)
    (a28:PySem.W.nsIn K mainGlobals "_law_rooms" = some (some (.ref f28))) (l28:K.lookup f28=some ⟨oc28,od28,.func (PySem.W.fnOf "_law_rooms" "_law_rooms" (zas zdd) (zar zdd) (zag zdd) .none kV28 dc28 pm28 an28 cd28 ct28),sl28⟩) (c28:PySem.W.codeIn K cd28 "_law_rooms" = true) (k28:PySem.W.keepIn K (.ref f28)=true)
    (a29:PySem.W.nsIn K mainGlobals "_law_words" = some (some (.ref f29))) (l29:K.lookup f29=some ⟨oc29,od29,.func (PySem.W.fnOf "_law_words" "_law_words" (zas zde) (zar zde) (zag zde) .none kV29 dc29 pm29 an29 cd29 ct29),sl29⟩) (c29:PySem.W.codeIn K cd29 "_law_words" = true) (k29:PySem.W.keepIn K (.ref f29)=true)
    (a30:PySem.W.nsIn K mainGlobals "_law_laid" = some (some (.ref f30))) (l30:K.lookup f30=some ⟨oc30,od30,.func (PySem.W.fnOf "_law_laid" "_law_laid" (zas zdo) (zar zdo) (zag zdo) .none kV30 dc30 pm30 an30 cd30 ct30),sl30⟩) (c30:PySem.W.codeIn K cd30 "_law_laid" = true) (k30:PySem.W.keepIn K (.ref f30)=true)
    (a31:PySem.W.nsIn K mainGlobals "law" = some (some (.ref f31))) (l31:K.lookup f31=some ⟨oc31,od31,.func (PySem.W.fnOf "law" "law" (zas s_law) (zar s_law) (zag s_law) .none kV31 dc31 pm31 an31 cd31 ct31),sl31⟩) (c31:PySem.W.codeIn K cd31 "law" = true) (k31:PySem.W.keepIn K (.ref f31)=true)
    (z1:PySem.W.nsIn K mainGlobals "abs" = some none)
    (z2:PySem.W.nsIn K mainGlobals "enumerate" = some none)
    (z3:PySem.W.nsIn K mainGlobals "sum" = some none)
    (z4:PySem.W.nsIn K mainGlobals "reversed" = some none)
    (z5:PySem.W.nsIn K mainGlobals "str" = some none)
    (z6:PySem.W.nsIn K mainGlobals "zip" = some none)
    (z7:PySem.W.nsIn K mainGlobals "sorted" = some none)
    (z8:PySem.W.nsIn K mainGlobals "range" = some none)
    (z9:PySem.W.nsIn K mainGlobals "len" = some none)
    (z10:PySem.W.nsIn K mainGlobals "max" = some none)
    (z11:PySem.W.nsIn K mainGlobals "list" = some none)
    (z12:PySem.W.nsIn K mainGlobals "isinstance" = some none)
    (z13:PySem.W.nsIn K mainGlobals "dict" = some none)
    (v_HEADINGS:PySem.W.nsIn K mainGlobals "HEADINGS" = some (some (.ref tu_HEADINGS)))
    (w_HEADINGS:K.lookup tu_HEADINGS=some ⟨.type "tuple", td_HEADINGS,.seq #[.str (Str.ofString "piece") tk0_HEADINGS,.str (Str.ofString "sender") tk1_HEADINGS,.str (Str.ofString "comes") tk2_HEADINGS,.str (Str.ofString "begins") tk3_HEADINGS,.str (Str.ofString "ends") tk4_HEADINGS,.str (Str.ofString "flowed") tk5_HEADINGS] tn_HEADINGS,tl_HEADINGS⟩)
    {c_Tide:Addr}
    (b_Tide:PySem.W.nsIn K mainGlobals "Tide" = some (some (.ref c_Tide)))
    (pg_Tide:PySem.W.plainGet K c_Tide Str.empty=true)
    (hd_Tide:PySem.W.hasDictIn K c_Tide=true)
    (po_Tide:PySem.W.plainOver K c_Tide=true)
    (sa_Tide:PySem.W.findIn K (.ref c_Tide) "__setattr__" = some (some (.builtin "object.__setattr__")))
    (mk_Tide:PySem.W.makesIn K c_Tide=true)
    (kc_Tide:PySem.W.keepIn K (.ref c_Tide)=true)
    (na_Tide_latest:PySem.W.findIn K (.ref c_Tide) "latest" = some none)
    (na_Tide_reached:PySem.W.findIn K (.ref c_Tide) "reached" = some none)
    (na_Tide_unflowed:PySem.W.findIn K (.ref c_Tide) "unflowed" = some none)
    (na_Tide_last_ends:PySem.W.findIn K (.ref c_Tide) "last_ends" = some none)
    {i_Tide_init:Addr} {od_Tide_init an_Tide_init:Option Addr} {sl_Tide_init:Array (Option Value)} {oc_Tide_init kV_Tide_init dc_Tide_init pm_Tide_init co_Tide_init ct_Tide_init:Value}
    (a_Tide_init:PySem.W.findIn K (.ref c_Tide) "__init__" = some (some (.ref i_Tide_init)))
    (i_Tide_init_fn:PySem.W.isFn K (.ref i_Tide_init)=true)
    (l_Tide_init:K.lookup i_Tide_init=some ⟨oc_Tide_init,od_Tide_init,.func (PySem.W.fnOf "__init__" "Tide.__init__" (zas zcv) (zar zcv) (zag zcv) .none kV_Tide_init dc_Tide_init pm_Tide_init an_Tide_init co_Tide_init ct_Tide_init),sl_Tide_init⟩)
    (c_Tide_init_cd:PySem.W.codeIn K co_Tide_init "Tide.__init__" = true)
    (k_Tide_init:PySem.W.keepIn K (.ref i_Tide_init)=true)
    {i_Tide_mark:Addr} {od_Tide_mark an_Tide_mark:Option Addr} {sl_Tide_mark:Array (Option Value)} {oc_Tide_mark kV_Tide_mark dc_Tide_mark pm_Tide_mark co_Tide_mark ct_Tide_mark:Value}
    (a_Tide_mark:PySem.W.findIn K (.ref c_Tide) "mark" = some (some (.ref i_Tide_mark)))
    (i_Tide_mark_fn:PySem.W.isFn K (.ref i_Tide_mark)=true)
    (l_Tide_mark:K.lookup i_Tide_mark=some ⟨oc_Tide_mark,od_Tide_mark,.func (PySem.W.fnOf "mark" "Tide.mark" (zas zcw) (zar zcw) (zag zcw) .none kV_Tide_mark dc_Tide_mark pm_Tide_mark an_Tide_mark co_Tide_mark ct_Tide_mark),sl_Tide_mark⟩)
    (c_Tide_mark_cd:PySem.W.codeIn K co_Tide_mark "Tide.mark" = true)
    (k_Tide_mark:PySem.W.keepIn K (.ref i_Tide_mark)=true)
    {i_Tide_come:Addr} {od_Tide_come an_Tide_come:Option Addr} {sl_Tide_come:Array (Option Value)} {oc_Tide_come kV_Tide_come dc_Tide_come pm_Tide_come co_Tide_come ct_Tide_come:Value}
    (a_Tide_come:PySem.W.findIn K (.ref c_Tide) "come" = some (some (.ref i_Tide_come)))
    (i_Tide_come_fn:PySem.W.isFn K (.ref i_Tide_come)=true)
    (l_Tide_come:K.lookup i_Tide_come=some ⟨oc_Tide_come,od_Tide_come,.func (PySem.W.fnOf "come" "Tide.come" (zas zcx) (zar zcx) (zag zcx) .none kV_Tide_come dc_Tide_come pm_Tide_come an_Tide_come co_Tide_come ct_Tide_come),sl_Tide_come⟩)
    (c_Tide_come_cd:PySem.W.codeIn K co_Tide_come "Tide.come" = true)
    (k_Tide_come:PySem.W.keepIn K (.ref i_Tide_come)=true)
    {c_Wheel:Addr}
    (b_Wheel:PySem.W.nsIn K mainGlobals "Wheel" = some (some (.ref c_Wheel)))
    (pg_Wheel:PySem.W.plainGet K c_Wheel Str.empty=true)
    (hd_Wheel:PySem.W.hasDictIn K c_Wheel=true)
    (po_Wheel:PySem.W.plainOver K c_Wheel=true)
    (sa_Wheel:PySem.W.findIn K (.ref c_Wheel) "__setattr__" = some (some (.builtin "object.__setattr__")))
    (mk_Wheel:PySem.W.makesIn K c_Wheel=true)
    (kc_Wheel:PySem.W.keepIn K (.ref c_Wheel)=true)
    (na_Wheel_tide:PySem.W.findIn K (.ref c_Wheel) "tide" = some none)
    (na_Wheel_free:PySem.W.findIn K (.ref c_Wheel) "free" = some none)
    (na_Wheel_queue:PySem.W.findIn K (.ref c_Wheel) "queue" = some none)
    (na_Wheel_gone:PySem.W.findIn K (.ref c_Wheel) "gone" = some none)
    {i_Wheel_init:Addr} {od_Wheel_init an_Wheel_init:Option Addr} {sl_Wheel_init:Array (Option Value)} {oc_Wheel_init kV_Wheel_init dc_Wheel_init pm_Wheel_init co_Wheel_init ct_Wheel_init:Value}
    (a_Wheel_init:PySem.W.findIn K (.ref c_Wheel) "__init__" = some (some (.ref i_Wheel_init)))
    (i_Wheel_init_fn:PySem.W.isFn K (.ref i_Wheel_init)=true)
    (l_Wheel_init:K.lookup i_Wheel_init=some ⟨oc_Wheel_init,od_Wheel_init,.func (PySem.W.fnOf "__init__" "Wheel.__init__" (zas zcj) (zar zcj) (zag zcj) .none kV_Wheel_init dc_Wheel_init pm_Wheel_init an_Wheel_init co_Wheel_init ct_Wheel_init),sl_Wheel_init⟩)
    (c_Wheel_init_cd:PySem.W.codeIn K co_Wheel_init "Wheel.__init__" = true)
    (k_Wheel_init:PySem.W.keepIn K (.ref i_Wheel_init)=true)
    {i_Wheel_piled_up:Addr} {od_Wheel_piled_up an_Wheel_piled_up:Option Addr} {sl_Wheel_piled_up:Array (Option Value)} {oc_Wheel_piled_up kV_Wheel_piled_up dc_Wheel_piled_up pm_Wheel_piled_up co_Wheel_piled_up ct_Wheel_piled_up:Value}
    (a_Wheel_piled_up:PySem.W.findIn K (.ref c_Wheel) "piled_up" = some (some (.ref i_Wheel_piled_up)))
    (i_Wheel_piled_up_fn:PySem.W.isFn K (.ref i_Wheel_piled_up)=true)
    (l_Wheel_piled_up:K.lookup i_Wheel_piled_up=some ⟨oc_Wheel_piled_up,od_Wheel_piled_up,.func (PySem.W.fnOf "piled_up" "Wheel.piled_up" (zas zbh) (zar zbh) (zag zbh) .none kV_Wheel_piled_up dc_Wheel_piled_up pm_Wheel_piled_up an_Wheel_piled_up co_Wheel_piled_up ct_Wheel_piled_up),sl_Wheel_piled_up⟩)
    (c_Wheel_piled_up_cd:PySem.W.codeIn K co_Wheel_piled_up "Wheel.piled_up" = true)
    (k_Wheel_piled_up:PySem.W.keepIn K (.ref i_Wheel_piled_up)=true)
    {i_Wheel_take_in:Addr} {od_Wheel_take_in an_Wheel_take_in:Option Addr} {sl_Wheel_take_in:Array (Option Value)} {oc_Wheel_take_in kV_Wheel_take_in dc_Wheel_take_in pm_Wheel_take_in co_Wheel_take_in ct_Wheel_take_in:Value}
    (a_Wheel_take_in:PySem.W.findIn K (.ref c_Wheel) "take_in" = some (some (.ref i_Wheel_take_in)))
    (i_Wheel_take_in_fn:PySem.W.isFn K (.ref i_Wheel_take_in)=true)
    (l_Wheel_take_in:K.lookup i_Wheel_take_in=some ⟨oc_Wheel_take_in,od_Wheel_take_in,.func (PySem.W.fnOf "take_in" "Wheel.take_in" (zas zbl) (zar zbl) (zag zbl) .none kV_Wheel_take_in dc_Wheel_take_in pm_Wheel_take_in an_Wheel_take_in co_Wheel_take_in ct_Wheel_take_in),sl_Wheel_take_in⟩)
    (c_Wheel_take_in_cd:PySem.W.codeIn K co_Wheel_take_in "Wheel.take_in" = true)
    (k_Wheel_take_in:PySem.W.keepIn K (.ref i_Wheel_take_in)=true)
    {i_Wheel_choice_time:Addr} {od_Wheel_choice_time an_Wheel_choice_time:Option Addr} {sl_Wheel_choice_time:Array (Option Value)} {oc_Wheel_choice_time kV_Wheel_choice_time dc_Wheel_choice_time pm_Wheel_choice_time co_Wheel_choice_time ct_Wheel_choice_time:Value}
    (a_Wheel_choice_time:PySem.W.findIn K (.ref c_Wheel) "choice_time" = some (some (.ref i_Wheel_choice_time)))
    (i_Wheel_choice_time_fn:PySem.W.isFn K (.ref i_Wheel_choice_time)=true)
    (l_Wheel_choice_time:K.lookup i_Wheel_choice_time=some ⟨oc_Wheel_choice_time,od_Wheel_choice_time,.func (PySem.W.fnOf "choice_time" "Wheel.choice_time" (zas zaw) (zar zaw) (zag zaw) .none kV_Wheel_choice_time dc_Wheel_choice_time pm_Wheel_choice_time an_Wheel_choice_time co_Wheel_choice_time ct_Wheel_choice_time),sl_Wheel_choice_time⟩)
    (c_Wheel_choice_time_cd:PySem.W.codeIn K co_Wheel_choice_time "Wheel.choice_time" = true)
    (k_Wheel_choice_time:PySem.W.keepIn K (.ref i_Wheel_choice_time)=true)
    {i_Wheel_next_to_go:Addr} {od_Wheel_next_to_go an_Wheel_next_to_go:Option Addr} {sl_Wheel_next_to_go:Array (Option Value)} {oc_Wheel_next_to_go kV_Wheel_next_to_go dc_Wheel_next_to_go pm_Wheel_next_to_go co_Wheel_next_to_go ct_Wheel_next_to_go:Value}
    (a_Wheel_next_to_go:PySem.W.findIn K (.ref c_Wheel) "next_to_go" = some (some (.ref i_Wheel_next_to_go)))
    (i_Wheel_next_to_go_fn:PySem.W.isFn K (.ref i_Wheel_next_to_go)=true)
    (l_Wheel_next_to_go:K.lookup i_Wheel_next_to_go=some ⟨oc_Wheel_next_to_go,od_Wheel_next_to_go,.func (PySem.W.fnOf "next_to_go" "Wheel.next_to_go" (zas zbc) (zar zbc) (zag zbc) .none kV_Wheel_next_to_go dc_Wheel_next_to_go pm_Wheel_next_to_go an_Wheel_next_to_go co_Wheel_next_to_go ct_Wheel_next_to_go),sl_Wheel_next_to_go⟩)
    (c_Wheel_next_to_go_cd:PySem.W.codeIn K co_Wheel_next_to_go "Wheel.next_to_go" = true)
    (k_Wheel_next_to_go:PySem.W.keepIn K (.ref i_Wheel_next_to_go)=true)
    {i_Wheel_make_choice:Addr} {od_Wheel_make_choice an_Wheel_make_choice:Option Addr} {sl_Wheel_make_choice:Array (Option Value)} {oc_Wheel_make_choice kV_Wheel_make_choice dc_Wheel_make_choice pm_Wheel_make_choice co_Wheel_make_choice ct_Wheel_make_choice:Value}
    (a_Wheel_make_choice:PySem.W.findIn K (.ref c_Wheel) "make_choice" = some (some (.ref i_Wheel_make_choice)))
    (i_Wheel_make_choice_fn:PySem.W.isFn K (.ref i_Wheel_make_choice)=true)
    (l_Wheel_make_choice:K.lookup i_Wheel_make_choice=some ⟨oc_Wheel_make_choice,od_Wheel_make_choice,.func (PySem.W.fnOf "make_choice" "Wheel.make_choice" (zas zax) (zar zax) (zag zax) .none kV_Wheel_make_choice dc_Wheel_make_choice pm_Wheel_make_choice an_Wheel_make_choice co_Wheel_make_choice ct_Wheel_make_choice),sl_Wheel_make_choice⟩)
    (c_Wheel_make_choice_cd:PySem.W.codeIn K co_Wheel_make_choice "Wheel.make_choice" = true)
    (k_Wheel_make_choice:PySem.W.keepIn K (.ref i_Wheel_make_choice)=true)
    {i_Wheel_run_up_to:Addr} {od_Wheel_run_up_to an_Wheel_run_up_to:Option Addr} {sl_Wheel_run_up_to:Array (Option Value)} {oc_Wheel_run_up_to kV_Wheel_run_up_to dc_Wheel_run_up_to pm_Wheel_run_up_to co_Wheel_run_up_to ct_Wheel_run_up_to:Value}
    (a_Wheel_run_up_to:PySem.W.findIn K (.ref c_Wheel) "run_up_to" = some (some (.ref i_Wheel_run_up_to)))
    (i_Wheel_run_up_to_fn:PySem.W.isFn K (.ref i_Wheel_run_up_to)=true)
    (l_Wheel_run_up_to:K.lookup i_Wheel_run_up_to=some ⟨oc_Wheel_run_up_to,od_Wheel_run_up_to,.func (PySem.W.fnOf "run_up_to" "Wheel.run_up_to" (zas zbf) (zar zbf) (zag zbf) .none kV_Wheel_run_up_to dc_Wheel_run_up_to pm_Wheel_run_up_to an_Wheel_run_up_to co_Wheel_run_up_to ct_Wheel_run_up_to),sl_Wheel_run_up_to⟩)
    (c_Wheel_run_up_to_cd:PySem.W.codeIn K co_Wheel_run_up_to "Wheel.run_up_to" = true)
    (k_Wheel_run_up_to:PySem.W.keepIn K (.ref i_Wheel_run_up_to)=true)
    {i_Wheel_run_out:Addr} {od_Wheel_run_out an_Wheel_run_out:Option Addr} {sl_Wheel_run_out:Array (Option Value)} {oc_Wheel_run_out kV_Wheel_run_out dc_Wheel_run_out pm_Wheel_run_out co_Wheel_run_out ct_Wheel_run_out:Value}
    (a_Wheel_run_out:PySem.W.findIn K (.ref c_Wheel) "run_out" = some (some (.ref i_Wheel_run_out)))
    (i_Wheel_run_out_fn:PySem.W.isFn K (.ref i_Wheel_run_out)=true)
    (l_Wheel_run_out:K.lookup i_Wheel_run_out=some ⟨oc_Wheel_run_out,od_Wheel_run_out,.func (PySem.W.fnOf "run_out" "Wheel.run_out" (zas zbm) (zar zbm) (zag zbm) .none kV_Wheel_run_out dc_Wheel_run_out pm_Wheel_run_out an_Wheel_run_out co_Wheel_run_out ct_Wheel_run_out),sl_Wheel_run_out⟩)
    (c_Wheel_run_out_cd:PySem.W.codeIn K co_Wheel_run_out "Wheel.run_out" = true)
    (k_Wheel_run_out:PySem.W.keepIn K (.ref i_Wheel_run_out)=true)
    : ∃ fd:FuncData,(∀ (s:Shared) (v:Value),BindsTo s fd ⟨[v],[]⟩ [("_law_script", v)])/\∀ base:Heap,K.In base->base.Ns mainGlobals mg->FnOk l.prog w K mg base CX0 11 fa fd ["_law_script"] (spLaw K):=by
  have e:=hfa.symm.trans (PySem.W.mg_of X G a31)
  cases e
  have xc_NoRatio:XC K c_NoRatio:=⟨hd_NoRatio,ga_NoRatio,gn_NoRatio,sa_NoRatio,cl_NoRatio,kg,kt,be_NoRatio,ob_NoRatio,zro ex_NoRatio⟩
  have F1:=zba (st:=zeq) l1 c1 k1
  have F2:=zba (st:=zgw) l2 c2 k2
  have F3:=zba (st:=zjq) l3 c3 k3
  have F4:=zba (st:=zgx) l4 c4 k4
  have F5:=zba (st:=zgy) l5 c5 k5
  have F6:=zba (st:=zjr) l6 c6 k6
  have F7:=zba (st:=zgz) l7 c7 k7
  have F8:=zba (st:=zfo) l8 c8 k8
  have F9:=zba (st:=zer) l9 c9 k9
  have F10:=zba (st:=zha) l10 c10 k10
  have F11:=zba (st:=zdx) l11 c11 k11
  have F12:=zba (st:=zes) l12 c12 k12
  have F13:=zba (st:=zdy) l13 c13 k13
  have F14:=zba (st:=zdm) l14 c14 k14
  have F15:=zba (st:=zjs) l15 c15 k15
  have F16:=zba (st:=zhb) l16 c16 k16
  have F17:=zba (st:=zdn) l17 c17 k17
  have F18:=zdl (st:=zdr) l18 c18
  have B0_dealt:Binds K _ ["row", "rooms"] []:=zfl (fd:=PySem.W.fnOf "dealt" "dealt" (zas zdr) (zar zdr) (zag zdr) (.ref dt_dealt) kV18 dc18 pm18 an18 cd18 ct18) rfl dk_dealt (fun us hl=>match us,(show us.length = 2 by simpa using hl) with | [_,_],_=>⟨_,rfl,rfl⟩)
  have B1_dealt:Binds K _ ["row", "rooms"] [.none]:=zfl (fd:=PySem.W.fnOf "dealt" "dealt" (zas zdr) (zar zdr) (zag zdr) (.ref dt_dealt) kV18 dc18 pm18 an18 cd18 ct18) rfl dk_dealt (fun us hl=>match us,(show us.length = 1 by simpa using hl) with | [_],_=>⟨_,rfl,rfl⟩)
  have F19:=zba (st:=zdb) l19 c19 k19
  have F20:=zba (st:=zbu) l20 c20 k20
  have F21:=zba (st:=zdc) l21 c21 k21
  have F22:=zba (st:=zbv) l22 c22 k22
  have F23:=zba (st:=zdz) l23 c23 k23
  have F24:=zdl (st:=zct) l24 c24
  have B0_report:Binds K _ ["row", "rooms"] []:=zfl (fd:=PySem.W.fnOf "report" "report" (zas zct) (zar zct) (zag zct) (.ref dt_report) kV24 dc24 pm24 an24 cd24 ct24) rfl dk_report (fun us hl=>match us,(show us.length = 2 by simpa using hl) with | [_,_],_=>⟨_,rfl,rfl⟩)
  have B1_report:Binds K _ ["row", "rooms"] [.none]:=zfl (fd:=PySem.W.fnOf "report" "report" (zas zct) (zar zct) (zag zct) (.ref dt_report) kV24 dc24 pm24 an24 cd24 ct24) rfl dk_report (fun us hl=>match us,(show us.length = 1 by simpa using hl) with | [_],_=>⟨_,rfl,rfl⟩)
  have F25:=zba (st:=zbz) l25 c25 k25
  have F26:=zba (st:=zco) l26 c26 k26
  have F27:=zba (st:=zea) l27 c27 k27
  have F28:=zba (st:=zdd) l28 c28 k28
  have F29:=zba (st:=zde) l29 c29 k29
  have F30:=zba (st:=zdo) l30 c30 k30
  have F_Tide_init:=zdl (st:=zcv) l_Tide_init c_Tide_init_cd
  have B_Tide_init:=(zba (st:=zcv) l_Tide_init c_Tide_init_cd k_Tide_init).binds (ps:=["self"]) (fun _ _ _ _ _ _=>L2.el1 (fun _=>rfl))
  have F_Tide_mark:=zdl (st:=zcw) l_Tide_mark c_Tide_mark_cd
  have B_Tide_mark:=(zba (st:=zcw) l_Tide_mark c_Tide_mark_cd k_Tide_mark).binds (ps:=["self", "at"]) (fun _ _ _ _ _ _=>L2.el2 (fun _ _=>rfl))
  have F_Tide_come:=zdl (st:=zcx) l_Tide_come c_Tide_come_cd
  have B_Tide_come:=(zba (st:=zcx) l_Tide_come c_Tide_come_cd k_Tide_come).binds (ps:=["self", "piece"]) (fun _ _ _ _ _ _=>L2.el2 (fun _ _=>rfl))
  have F_Wheel_init:=zdl (st:=zcj) l_Wheel_init c_Wheel_init_cd
  have B_Wheel_init:=(zba (st:=zcj) l_Wheel_init c_Wheel_init_cd k_Wheel_init).binds (ps:=["self"]) (fun _ _ _ _ _ _=>L2.el1 (fun _=>rfl))
  have F_Wheel_piled_up:=zdl (st:=zbh) l_Wheel_piled_up c_Wheel_piled_up_cd
  have B_Wheel_piled_up:=(zba (st:=zbh) l_Wheel_piled_up c_Wheel_piled_up_cd k_Wheel_piled_up).binds (ps:=["self", "who"]) (fun _ _ _ _ _ _=>L2.el2 (fun _ _=>rfl))
  have F_Wheel_take_in:=zdl (st:=zbl) l_Wheel_take_in c_Wheel_take_in_cd
  have B_Wheel_take_in:=(zba (st:=zbl) l_Wheel_take_in c_Wheel_take_in_cd k_Wheel_take_in).binds (ps:=["self", "place", "piece"]) (fun _ _ _ _ _ _=>L2.el3 (fun _ _ _=>rfl))
  have F_Wheel_choice_time:=zdl (st:=zaw) l_Wheel_choice_time c_Wheel_choice_time_cd
  have B_Wheel_choice_time:=(zba (st:=zaw) l_Wheel_choice_time c_Wheel_choice_time_cd k_Wheel_choice_time).binds (ps:=["self"]) (fun _ _ _ _ _ _=>L2.el1 (fun _=>rfl))
  have F_Wheel_next_to_go:=zdl (st:=zbc) l_Wheel_next_to_go c_Wheel_next_to_go_cd
  have B_Wheel_next_to_go:=(zba (st:=zbc) l_Wheel_next_to_go c_Wheel_next_to_go_cd k_Wheel_next_to_go).binds (ps:=["self", "mark"]) (fun _ _ _ _ _ _=>L2.el2 (fun _ _=>rfl))
  have F_Wheel_make_choice:=zdl (st:=zax) l_Wheel_make_choice c_Wheel_make_choice_cd
  have B_Wheel_make_choice:=(zba (st:=zax) l_Wheel_make_choice c_Wheel_make_choice_cd k_Wheel_make_choice).binds (ps:=["self"]) (fun _ _ _ _ _ _=>L2.el1 (fun _=>rfl))
  have F_Wheel_run_up_to:=zdl (st:=zbf) l_Wheel_run_up_to c_Wheel_run_up_to_cd
  have B_Wheel_run_up_to:=(zba (st:=zbf) l_Wheel_run_up_to c_Wheel_run_up_to_cd k_Wheel_run_up_to).binds (ps:=["self", "at"]) (fun _ _ _ _ _ _=>L2.el2 (fun _ _=>rfl))
  have F_Wheel_run_out:=zdl (st:=zbm) l_Wheel_run_out c_Wheel_run_out_cd
  have B_Wheel_run_out:=(zba (st:=zbm) l_Wheel_run_out c_Wheel_run_out_cd k_Wheel_run_out).binds (ps:=["self"]) (fun _ _ _ _ _ _=>L2.el1 (fun _=>rfl))
  have T:Txt K mg c_NoRatio c_Tide c_Wheel:=⟨PySem.W.mg_of X G b_NoRatio,xc_NoRatio,kp_NoRatio,ex_NoRatio,s_NoRatio_NoRatio,zrp,zwv v_NoRatio_VE,PySem.W.mg_none_of X G z1,PySem.W.mg_none_of X G z2,PySem.W.mg_none_of X G z3,PySem.W.mg_none_of X G z4,PySem.W.mg_none_of X G z5,PySem.W.mg_none_of X G z6,PySem.W.mg_none_of X G z7,PySem.W.mg_none_of X G z8,PySem.W.mg_none_of X G z9,PySem.W.mg_none_of X G z10,PySem.W.mg_none_of X G z11,PySem.W.mg_none_of X G z12,PySem.W.mg_none_of X G z13,⟨_,PySem.W.mg_of X G v_HEADINGS,fun H=>.inr ⟨_,_,_,w_HEADINGS,rfl,rfl,(by show 6<=sizeLine; decide),.cons ⟨_,rfl⟩ (.cons ⟨_,rfl⟩ (.cons ⟨_,rfl⟩ (.cons ⟨_,rfl⟩ (.cons ⟨_,rfl⟩ (.cons ⟨_,rfl⟩ (.nil))))))⟩⟩,⟨_,_,F1,F1.binds (ps:=["one", "other"]) (fun _ _ _ _ _ _=>L2.el2 (fun _ _=>rfl)),PySem.W.mg_of X G a1⟩,⟨_,_,F2,F2.binds (ps:=["top", "bottom"]) (fun _ _ _ _ _ _=>L2.el2 (fun _ _=>rfl)),PySem.W.mg_of X G a2⟩,⟨_,_,F3,F3.binds (ps:=["one", "other"]) (fun _ _ _ _ _ _=>L2.el2 (fun _ _=>rfl)),PySem.W.mg_of X G a3⟩,⟨_,_,F4,F4.binds (ps:=["one", "other"]) (fun _ _ _ _ _ _=>L2.el2 (fun _ _=>rfl)),PySem.W.mg_of X G a4⟩,⟨_,_,F5,F5.binds (ps:=["one", "other"]) (fun _ _ _ _ _ _=>L2.el2 (fun _ _=>rfl)),PySem.W.mg_of X G a5⟩,⟨_,_,F6,F6.binds (ps:=["one", "other"]) (fun _ _ _ _ _ _=>L2.el2 (fun _ _=>rfl)),PySem.W.mg_of X G a6⟩,⟨_,_,F7,F7.binds (ps:=["one", "other"]) (fun _ _ _ _ _ _=>L2.el2 (fun _ _=>rfl)),PySem.W.mg_of X G a7⟩,⟨_,_,F8,F8.binds (ps:=["one", "other"]) (fun _ _ _ _ _ _=>L2.el2 (fun _ _=>rfl)),PySem.W.mg_of X G a8⟩,⟨_,_,F9,F9.binds (ps:=["one", "other"]) (fun _ _ _ _ _ _=>L2.el2 (fun _ _=>rfl)),PySem.W.mg_of X G a9⟩,⟨_,_,F10,F10.binds (ps:=["some"]) (fun _ _ _ _ _ _=>L2.el1 (fun _=>rfl)),PySem.W.mg_of X G a10⟩,⟨_,_,F11,F11.binds (ps:=["tagged", "mark"]) (fun _ _ _ _ _ _=>L2.el2 (fun _ _=>rfl)),PySem.W.mg_of X G a11⟩,⟨_,_,F12,F12.binds (ps:=["row"]) (fun _ _ _ _ _ _=>L2.el1 (fun _=>rfl)),PySem.W.mg_of X G a12⟩,⟨_,_,F13,F13.binds (ps:=["row", "tags", "moment", "mark"]) (fun _ _ _ _ _ _=>L2.el4 (fun _ _ _ _=>rfl)),PySem.W.mg_of X G a13⟩,⟨_,_,F14,F14.binds (ps:=["tags", "heads", "shares", "moment", "mark"]) (fun _ _ _ _ _ _=>L2.el5 (fun _ _ _ _ _=>rfl)),PySem.W.mg_of X G a14⟩,⟨_,_,F15,F15.binds (ps:=["row"]) (fun _ _ _ _ _ _=>L2.el1 (fun _=>rfl)),PySem.W.mg_of X G a15⟩,⟨_,_,F16,F16.binds (ps:=["row"]) (fun _ _ _ _ _ _=>L2.el1 (fun _=>rfl)),PySem.W.mg_of X G a16⟩,⟨_,_,F17,F17.binds (ps:=["wheel", "piece", "rooms"]) (fun _ _ _ _ _ _=>L2.el3 (fun _ _ _=>rfl)),PySem.W.mg_of X G a17⟩,⟨⟨_,_,F18,(fun dvs h=>by simp only [List.mem_cons,List.not_mem_nil,or_false] at h; rcases h with rfl | rfl <;> first | exact ⟨_,.nil,B0_dealt⟩ | exact ⟨_,(.cons rfl .nil),B1_dealt⟩),k18,PySem.W.mg_of X G a18⟩⟩,⟨_,_,F19,F19.binds (ps:=["number"]) (fun _ _ _ _ _ _=>L2.el1 (fun _=>rfl)),PySem.W.mg_of X G a19⟩,⟨_,_,F20,F20.binds (ps:=["one"]) (fun _ _ _ _ _ _=>L2.el1 (fun _=>rfl)),PySem.W.mg_of X G a20⟩,⟨_,_,F21,F21.binds (ps:=["row", "gone"]) (fun _ _ _ _ _ _=>L2.el2 (fun _ _=>rfl)),PySem.W.mg_of X G a21⟩,⟨_,_,F22,F22.binds (ps:=["row", "dropped"]) (fun _ _ _ _ _ _=>L2.el2 (fun _ _=>rfl)),PySem.W.mg_of X G a22⟩,⟨_,_,F23,F23.binds (ps:=["rows"]) (fun _ _ _ _ _ _=>L2.el1 (fun _=>rfl)),PySem.W.mg_of X G a23⟩,⟨⟨_,_,F24,(fun dvs h=>by simp only [List.mem_cons,List.not_mem_nil,or_false] at h; rcases h with rfl | rfl <;> first | exact ⟨_,.nil,B0_report⟩ | exact ⟨_,(.cons rfl .nil),B1_report⟩),k24,PySem.W.mg_of X G a24⟩⟩,⟨_,_,F25,F25.binds (ps:=["_law_script", "_law_k"]) (fun _ _ _ _ _ _=>L2.el2 (fun _ _=>rfl)),PySem.W.mg_of X G a25⟩,⟨_,_,F26,F26.binds (ps:=["_law_cell", "_law_many"]) (fun _ _ _ _ _ _=>L2.el2 (fun _ _=>rfl)),PySem.W.mg_of X G a26⟩,⟨_,_,F27,F27.binds (ps:=["_law_script"]) (fun _ _ _ _ _ _=>L2.el1 (fun _=>rfl)),PySem.W.mg_of X G a27⟩,⟨_,_,F28,F28.binds (ps:=["_law_cell", "_law_row_here"]) (fun _ _ _ _ _ _=>L2.el2 (fun _ _=>rfl)),PySem.W.mg_of X G a28⟩,⟨_,_,F29,F29.binds (ps:=["_law_row_here", "_law_goings", "_law_dropped"]) (fun _ _ _ _ _ _=>L2.el3 (fun _ _ _=>rfl)),PySem.W.mg_of X G a29⟩,⟨_,_,F30,F30.binds (ps:=["_law_lines"]) (fun _ _ _ _ _ _=>L2.el1 (fun _=>rfl)),PySem.W.mg_of X G a30⟩,PySem.W.mg_of X G b_Tide,⟨pg_Tide,hd_Tide,po_Tide,sa_Tide⟩,na_Tide_latest,na_Tide_reached,na_Tide_unflowed,na_Tide_last_ends,⟨⟨_,_,F_Tide_init,⟨mk_Tide,a_Tide_init,i_Tide_init_fn,kc_Tide⟩,(fun dvs h=>by simp only [List.mem_cons,List.not_mem_nil,or_false] at h; subst h; exact BindsV.nil B_Tide_init)⟩⟩,⟨⟨_,_,F_Tide_mark,⟨a_Tide_mark,i_Tide_mark_fn,k_Tide_mark⟩,(fun dvs h=>by simp only [List.mem_cons,List.not_mem_nil,or_false] at h; subst h; exact BindsV.nil B_Tide_mark)⟩⟩,⟨⟨_,_,F_Tide_come,⟨a_Tide_come,i_Tide_come_fn,k_Tide_come⟩,(fun dvs h=>by simp only [List.mem_cons,List.not_mem_nil,or_false] at h; subst h; exact BindsV.nil B_Tide_come)⟩⟩,PySem.W.mg_of X G b_Wheel,⟨pg_Wheel,hd_Wheel,po_Wheel,sa_Wheel⟩,na_Wheel_tide,na_Wheel_free,na_Wheel_queue,na_Wheel_gone,⟨⟨_,_,F_Wheel_init,⟨mk_Wheel,a_Wheel_init,i_Wheel_init_fn,kc_Wheel⟩,(fun dvs h=>by simp only [List.mem_cons,List.not_mem_nil,or_false] at h; subst h; exact BindsV.nil B_Wheel_init)⟩⟩,⟨⟨_,_,F_Wheel_piled_up,⟨a_Wheel_piled_up,i_Wheel_piled_up_fn,k_Wheel_piled_up⟩,(fun dvs h=>by simp only [List.mem_cons,List.not_mem_nil,or_false] at h; subst h; exact BindsV.nil B_Wheel_piled_up)⟩⟩,⟨⟨_,_,F_Wheel_take_in,⟨a_Wheel_take_in,i_Wheel_take_in_fn,k_Wheel_take_in⟩,(fun dvs h=>by simp only [List.mem_cons,List.not_mem_nil,or_false] at h; subst h; exact BindsV.nil B_Wheel_take_in)⟩⟩,⟨⟨_,_,F_Wheel_choice_time,⟨a_Wheel_choice_time,i_Wheel_choice_time_fn,k_Wheel_choice_time⟩,(fun dvs h=>by simp only [List.mem_cons,List.not_mem_nil,or_false] at h; subst h; exact BindsV.nil B_Wheel_choice_time)⟩⟩,⟨⟨_,_,F_Wheel_next_to_go,⟨a_Wheel_next_to_go,i_Wheel_next_to_go_fn,k_Wheel_next_to_go⟩,(fun dvs h=>by simp only [List.mem_cons,List.not_mem_nil,or_false] at h; subst h; exact BindsV.nil B_Wheel_next_to_go)⟩⟩,⟨⟨_,_,F_Wheel_make_choice,⟨a_Wheel_make_choice,i_Wheel_make_choice_fn,k_Wheel_make_choice⟩,(fun dvs h=>by simp only [List.mem_cons,List.not_mem_nil,or_false] at h; subst h; exact BindsV.nil B_Wheel_make_choice)⟩⟩,⟨⟨_,_,F_Wheel_run_up_to,⟨a_Wheel_run_up_to,i_Wheel_run_up_to_fn,k_Wheel_run_up_to⟩,(fun dvs h=>by simp only [List.mem_cons,List.not_mem_nil,or_false] at h; subst h; exact BindsV.nil B_Wheel_run_up_to)⟩⟩,⟨⟨_,_,F_Wheel_run_out,⟨a_Wheel_run_out,i_Wheel_run_out_fn,k_Wheel_run_out⟩,(fun dvs h=>by simp only [List.mem_cons,List.not_mem_nil,or_false] at h; subst h; exact BindsV.nil B_Wheel_run_out)⟩⟩⟩
  exact ⟨PySem.W.fnOf "law" "law" (zas s_law) (zar s_law) (zag s_law) .none kV31 dc31 pm31 an31 cd31 ct31,fun s v=>.of_eq rfl,fun base _ _=>zxy (zba (st:=s_law) l31 c31 k31) T⟩
theorem walk {l:PySem.W.OpenLaw} {q:Program} {loose:List Str} {XP:(Str->Option Value)->Heap->Prop} {YP:World->Heap->Prop} {d:DefRec} {K:Params->PySem.W.Frag} (hn:l.most=some 63) (hdf:d.params.defaults = [])
    (hY:∀ (w:World) (h:Heap),YP w h->(K w.params).In h)
    (F:∀ (w:World) (mg:Str->Option Value) (fa:Addr) (h:Heap),(K w.params).In h->h.Ns mainGlobals mg->mg d.name=some (.ref fa) ->
      ∃ fd:FuncData,(∀ (s:Shared) (u:Value),BindsTo s fd ⟨[u],[]⟩ [("_law_script", u)])/\∀ base:Heap,(K w.params).In base->base.Ns mainGlobals mg->FnOk l.prog w (K w.params) mg base CX0 11 fa fd ["_law_script"] (spLaw (K w.params))) :
    PySem.W.WalkO q loose XP YP l.row.toRowW d [] (fun f vs=>PySem.call f vs) :=
  L2.walk_of (n:=63) (k:=11) (x := "_law_script") (CX:=fun _=>CX0) (sp:=fun w=>spLaw (K w.params)) hn (by decide) hdf ⟨rfl,by decide,by decide⟩ hY F (fun _ _ a ns hl _ hS=>⟨a,ns,rfl,hS,hl,fun _=>rfl⟩) fun _ _ _ _ _ z=>z
end K83
theorem PySem.W.Fast.tw11880623711201058569 : True := trivial
theorem PySem.W.Fast.tw377188822428780015 : True := trivial
theorem PySem.W.Fast.tw10011112643453446053 : True := trivial
theorem PySem.W.Fast.tw14407321379372522257 : True := trivial
theorem PySem.W.Fast.tw9734640214514680343 : True := trivial
theorem PySem.W.Fast.tw4093520448744573561 : True := trivial
theorem PySem.W.Fast.tw11150488631396203413 : True := trivial
theorem PySem.W.Fast.tw12119219500262166678 : True := trivial
theorem PySem.W.Fast.tw13598980199700015879 : True := trivial
theorem PySem.W.Fast.tw1072354492061141677 : True := trivial
theorem PySem.W.Fast.tw2102492570862637572 : True := trivial
theorem PySem.W.Fast.tw5582056168595373456 : True := trivial
theorem PySem.W.Fast.tw2679409150999562187 : True := trivial
theorem PySem.W.Fast.tw15580440670743855203 : True := trivial
theorem PySem.W.Fast.te17375362795466965866 : True := trivial
theorem PySem.W.Fast.tw11956126705812247502 : True := trivial
theorem PySem.W.Fast.tw12407884534633788113 : True := trivial
theorem PySem.W.Fast.tw13384372742197442010 : True := trivial
theorem PySem.W.Fast.tw1719375633567544195 : True := trivial
theorem PySem.W.Fast.tw2381804936840967829 : True := trivial
theorem PySem.W.Fast.tw4193028416356241224 : True := trivial
theorem PySem.W.Fast.tw648577206734092683 : True := trivial
theorem PySem.W.Fast.tw7831368294162400124 : True := trivial
open PySem PySem.W PyProof.Rows
set_option maxRecDepth 100000 in
set_option maxHeartbeats 0 in
theorem PySem.Challenge.cw_sharewheel_k83_the_report_holds : PySem.Challenge.rw_sharewheel_k83_the_report.Holds := by
  w_on; o_law; k_head; (case hw=>w_witness2)
  k_fill
  refine K83.walk (l:=PySem.Challenge.rw_sharewheel_k83_the_report) rfl rfl (fun w h Y=>PySem.W.kIn_of Y) ?F
  case F =>
    intro w mg fa h KX G hmg
    refine' K83.all_mk KX G hmg ?b_NoRatio ?hd_NoRatio ?ga_NoRatio ?gn_NoRatio ?sa_NoRatio ?cl_NoRatio ?be_NoRatio ?ob_NoRatio ?kp_NoRatio ?ci_NoRatio ?ti_NoRatio ?ex_NoRatio ?kg ?kt ?s_NoRatio_NoRatio ?v_NoRatio_VE ?a1 ?l1 ?c1 ?k1 ?a2 ?l2 ?c2 ?k2 ?a3 ?l3 ?c3 ?k3 ?a4 ?l4 ?c4 ?k4 ?a5 ?l5 ?c5 ?k5 ?a6 ?l6 ?c6 ?k6 ?a7 ?l7 ?c7 ?k7 ?a8 ?l8 ?c8 ?k8 ?a9 ?l9 ?c9 ?k9 ?a10 ?l10 ?c10 ?k10 ?a11 ?l11 ?c11 ?k11 ?a12 ?l12 ?c12 ?k12 ?a13 ?l13 ?c13 ?k13 ?a14 ?l14 ?c14 ?k14 ?a15 ?l15 ?c15 ?k15 ?a16 ?l16 ?c16 ?k16 ?a17 ?l17 ?c17 ?k17 ?a18 ?l18 ?c18 ?k18 ?dk_dealt ?a19 ?l19 ?c19 ?k19 ?a20 ?l20 ?c20 ?k20 ?a21 ?l21 ?c21 ?k21 ?a22 ?l22 ?c22 ?k22 ?a23 ?l23 ?c23 ?k23 ?a24 ?l24 ?c24 ?k24 ?dk_report ?a25 ?l25 ?c25 ?k25 ?a26 ?l26 ?c26 ?k26 ?a27 ?l27 ?c27 ?k27 ?a28 ?l28 ?c28 ?k28 ?a29 ?l29 ?c29 ?k29 ?a30 ?l30 ?c30 ?k30 ?a31 ?l31 ?c31 ?k31 ?z1 ?z2 ?z3 ?z4 ?z5 ?z6 ?z7 ?z8 ?z9 ?z10 ?z11 ?z12 ?z13 ?v_HEADINGS ?w_HEADINGS ?b_Tide ?pg_Tide ?hd_Tide ?po_Tide ?sa_Tide ?mk_Tide ?kc_Tide ?na_Tide_latest ?na_Tide_reached ?na_Tide_unflowed ?na_Tide_last_ends ?a_Tide_init ?i_Tide_init_fn ?l_Tide_init ?c_Tide_init_cd ?k_Tide_init ?a_Tide_mark ?i_Tide_mark_fn ?l_Tide_mark ?c_Tide_mark_cd ?k_Tide_mark ?a_Tide_come ?i_Tide_come_fn ?l_Tide_come ?c_Tide_come_cd ?k_Tide_come ?b_Wheel ?pg_Wheel ?hd_Wheel ?po_Wheel ?sa_Wheel ?mk_Wheel ?kc_Wheel ?na_Wheel_tide ?na_Wheel_free ?na_Wheel_queue ?na_Wheel_gone ?a_Wheel_init ?i_Wheel_init_fn ?l_Wheel_init ?c_Wheel_init_cd ?k_Wheel_init ?a_Wheel_piled_up ?i_Wheel_piled_up_fn ?l_Wheel_piled_up ?c_Wheel_piled_up_cd ?k_Wheel_piled_up ?a_Wheel_take_in ?i_Wheel_take_in_fn ?l_Wheel_take_in ?c_Wheel_take_in_cd ?k_Wheel_take_in ?a_Wheel_choice_time ?i_Wheel_choice_time_fn ?l_Wheel_choice_time ?c_Wheel_choice_time_cd ?k_Wheel_choice_time ?a_Wheel_next_to_go ?i_Wheel_next_to_go_fn ?l_Wheel_next_to_go ?c_Wheel_next_to_go_cd ?k_Wheel_next_to_go ?a_Wheel_make_choice ?i_Wheel_make_choice_fn ?l_Wheel_make_choice ?c_Wheel_make_choice_cd ?k_Wheel_make_choice ?a_Wheel_run_up_to ?i_Wheel_run_up_to_fn ?l_Wheel_run_up_to ?c_Wheel_run_up_to_cd ?k_Wheel_run_up_to ?a_Wheel_run_out ?i_Wheel_run_out_fn ?l_Wheel_run_out ?c_Wheel_run_out_cd ?k_Wheel_run_out
    (case b_NoRatio=>k_is)
    (case hd_NoRatio=>k_is)
    (case ga_NoRatio=>k_is)
    (case gn_NoRatio=>k_is)
    (case sa_NoRatio=>k_is)
    (case cl_NoRatio=>k_is)
    (case be_NoRatio=>k_is)
    (case ob_NoRatio=>k_is)
    (case kp_NoRatio=>k_is)
    (case ci_NoRatio=>k_is)
    (case ti_NoRatio=>k_is)
    (case ex_NoRatio=>k_exc)
    (case kg=>k_is)
    (case kt=>k_is)
    (case s_NoRatio_NoRatio=>k_is)
    (case v_NoRatio_VE=>k_is)
    (case a1=>k_is)
    (case l1=>k_is)
    (case c1=>k_is)
    (case k1=>k_is)
    (case a2=>k_is)
    (case l2=>k_is)
    (case c2=>k_is)
    (case k2=>k_is)
    (case a3=>k_is)
    (case l3=>k_is)
    (case c3=>k_is)
    (case k3=>k_is)
    (case a4=>k_is)
    (case l4=>k_is)
    (case c4=>k_is)
    (case k4=>k_is)
    (case a5=>k_is)
    (case l5=>k_is)
    (case c5=>k_is)
    (case k5=>k_is)
    (case a6=>k_is)
    (case l6=>k_is)
    (case c6=>k_is)
    (case k6=>k_is)
    (case a7=>k_is)
    (case l7=>k_is)
    (case c7=>k_is)
    (case k7=>k_is)
    (case a8=>k_is)
    (case l8=>k_is)
    (case c8=>k_is)
    (case k8=>k_is)
    (case a9=>k_is)
    (case l9=>k_is)
    (case c9=>k_is)
    (case k9=>k_is)
    (case a10=>k_is)
    (case l10=>k_is)
    (case c10=>k_is)
    (case k10=>k_is)
    (case a11=>k_is)
    (case l11=>k_is)
    (case c11=>k_is)
    (case k11=>k_is)
    (case a12=>k_is)
    (case l12=>k_is)
    (case c12=>k_is)
    (case k12=>k_is)
    (case a13=>k_is)
    (case l13=>k_is)
    (case c13=>k_is)
    (case k13=>k_is)
    (case a14=>k_is)
    (case l14=>k_is)
    (case c14=>k_is)
    (case k14=>k_is)
    (case a15=>k_is)
    (case l15=>k_is)
    (case c15=>k_is)
    (case k15=>k_is)
    (case a16=>k_is)
    (case l16=>k_is)
    (case c16=>k_is)
    (case k16=>k_is)
    (case a17=>k_is)
    (case l17=>k_is)
    (case c17=>k_is)
    (case k17=>k_is)
    (case a18=>k_is)
    (case l18=>k_is)
    (case c18=>k_is)
    (case k18=>k_is)
    (case dk_dealt=>k_is)
    (case a19=>k_is)
    (case l19=>k_is)
    (case c19=>k_is)
    (case k19=>k_is)
    (case a20=>k_is)
    (case l20=>k_is)
    (case c20=>k_is)
    (case k20=>k_is)
    (case a21=>k_is)
    (case l21=>k_is)
    (case c21=>k_is)
    (case k21=>k_is)
    (case a22=>k_is)
    (case l22=>k_is)
    (case c22=>k_is)
    (case k22=>k_is)
    (case a23=>k_is)
    (case l23=>k_is)
    (case c23=>k_is)
    (case k23=>k_is)
    (case a24=>k_is)
    (case l24=>k_is)
    (case c24=>k_is)
    (case k24=>k_is)
    (case dk_report=>k_is)
    (case a25=>k_is)
    (case l25=>k_is)
    (case c25=>k_is)
    (case k25=>k_is)
    (case a26=>k_is)
    (case l26=>k_is)
    (case c26=>k_is)
    (case k26=>k_is)
    (case a27=>k_is)
    (case l27=>k_is)
    (case c27=>k_is)
    (case k27=>k_is)
    (case a28=>k_is)
    (case l28=>k_is)
    (case c28=>k_is)
    (case k28=>k_is)
    (case a29=>k_is)
    (case l29=>k_is)
    (case c29=>k_is)
    (case k29=>k_is)
    (case a30=>k_is)
    (case l30=>k_is)
    (case c30=>k_is)
    (case k30=>k_is)
    (case a31=>k_is)
    (case l31=>k_is)
    (case c31=>k_is)
    (case k31=>k_is)
    (case z1=>k_is)
    (case z2=>k_is)
    (case z3=>k_is)
    (case z4=>k_is)
    (case z5=>k_is)
    (case z6=>k_is)
    (case z7=>k_is)
    (case z8=>k_is)
    (case z9=>k_is)
    (case z10=>k_is)
    (case z11=>k_is)
    (case z12=>k_is)
    (case z13=>k_is)
    (case v_HEADINGS=>k_is)
    (case w_HEADINGS=>k_is)
    (case b_Tide=>k_is)
    (case pg_Tide=>k_is)
    (case hd_Tide=>k_is)
    (case po_Tide=>k_is)
    (case sa_Tide=>k_is)
    (case mk_Tide=>k_is)
    (case kc_Tide=>k_is)
    (case na_Tide_latest=>k_is)
    (case na_Tide_reached=>k_is)
    (case na_Tide_unflowed=>k_is)
    (case na_Tide_last_ends=>k_is)
    (case a_Tide_init=>k_is)
    (case i_Tide_init_fn=>k_is)
    (case l_Tide_init=>k_is)
    (case c_Tide_init_cd=>k_is)
    (case k_Tide_init=>k_is)
    (case a_Tide_mark=>k_is)
    (case i_Tide_mark_fn=>k_is)
    (case l_Tide_mark=>k_is)
    (case c_Tide_mark_cd=>k_is)
    (case k_Tide_mark=>k_is)
    (case a_Tide_come=>k_is)
    (case i_Tide_come_fn=>k_is)
    (case l_Tide_come=>k_is)
    (case c_Tide_come_cd=>k_is)
    (case k_Tide_come=>k_is)
    (case b_Wheel=>k_is)
    (case pg_Wheel=>k_is)
    (case hd_Wheel=>k_is)
    (case po_Wheel=>k_is)
    (case sa_Wheel=>k_is)
    (case mk_Wheel=>k_is)
    (case kc_Wheel=>k_is)
    (case na_Wheel_tide=>k_is)
    (case na_Wheel_free=>k_is)
    (case na_Wheel_queue=>k_is)
    (case na_Wheel_gone=>k_is)
    (case a_Wheel_init=>k_is)
    (case i_Wheel_init_fn=>k_is)
    (case l_Wheel_init=>k_is)
    (case c_Wheel_init_cd=>k_is)
    (case k_Wheel_init=>k_is)
    (case a_Wheel_piled_up=>k_is)
    (case i_Wheel_piled_up_fn=>k_is)
    (case l_Wheel_piled_up=>k_is)
    (case c_Wheel_piled_up_cd=>k_is)
    (case k_Wheel_piled_up=>k_is)
    (case a_Wheel_take_in=>k_is)
    (case i_Wheel_take_in_fn=>k_is)
    (case l_Wheel_take_in=>k_is)
    (case c_Wheel_take_in_cd=>k_is)
    (case k_Wheel_take_in=>k_is)
    (case a_Wheel_choice_time=>k_is)
    (case i_Wheel_choice_time_fn=>k_is)
    (case l_Wheel_choice_time=>k_is)
    (case c_Wheel_choice_time_cd=>k_is)
    (case k_Wheel_choice_time=>k_is)
    (case a_Wheel_next_to_go=>k_is)
    (case i_Wheel_next_to_go_fn=>k_is)
    (case l_Wheel_next_to_go=>k_is)
    (case c_Wheel_next_to_go_cd=>k_is)
    (case k_Wheel_next_to_go=>k_is)
    (case a_Wheel_make_choice=>k_is)
    (case i_Wheel_make_choice_fn=>k_is)
    (case l_Wheel_make_choice=>k_is)
    (case c_Wheel_make_choice_cd=>k_is)
    (case k_Wheel_make_choice=>k_is)
    (case a_Wheel_run_up_to=>k_is)
    (case i_Wheel_run_up_to_fn=>k_is)
    (case l_Wheel_run_up_to=>k_is)
    (case c_Wheel_run_up_to_cd=>k_is)
    (case k_Wheel_run_up_to=>k_is)
    (case a_Wheel_run_out=>k_is)
    (case i_Wheel_run_out_fn=>k_is)
    (case l_Wheel_run_out=>k_is)
    (case c_Wheel_run_out_cd=>k_is)
    (case k_Wheel_run_out=>k_is)
