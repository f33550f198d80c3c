import PyProof.Rows.All
import Wide.All
import OpenK.AllK
import Wide.FinOn
import Lean
import PyProof.EqAt
import PyProof.EqKinds
import PyProof.TupleCall
import PySem.Challenge.RW_sharewheel_k35_went_and_flowed
set_option Elab.async false
set_option linter.all false
set_option maxRecDepth 100000
namespace L2
open PySem PySem.Spec PyProof.Rows
abbrev Key:=Sum Int Str
def keyIs:Key→Value→Bool
  | .inl k,v=>Value.isInt k v
  | .inr x,v=>Value.isStrOf x v
def keyH (w:World):Key→Int
  | .inl k=>hashInt k
  | .inr x=>hashStr w x
theorem keyIs_shape:∀ {k:Key} {v:Value},keyIs k v=true→(∃ i t,k=Sum.inl i∧v=Value.int i t)∨(∃ x t,k=Sum.inr x∧v=Value.str x t)
  | .inl i,v,h=>by
    obtain ⟨t,e⟩:=Value.isInt_shape (k:=i) (v:=v) h
    exact .inl ⟨i,t,rfl,e⟩
  | .inr x,v,h=>by
    obtain ⟨t,e⟩:=Value.isStrOf_shape (x:=x) (v:=v) h
    exact .inr ⟨x,t,rfl,e⟩
theorem keyIs_int (i:Int) (t:Tok):keyIs (.inl i) (.int i t)=true:=by simp [keyIs,Value.isInt]
theorem keyIs_str (x:Str) (t:Tok):keyIs (.inr x) (.str x t)=true:=by simp [keyIs,Value.isStrOf]
theorem key_ll (a b:Int):decide ((Sum.inl a:Key)=Sum.inl b)=(a == b):=by
  by_cases e:a=b
  · subst e; simp
  · have h:¬ (Sum.inl a:Key)=Sum.inl b:=fun q=>e (Sum.inl.inj q)
    rw [decide_eq_false h]
    exact (beq_eq_false_iff_ne.mpr e).symm
theorem key_rr (a b:Str):decide ((Sum.inr a:Key)=Sum.inr b)=decide (a=b):=by
  by_cases e:a=b
  · subst e; simp
  · have h:¬ (Sum.inr a:Key)=Sum.inr b:=fun q=>e (Sum.inr.inj q)
    rw [decide_eq_false h,decide_eq_false e]
theorem key_lr (a:Int) (b:Str):decide ((Sum.inl a:Key)=Sum.inr b)=false:=decide_eq_false (fun q=>nomatch q)
theorem key_rl (a:Str) (b:Int):decide ((Sum.inr a:Key)=Sum.inl b)=false:=decide_eq_false (fun q=>nomatch q)
def mixKind (prog:Program) (w:World):PySem.KeyKind prog w Key where
  is:=keyIs
  hash:=keyH w
  inj:=fun v a b ha hb=>by
    rcases keyIs_shape ha with ⟨i,t,rfl,rfl⟩ | ⟨x,t,rfl,rfl⟩
    · rcases keyIs_shape hb with ⟨j,u,rfl,e⟩ | ⟨y,u,rfl,e⟩
      · injection e with e1 _; rw [e1]
      · exact nomatch e
    · rcases keyIs_shape hb with ⟨j,u,rfl,e⟩ | ⟨y,u,rfl,e⟩
      · exact nomatch e
      · injection e with e1 _; rw [e1]
  byValue:=fun k v h=>by
    rcases keyIs_shape h with ⟨i,t,rfl,rfl⟩ | ⟨x,t,rfl,rfl⟩ <;> rfl
  pyHash:=fun hv h=>by
    rcases keyIs_shape hv with ⟨i,t,rfl,rfl⟩ | ⟨x,t,rfl,rfl⟩
    · exact wpAny_pyHash_int h
    · exact wpAny_pyHash_str h
  eqBool:=fun hu hv h=>by
    rcases keyIs_shape hu with ⟨i,t,rfl,rfl⟩ | ⟨x,t,rfl,rfl⟩
    · rcases keyIs_shape hv with ⟨j,u,rfl,rfl⟩ | ⟨y,u,rfl,rfl⟩
      · rw [key_ll] at h; exact wpAny_eqBool_int h
      · rw [key_lr] at h; exact SeqAt.EqAt.int_str i t y u _ _ _ _ h
    · rcases keyIs_shape hv with ⟨j,u,rfl,rfl⟩ | ⟨y,u,rfl,rfl⟩
      · rw [key_rl] at h; exact SeqAt.EqAt.str_int x t j u _ _ _ _ h
      · rw [key_rr] at h; exact wpAny_eqBool_str h
  «strs»:=fun k x t v h=>by
    rcases keyIs_shape h with ⟨i,u,rfl,e⟩ | ⟨y,u,rfl,e⟩
    · exact nomatch e
    · injection e with e1 _
      subst e1
      cases v <;> rfl
theorem mixKind_int (prog:Program) (w:World) (i:Int) (t:Tok):(mixKind prog w).is (.inl i) (.int i t)=true:=keyIs_int i t
theorem mixKind_str (prog:Program) (w:World) (x:Str) (t:Tok):(mixKind prog w).is (.inr x) (.str x t)=true:=keyIs_str x t
end L2
namespace L2
open PySem PySem.Spec PyProof.Rows
inductive V where
  | non | bl (b:Bool) | int (i:Int) | str (x:Str) | byt (b:Array UInt8) | flt (b:UInt64) | ref (a:Addr) | ty (n:String)
  deriving DecidableEq
def RelV:V→Value→Prop
  | .non,u=>u=Value.none
  | .bl b,u=>u=Value.bool b
  | .int i,u=>∃ t,u=Value.int i t
  | .str x,u=>∃ t,u=Value.str x t
  | .byt b,u=>∃ t,u=Value.bytes b t
  | .flt b,u=>∃ t,u=Value.float b t
  | .ref a,u=>u=Value.ref a
  | .ty n,u=>u=Value.type n
abbrev Vals:List V→List Value→Prop:=Paired RelV
theorem Vals.length {xs:List V} {us:List Value} (r:Vals xs us):xs.length=us.length:=Paired.length r
theorem Vals.get:∀ {xs:List V} {us:List Value} {i:Nat} {x:V},Vals xs us→xs[i]? = some x→∃ u,us[i]? = some u∧RelV x u
  | _,_,_,_,.nil,e=>by simp at e
  | _,_,0,_,.cons r _,e=>by simp at e; subst e; exact ⟨_,rfl,r⟩
  | _,_,i+1,x,.cons _ t,e=>by
    obtain ⟨u,h1,h2⟩:=Vals.get (i:=i) (x:=x) t (by simpa using e)
    exact ⟨u,by simpa using h1,h2⟩
theorem Vals.append:∀ {xs ys:List V} {us ws:List Value},Vals xs us→Vals ys ws→Vals (xs++ys) (us++ws)
  | _,_,_,_,.nil,s=>s
  | _,_,_,_,.cons r t,s=>.cons r (Vals.append t s)
theorem Vals.take:∀ {xs:List V} {us:List Value} (n:Nat),Vals xs us→Vals (xs.take n) (us.take n)
  | _,_,0,_=>.nil
  | _,_,_ + 1,.nil=>.nil
  | _,_,n+1,.cons r t=>.cons r (Vals.take n t)
theorem Vals.drop:∀ {xs:List V} {us:List Value} (n:Nat),Vals xs us→Vals (xs.drop n) (us.drop n)
  | _,_,0,r=>r
  | _,_,_ + 1,.nil=>.nil
  | _,_,n+1,.cons _ t=>Vals.drop n t
def RelO:Option V→Option Value→Prop
  | some v,some u=>RelV v u
  | none,none=>True
  | _,_=>False
def KV {κ:Type}:List (κ×V)→List (κ×Value)→Prop:=Paired fun (p:κ×V) (q:κ×Value)=>p.1=q.1∧RelV p.2 q.2
def kV:Key→V
  | .inl i=>.int i
  | .inr x=>.str x
inductive HO where
  | lst (xs:List V)
  | tup (xs:List V)
  | dK (kvs:List (Key×V)) | dT (kvs:List (List Key×V))
  | set (S:Int→Bool) (n:Nat)
  | ins (C dx:Addr) (fs:List (Str×V))
  | own (x:Addr)
  | xd (fs:List (Str×V))
  | met (f x:Addr)
  | rng (lo hi:Int)
  | frz (o:Obj) (u:HO)
  | tbl (ps:Array Value)
  | ext (φ:Heap→Prop)
abbrev Hp:=Addr→Option HO
def upd (H:Hp) (a:Addr) (o:HO):Hp:=fun b=>if b=a then some o else H b
theorem upd_same {H:Hp} {a:Addr} {o:HO}:upd H a o a=some o:=by unfold upd; rw [if_pos rfl]
theorem upd_ne {H:Hp} {a b:Addr} {o:HO} (h:b≠a):upd H a o b=H b:=by unfold upd; rw [if_neg h]
theorem upd_upd {H:Hp} {a:Addr} {o u:HO}:upd (upd H a o) a u=upd H a u:=by
  funext b; unfold upd; split <;> rfl
theorem ne_of {H:Hp} {a b:Addr} {o u:HO} (h:H a=some o) (h':H b=some u) (d:o≠u):a≠b:=by
  intro e; subst e; rw [h] at h'; exact d (Option.some.inj h')
theorem ne_of_none {H:Hp} {a b:Addr} {o:HO} (h:H a=some o) (h':H b=none):a≠b:=by
  intro e; subst e; rw [h] at h'; cases h'
section
variable (P:Program) (w:World)
def ObjOk (H:Hp) (h:Heap) (a:Addr):HO→Prop
  | .lst xs=>xs.length≤sizeLine∧∃ (its:List Value) (n:Nat),Vals xs its∧h.get? a=some { cls:=.type "list", data:=.seq its.toArray n }
  | .tup xs=>xs.length≤sizeLine∧∃ its:List Value,Vals xs its∧IsTup h a its.toArray
  | .dK kvs=>kvs.length≤sizeLine∧(a == sysModules)=false∧∃ vs,KV kvs vs∧h.DictOf (mixKind P w) a vs
  | .dT kvs=>kvs.length≤sizeLine∧(a == sysModules)=false∧∃ xs:List (List Key×Addr×Value),
      Paired (fun (p:List Key×V) (q:List Key×Addr×Value)=>p.1=q.1∧H q.2.1=some (.tup (p.1.map kV))∧RelV p.2 q.2.2) kvs xs ∧
      ∃ o es ep,h.get? a=some o∧o.ExactDict∧o.data = .dict es ep∧es.toList=xs.map (entryOfKey (tupleKind (mixKind P w)))∧(xs.map (·.1)).Nodup
  | .set S n=>h.SetOf (intKind P w) a S n
  | .ins C dx fs=>H dx=some (.own a)∧fs.length≤1000∧dx≠a∧h.get? a=some (PySem.W.instObj C dx) ∧
      ∃ mA,h.Ns1 dx mA∧(∀ f,RelO (fs.lookup f) (mA f))∧PySem.Within mA (fs.map (·.1))
  | .own _=>∃ o,h.get? a=some o
  | .xd fs=>∃ mA,h.Ns1 a mA∧∀ f,RelO (fs.lookup f) (mA f)
  | .rng lo hi=>∃ t u v,h.get? a=some { cls:=.type "range", data:=.fields #[.int lo t,.int hi u,.int 1 v] }
  | .frz o u=>h.get? a=some o∧ObjOk H h a u
  | .tbl ps=>h.get? a=some { cls:=.none,data:=.fields ps }
  | .met f x=>h.get? a=some (PySem.W.methodObj (.ref f) (.ref x))
  | .ext φ=>φ h∧(∃ o,h.get? a=some o)∧∀ h1 h2:Heap,φ h1→(∀ o,h1.get? a=some o→h2.get? a=some o)→φ h2
def HOk (H:Hp) (h:Heap):Prop:=∀ a o,H a=some o→ObjOk P w H h a o
end
section
variable {P:Program} {w:World} {H H':Hp} {h h':Heap} {a:Addr} {o:HO}
theorem ObjOk.lt (x:ObjOk P w H h a o):a<h.objs.size:=by
  cases o with
  | lst xs=>obtain ⟨_,_,_,_,e⟩:=x; exact Heap.lt_size e
  | tup xs=>obtain ⟨_,_,_,p⟩:=x; exact p.lt
  | dK kvs=>obtain ⟨_,_,_,_,o,_,_,e,_⟩:=x; exact Heap.lt_size e
  | dT kvs=>obtain ⟨_,_,_,_,o,_,_,e,_⟩:=x; exact Heap.lt_size e
  | set S n=>obtain ⟨o,_,_,_,e,_⟩:=x; exact Heap.lt_size e
  | ins C dx fs=>obtain ⟨_,_,_,e,_⟩:=x; exact Heap.lt_size e
  | own y=>obtain ⟨_,e⟩:=x; exact Heap.lt_size e
  | xd fs=>obtain ⟨_,⟨_,_,_,e,_⟩,_⟩:=x; exact Heap.lt_size e
  | rng lo hi=>obtain ⟨_,_,_,e⟩:=x; exact Heap.lt_size e
  | frz ob u=>obtain ⟨e,_⟩:=x; exact Heap.lt_size e
  | tbl ps=>exact Heap.lt_size (show h.get? a=some _ from x)
  | met f y=>exact Heap.lt_size (show h.get? a=some _ from x)
  | ext φ=>obtain ⟨_,⟨_,e⟩,_⟩:=x; exact Heap.lt_size e
theorem Paired.mapP {α β:Type} {F G:α→β→Prop}:∀ {l₁:List α} {l₂:List β},Paired F l₁ l₂→(∀ a b,F a b→G a b)→Paired G l₁ l₂
  | _,_,.nil,_=>.nil
  | _,_,.cons r t,f=>.cons (f _ _ r) (Paired.mapP t f)
theorem ObjOk.stay (x:ObjOk P w H h a o) (k:∀ b u,(b=a∨H b=some (.own a))→h.get? b=some u→h'.get? b=some u)
    (ho:∀ b,H b=some (.own a)→H' b=some (.own a)) (ht:∀ b xs,H b=some (.tup xs)→H' b=some (.tup xs)):ObjOk P w H' h' a o:=by
  induction o with
  | lst xs=>obtain ⟨z,its,n,r,e⟩:=x; exact ⟨z,its,n,r,k _ _ (.inl rfl) e⟩
  | tup xs=>obtain ⟨z,its,r,ob,e,c⟩:=x; exact ⟨z,its,r,ob,k _ _ (.inl rfl) e,c⟩
  | dK kvs=>obtain ⟨z,y,vs,r,ob,es,ep,e,c⟩:=x; exact ⟨z,y,vs,r,ob,es,ep,k _ _ (.inl rfl) e,c⟩
  | dT kvs =>
    obtain ⟨z,y,xs,r,ob,es,ep,e,c⟩:=x
    exact ⟨z,y,xs,Paired.mapP r fun p q z=>⟨z.1,ht _ _ z.2.1,z.2.2⟩,ob,es,ep,k _ _ (.inl rfl) e,c⟩
  | set S n=>obtain ⟨ob,es,ep,t,e,c⟩:=x; exact ⟨ob,es,ep,t,k _ _ (.inl rfl) e,c⟩
  | ins C dx fs =>
    obtain ⟨d,z,ne,e,mA,⟨od,es,ep,e2,c⟩,r⟩:=x
    exact ⟨ho _ d,z,ne,k _ _ (.inl rfl) e,mA,⟨od,es,ep,k _ _ (.inr d) e2,c⟩,r⟩
  | own y=>obtain ⟨ob,e⟩:=x; exact ⟨ob,k _ _ (.inl rfl) e⟩
  | xd fs=>obtain ⟨mA,⟨od,es,ep,e,c⟩,r⟩:=x; exact ⟨mA,⟨od,es,ep,k _ _ (.inl rfl) e,c⟩,r⟩
  | rng lo hi=>obtain ⟨t,u,v,e⟩:=x; exact ⟨t,u,v,k _ _ (.inl rfl) e⟩
  | frz ob u ih=>obtain ⟨e,q⟩:=x; exact ⟨k _ _ (.inl rfl) e,ih q⟩
  | tbl ps =>
    have e:h.get? a=some { cls:=.none,data:=.fields ps }:=x
    show h'.get? a=some { cls:=.none,data:=.fields ps }
    exact k a _ (.inl rfl) e
  | met f y =>
    have e:h.get? a=some (PySem.W.methodObj (.ref f) (.ref y)):=x
    show h'.get? a=some (PySem.W.methodObj (.ref f) (.ref y))
    exact k a _ (.inl rfl) e
  | ext φ=>obtain ⟨p,⟨o,e⟩,st⟩:=x; exact ⟨st _ _ p fun o q=>k _ _ (.inl rfl) q,⟨o,k _ _ (.inl rfl) e⟩,st⟩
theorem HOk.lt (x:HOk P w H h) (e:H a=some o):a<h.objs.size:=(x a o e).lt
theorem HOk.fresh (x:HOk P w H h) (e:h.objs.size≤a):H a=none:=by
  cases q:H a with
  | none=>rfl
  | some u=>exact absurd (Nat.lt_of_lt_of_le (x.lt q) e) (Nat.lt_irrefl _)
theorem HOk.kept (x:HOk P w H h) (k:∀ b u,h.get? b=some u→h'.get? b=some u):HOk P w H h':=fun a o e =>
  (x a o e).stay (fun b u _ q=>k b u q) (fun _ q=>q) fun _ _ q=>q
theorem HOk.laid (x:HOk P w H h) (k:∀ b u,h.get? b=some u→h'.get? b=some u) (hp:h.objs.size≤a) (new:ObjOk P w (upd H a o) h' a o):HOk P w (upd H a o) h':=fun b u e=>by
  have hn:=x.fresh hp
  by_cases hb:b=a
  · subst hb; rw [upd_same] at e; cases e; exact new
  · rw [upd_ne hb] at e
    exact (x b u e).stay (fun c v _ q=>k c v q) (fun c q=>by rw [upd_ne (ne_of_none q hn)]; exact q) fun c xs q=>by rw [upd_ne (ne_of_none q hn)]; exact q
end
def Rd (H:Hp) (a:Addr) (u:HO):Prop:=H a=some u∨∃ o,H a=some (.frz o u)
theorem Rd.ok {P:Program} {w:World} {H:Hp} {h:Heap} {a:Addr} {u:HO} (r:Rd H a u) (x:HOk P w H h):ObjOk P w H h a u:=by
  rcases r with r | ⟨o,r⟩
  · exact x a u r
  · obtain ⟨_,q⟩:=x a _ r
    exact q
def Mut:Option HO→Prop
  | some (.lst _)=>True
  | some (.dK _)=>True
  | some (.dT _)=>True
  | some (.set _ _)=>True
  | some (.ins _ _ _)=>True
  | some (.ext _)=>True
  | _=>False
section
variable {P:Program} {w:World} {H:Hp} {h h':Heap} {x e:Addr} {o':HO}
theorem HOk.write (ok:HOk P w H h) (mu:Mut (H x)) (he:e=x∨H e=some (.own x)) (k:∀ b u,b≠e→h.get? b=some u→h'.get? b=some u) (heo:∃ u,h'.get? e=some u)
    (new:ObjOk P w (upd H x o') h' x o'):HOk P w (upd H x o') h':=fun b u q=>by
  have nown:∀ c y,H c=some (.own y)→c≠x:=fun c y r z=>by subst z; rw [r] at mu; exact mu
  have ntup:∀ c xs,H c=some (.tup xs)→c≠x:=fun c xs r z=>by subst z; rw [r] at mu; exact mu
  by_cases hb:b=x
  · subst hb; rw [upd_same] at q; cases q; exact new
  · rw [upd_ne hb] at q
    by_cases hbe:b=e
    · have q':H b=some (.own x):=by
        rcases he with z | z
        · exact absurd (hbe.trans z) hb
        · rw [hbe]; exact z
      rw [q] at q'; cases q'
      obtain ⟨v,hv⟩:=heo
      exact ⟨v,by rw [hbe]; exact hv⟩
    · refine (ok b u q).stay (fun c v hc r=>k c v ?_ r) (fun c r=>by rw [upd_ne (nown c b r)]; exact r) fun c xs r=>by rw [upd_ne (ntup c xs r)]; exact r
      rcases hc with rfl | hc
      · exact hbe
      · rintro rfl
        rcases he with z | z
        · exact nown c b hc z
        · rw [hc] at z; cases z; exact hb rfl
end
structure Un (fs ex:List Addr) (H H':Hp) (h h':Heap):Prop where
  keep:∀ b o,h.get? b=some o→H b=none→b ∉ fs→b ∉ ex→h'.get? b=some o
  slot:∀ b o,h.get? b=some o→H b=none→b∈fs→b ∉ ex→∃ sl,h'.get? b=some { o with slots:=sl }
  free:∀ b o,h.get? b=some o→H b=none→b ∉ ex→H' b=none
  there:∀ b o,h.get? b=some o→b ∉ ex→∃ o',h'.get? b=some o'
  tups:∀ b xs,H b=some (.tup xs)→H' b=some (.tup xs)
  frzs:∀ b o u,H b=some (.frz o u)→H' b=some (.frz o u)
  tbls:∀ b ps,H b=some (.tbl ps)→∃ more,H' b=some (.tbl (ps++more))
section
variable {fs fs' ex ex':List Addr} {H H1 H2:Hp} {h h1 h2 h':Heap} {a x e:Addr} {o:HO}
theorem Un.any (u:Un fs ex H H1 h h1) {b:Addr} {ob:Obj} (q:h.get? b=some ob) (n:H b=none) (hx:b ∉ ex):∃ sl,h1.get? b=some { ob with slots:=sl }:=by
  by_cases hb:b∈fs
  · exact u.slot b ob q n hb hx
  · exact ⟨ob.slots,u.keep b ob q n hb hx⟩
theorem Un.kept (k:∀ b u,h.get? b=some u→h'.get? b=some u):Un fs ex H H h h' :=
  ⟨fun b ob q _ _ _=>k b ob q,fun b ob q _ _ _=>⟨ob.slots,k b ob q⟩,fun _ _ _ n _=>n,fun b ob q _=>⟨ob,k b ob q⟩,fun _ _ q=>q,fun _ _ _ q=>q,fun _ ps q=>⟨#[],by rw [q]; simp⟩⟩
theorem Un.refl:Un fs ex H H h h:=Un.kept fun _ _ q=>q
theorem Un.laid (k:∀ b u,h.get? b=some u→h'.get? b=some u) (hp:h.objs.size≤a) (hn:H a=none):Un fs ex H (upd H a o) h h' where
  keep:=fun b u q _ _ _=>k b u q
  slot:=fun b u q _ _ _=>⟨u.slots,k b u q⟩
  free:=fun b u q n _=>by rw [upd_ne (Nat.ne_of_lt (Nat.lt_of_lt_of_le (Heap.lt_size q) hp))]; exact n
  there:=fun b u q _=>⟨u,k b u q⟩
  tups:=fun b xs q=>by rw [upd_ne (ne_of_none q hn)]; exact q
  frzs:=fun b u xs q=>by rw [upd_ne (ne_of_none q hn)]; exact q
  tbls:=fun b ps q=>⟨#[],by rw [upd_ne (ne_of_none q hn),q]; simp⟩
theorem Un.write (mu:Mut (H x)) (he:e=x∨H e=some (.own x)) (k:∀ b u,b≠e→h.get? b=some u→h'.get? b=some u) (heo:∃ u,h'.get? e=some u):Un fs ex H (upd H x o) h h':=by
  have hx:∀ b,H b=none→b≠x:=fun b n z=>by subst z; rw [n] at mu; exact mu
  have hb:∀ b,H b=none→b≠e:=fun b n z=>by
    subst z
    rcases he with r | r
    · exact hx b n r
    · rw [n] at r; cases r
  have hm:∀ b u,H b=some u→¬ Mut (some u)→b≠x:=fun b u q nm z=>by subst z; rw [q] at mu; exact nm mu
  refine ⟨fun b u q n _ _=>k b u (hb b n) q,fun b u q n _ _=>⟨u.slots,k b u (hb b n) q⟩,fun b u q n _=>by rw [upd_ne (hx b n)]; exact n,fun b u q _=>?_,
    fun b xs q=>by rw [upd_ne (hm b _ q fun z=>z)]; exact q,fun b u xs q=>by rw [upd_ne (hm b _ q fun z=>z)]; exact q,fun b ps q=>⟨#[],by rw [upd_ne (hm b _ q fun z=>z),q]; simp⟩⟩
  by_cases hbe:b=e
  · subst hbe; exact heo
  · exact ⟨u,k b u hbe q⟩
end
def trk (h:Heap) (H:Hp):List Addr:=(List.range h.objs.size).filter fun a=>(H a).isSome
def hidT (h:Heap) (H:Hp):Heap:=PySem.W.hideAll h (trk h H)
theorem hidT_size (h:Heap) (H:Hp):(hidT h H).objs.size=h.objs.size:=PySem.W.hideAll_size _ _
theorem hidT_get {h:Heap} {H:Hp} {b:Addr} {o:Obj} (e:h.get? b=some o) (n:H b=none):(hidT h H).get? b=some o :=
  PySem.W.hideAll_get _ e fun hm=>by
    have q:(H b).isSome=true:=(List.mem_filter.mp hm).2
    rw [n] at q; simp at q
theorem of_hidT {h:Heap} {H:Hp} {b:Addr} {o:Obj} (e:(hidT h H).get? b=some o):h.get? b=some o∧H b=none:=by
  have e':h.get? b=some o:=PySem.W.of_hideAll (trk h H) e
  refine ⟨e',?_⟩
  cases q:H b with
  | none=>rfl
  | some x =>
    have hm:b∈trk h H:=List.mem_filter.mpr ⟨List.mem_range.mpr (Heap.lt_size e'),by simp [q]⟩
    have z:(hidT h H).get? b=none:=PySem.W.hideAll_none (trk h H) hm
    rw [z] at e; cases e
def allNews (g h:Heap) (L:Addr):List (Addr×Obj):=(List.range h.objs.size).filterMap fun a=>if a=L∨(g.get? a).isSome=true then none else (h.get? a).map fun o=>(a,o)
def rest (g h:Heap) (L d:Addr):List (Addr×Obj):=(allNews g h L).filter fun p=>decide (p.1≠d)
end L2
namespace L2
open PySem PySem.Spec PyProof.Rows
structure Mod (K:PySem.W.Frag) (mg:Str→Option Value) (base:Heap):Prop where
  kin:K.In base
  glob:base.Ns mainGlobals mg
  blt:∃ mb,base.Ns builtinsNs mb∧∀ x:Str,x ≠ "__name__" → mb x=bootBuiltins x
  nolimit:base.NoLimit
structure Cx where
  prog:Program
  w:World
  K:PySem.W.Frag
  mg:Str→Option Value
  base:Heap
  A:Around
  N:List Str
  s₀:Shared
  H₀:Hp
  env:Env
  outer:List Env
  stack:List Env
  ex:List Addr
  fn:Str→Bool
  calm:Bool
  pn:List (Addr×Obj)
  xe:Value→Shared→Prop
def frs (l:List Env):List Addr:=l.filterMap (·.frame)
abbrev Cx.fs (X:Cx):List Addr:=frs X.outer
def Vis (sc:Scope) (x:Str):Prop:=sc.names.lookup x=some .local∨sc.names.lookup x=some .cell∨sc.names.lookup x=some .free
def Loc (sc:Scope) (x:Str):Prop:=sc.names.lookup x=some .local∨sc.names.lookup x=some .cell
def Look (env:Env) (h:Heap) (m:Str→Option Value) (x:Str) (u:Value):Prop :=
  (env.kindOf x=some .local∧m x=some u)∨((env.kindOf x=some .cell∨env.kindOf x=some .free)∧∃ c,env.cells.lookup x=some c∧h.IsCell c (some u))
structure Cx.Ok (X:Cx):Prop where
  mod:Mod X.K X.mg X.base
  kind:X.env.scope.kind = .function
  glob:X.env.globals=mainGlobals
  blt:X.env.builtins=builtinsNs
  above:X.s₀.heap.objs.size≤X.env.locals
  inj:∀ x y c,X.env.cells.lookup x=some c→X.env.cells.lookup y=some c→x=y
  has:∀ x,(X.env.kindOf x=some .cell∨X.env.kindOf x=some .free)→∃ c,X.env.cells.lookup x=some c
  cab:∀ x c,X.fn x=true→X.env.cells.lookup x=some c→X.s₀.heap.objs.size≤c
  hd:X.calm=true→X.A.handled=none
  frames:X.A.frames=some X.stack
  stk:X.stack=X.outer∨(X.stack=X.env :: X.outer∧X.env.frame=some X.env.locals)
  exf:∀ b∈X.ex,b≠X.env.locals∧∀ x c,X.env.cells.lookup x=some c→c≠b
  bs:∀ b o,X.base.get? b=some o→X.s₀.heap.get? b=some o∧X.H₀ b=none
  bsz:X.base.objs.size≤X.s₀.heap.objs.size
  noex:∀ b o,X.base.get? b=some o→b ∉ X.ex
  exfs:∀ b∈X.ex,b ∉ X.fs
  funs:X.s₀.heap.FunFrames X.base X.outer
  frf:∀ b∈X.fs,X.H₀ b=none
structure Inv (X:Cx) (pins:List (Addr×Obj)) (σ:List (Option V)) (H:Hp) (s:Shared):Prop where
  ok:X.Ok
  os:s.os=X.s₀.os
  bare:AllBare s.gens
  base:Un X.fs X.ex X.H₀ H X.s₀.heap s.heap
  loc:∃ m,s.heap.Ns X.env.locals m∧∀ (i:Nat) (x:Str) (v:V),X.N[i]? = some x→σ[i]? = some (some v)→Vis X.env.scope x→∃ u,RelV v u∧Look X.env s.heap m x u
  cell:∀ x c,X.env.cells.lookup x=some c→∃ v,s.heap.IsCell c v
  free:H X.env.locals=none
  freeC:∀ x c,X.env.cells.lookup x=some c→H c=none
  pin:∀ p∈X.pn++pins,s.heap.get? p.1=some p.2∧H p.1=none∧p.1≠X.env.locals∧p.1 ∉ X.fs∧∀ v,p.2.data≠.cell v
  hok:HOk X.prog X.w H s.heap
  len:σ.length=X.N.length
section
variable {X:Cx} {pins:List (Addr×Obj)} {σ:List (Option V)} {H H':Hp} {s:Shared} {h':Heap}
theorem Cx.Ok.nofr (ok:X.Ok) {b:Addr} {o:Obj} (e:X.base.get? b=some o):b ∉ X.fs:=fun hb=>by
  have:=(ok.funs.mem hb).1
  rw [e] at this; cases this
theorem Inv.bs (I:Inv X pins σ H s):∀ b o,X.base.get? b=some o→s.heap.get? b=some o∧H b=none:=fun b o e =>
  ⟨I.base.keep b o (I.ok.bs b o e).1 (I.ok.bs b o e).2 (I.ok.nofr e) (I.ok.noex b o e),I.base.free b o (I.ok.bs b o e).1 (I.ok.bs b o e).2 (I.ok.noex b o e)⟩
theorem Inv.bk (I:Inv X pins σ H s):∀ b o,X.base.get? b=some o→s.heap.get? b=some o:=fun b o e=>(I.bs b o e).1
theorem Inv.mod (I:Inv X pins σ H s):Mod X.K X.mg X.base:=I.ok.mod
theorem Inv.kIn (I:Inv X pins σ H s):X.K.In s.heap:=I.ok.mod.kin.keeps I.bk
theorem Inv.lt (I:Inv X pins σ H s):X.env.locals<s.heap.objs.size:=let ⟨_,hn,_⟩:=I.loc; hn.lt
theorem Inv.sz (I:Inv X pins σ H s):X.s₀.heap.objs.size≤s.heap.objs.size:=Nat.le_trans I.ok.above (Nat.le_of_lt I.lt)
theorem Inv.nofs (I:Inv X pins σ H s) {a:Addr} (h:s.heap.objs.size≤a):a ∉ X.fs:=fun hb=>by
  obtain ⟨_,o,ho,_⟩:=I.ok.funs.mem hb
  exact absurd (Nat.lt_of_lt_of_le (Heap.lt_size ho) (Nat.le_trans I.sz h)) (Nat.lt_irrefl _)
theorem Inv.cne (I:Inv X pins σ H s):∀ x c,X.env.cells.lookup x=some c→c≠X.env.locals:=fun x c e z=>by
  obtain ⟨v,o,ho,hd⟩:=I.cell x c e
  obtain ⟨m,⟨o',es,ep,ho',hd',_⟩,_⟩:=I.loc
  rw [z,ho'] at ho; cases ho; rw [hd'] at hd; cases hd
theorem Inv.funs (I:Inv X pins σ H s):s.heap.FunFrames X.base X.outer:=by
  have all:∀ (l:List Env),(∀ b∈frs l,b∈X.fs)→X.s₀.heap.FunFrames X.base l→s.heap.FunFrames X.base l:=by
    intro l
    induction l with
    | nil=>intro _ _; trivial
    | cons env r ih =>
      intro hs hl
      obtain ⟨hk,⟨L,o,hf,hn,ho,hd⟩,hr⟩:=hl
      have hL:L∈X.fs:=hs L (by unfold frs; rw [List.filterMap_cons,hf]; exact List.mem_cons_self)
      obtain ⟨sl,e⟩:=I.base.slot L o ho (I.ok.frf L hL) hL fun z=>I.ok.exfs L z hL
      exact ⟨hk,⟨L,_,hf,hn,e,hd⟩,ih (fun b hb=>hs b (by unfold frs; rw [List.filterMap_cons,hf]; exact List.mem_cons_of_mem _ hb)) hr⟩
  exact all X.outer (fun _ hb=>hb) I.ok.funs
theorem Inv.stack (I:Inv X pins σ H s):s.heap.FunFrames X.base X.stack:=by
  rcases I.ok.stk with e | ⟨e,hf⟩
  · rw [e]; exact I.funs
  · rw [e]
    obtain ⟨m,hn,_⟩:=I.loc
    refine .cons (by rw [I.ok.kind]; decide) hf hn ?_ I.funs
    exact Heap.get?_none_of_le (Nat.le_trans I.ok.bsz I.ok.above)
theorem Inv.stkSub (I:Inv X pins σ H s):∀ b∈frs X.stack,b∈X.env.locals :: X.fs:=fun b hb=>by
  rcases I.ok.stk with e | ⟨e,hf⟩
  · rw [e] at hb; exact List.mem_cons_of_mem _ hb
  · rw [e] at hb
    unfold frs at hb
    rw [List.filterMap_cons,hf] at hb
    exact hb
theorem Inv.stkFree (I:Inv X pins σ H s):∀ b∈frs X.stack,H b=none:=fun b hb=>by
  rcases List.mem_cons.mp (I.stkSub b hb) with e | hb
  · rw [e]; exact I.free
  · obtain ⟨_,o,ho,_⟩:=I.ok.funs.mem hb
    exact I.base.free b o ho (I.ok.frf b hb) fun z=>I.ok.exfs b z hb
theorem Inv.step {g':Array GenState} {t':Nat} {d':Drawn} {ch:List Addr} (I:Inv X pins σ H s)
    (hch:∀ b∈ch,(b∈X.ex∨X.s₀.heap.objs.size≤b)∧b≠X.env.locals∧(∀ x c,X.env.cells.lookup x=some c→c≠b)∧∀ p∈X.pn++pins,p.1≠b)
    (keep:∀ b o,b≠X.env.locals→b ∉ X.fs→b ∉ ch→s.heap.get? b=some o→H b=none→h'.get? b=some o)
    (slot:∀ b o,b≠X.env.locals→b∈X.fs→b ∉ ch→s.heap.get? b=some o→H b=none→∃ sl,h'.get? b=some { o with slots:=sl }) (free:∀ b o,b ∉ ch→s.heap.get? b=some o→H b=none→H' b=none)
    (there:∀ b o,b ∉ ch→s.heap.get? b=some o→∃ o',h'.get? b=some o')
    (tups:∀ b xs,H b=some (.tup xs)→H' b=some (.tup xs)) (frzs:∀ b o u,H b=some (.frz o u)→H' b=some (.frz o u)) (tbls:∀ b ps,H b=some (.tbl ps)→∃ more,H' b=some (.tbl (ps++more)))
    (ns:∀ m,s.heap.Ns X.env.locals m→h'.Ns X.env.locals m) (hok:HOk X.prog X.w H' h') (hg:AllBare g') :
    Inv X pins σ H' { s with heap:=h',gens:=g',drawn:=d',toks:=t' }:=by
  have neL:∀ b o,X.s₀.heap.get? b=some o→b≠X.env.locals:=fun b o e=>Nat.ne_of_lt (Nat.lt_of_lt_of_le (Heap.lt_size e) I.ok.above)
  have neC:∀ b o,X.s₀.heap.get? b=some o→b ∉ X.ex→b ∉ ch:=fun b o e hx hb=>by
    rcases (hch b hb).1 with z | z
    · exact hx z
    · exact absurd (Nat.lt_of_lt_of_le (Heap.lt_size e) z) (Nat.lt_irrefl _)
  have cellK:∀ x c,X.env.cells.lookup x=some c→∀ v,s.heap.IsCell c v→h'.IsCell c v:=fun x c e v ⟨o,ho,hd⟩=>by
    have nch:c ∉ ch:=fun z=>(hch c z).2.2.1 x c e rfl
    by_cases hc:c∈X.fs
    · obtain ⟨sl,q⟩:=slot c o (I.cne x c e) hc nch ho (I.freeC x c e)
      exact ⟨_,q,hd⟩
    · exact ⟨o,keep c o (I.cne x c e) hc nch ho (I.freeC x c e),hd⟩
  refine ⟨I.ok,I.os,hg,⟨fun b o e n hb hx=>?_,fun b o e n hb hx=>?_,fun b o e n hx=>?_,fun b o e hx=>?_,fun b xs e=>tups b xs (I.base.tups b xs e),fun b o xs e=>frzs b o xs (I.base.frzs b o xs e),fun b ps e=>?_⟩,?_,fun x c e=>?_,?_,fun x c e=>?_,fun p hp=>?_,hok,I.len⟩
  · exact keep b o (neL b o e) hb (neC b o e hx) (I.base.keep b o e n hb hx) (I.base.free b o e n hx)
  · obtain ⟨sl,e1⟩:=I.base.slot b o e n hb hx
    obtain ⟨sl',e2⟩:=slot b _ (neL b o e) hb (neC b o e hx) e1 (I.base.free b o e n hx)
    exact ⟨sl',e2⟩
  · obtain ⟨o',e1⟩:=I.base.there b o e hx
    exact free b o' (neC b o e hx) e1 (I.base.free b o e n hx)
  · obtain ⟨o',e1⟩:=I.base.there b o e hx
    exact there b o' (neC b o e hx) e1
  · obtain ⟨m1,e1⟩:=I.base.tbls b ps e
    obtain ⟨m2,e2⟩:=tbls b _ e1
    exact ⟨m1++m2,by rw [e2,Array.append_assoc]⟩
  · obtain ⟨m,hn,hl⟩:=I.loc
    refine ⟨m,ns m hn,fun i x v e1 e2 e3=>?_⟩
    obtain ⟨u,r,l⟩:=hl i x v e1 e2 e3
    refine ⟨u,r,?_⟩
    rcases l with l | ⟨k,c,e,z⟩
    · exact .inl l
    · exact .inr ⟨k,c,e,cellK x c e _ z⟩
  · obtain ⟨v,z⟩:=I.cell x c e
    exact ⟨v,cellK x c e v z⟩
  · obtain ⟨m,⟨o,_,_,ho,_⟩,_⟩:=I.loc
    exact free _ o (fun z=>(hch _ z).2.1 rfl) ho I.free
  · obtain ⟨v,o,ho,hd⟩:=I.cell x c e
    exact free c o (fun z=>(hch c z).2.2.1 x c e rfl) ho (I.freeC x c e)
  · obtain ⟨e,n,ne,nf,d⟩:=I.pin p hp
    have nch:p.1 ∉ ch:=fun z=>(hch p.1 z).2.2.2 p hp rfl
    exact ⟨keep p.1 p.2 ne nf nch e n,free p.1 p.2 nch e n,ne,nf,d⟩
theorem Inv.un {t':Nat} (I:Inv X pins σ H s) (u:Un X.fs [] H H' s.heap h') (hok:HOk X.prog X.w H' h'):Inv X pins σ H' { s with heap:=h',toks:=t' }:=by
  obtain ⟨m,⟨o,es,ep,ho,r⟩,_⟩:=id I.loc
  obtain ⟨sl,hL⟩:=u.any ho I.free (by simp)
  exact I.step (g':=s.gens) (d':=s.drawn) (ch:=[]) (fun _ z=>nomatch z) (fun b o _ hb _ e n=>u.keep b o e n hb (by simp)) (fun b o _ hb _ e n=>u.slot b o e n hb (by simp)) (fun b o _ e n=>u.free b o e n (by simp)) (fun b o _ e=>u.there b o e (by simp)) u.tups u.frzs u.tbls (fun m' hm=>by
    obtain ⟨o',es',ep',ho',r'⟩:=hm
    rw [ho] at ho'; cases ho'
    exact ⟨_,es',ep',hL,r'⟩) hok I.bare
theorem Inv.call {g':Array GenState} {t':Nat} {d':Drawn} {ch:List Addr} (I:Inv X pins σ H s) (u:Un (frs X.stack) ch H H' s.heap h') (hok:HOk X.prog X.w H' h') (hg:AllBare g')
    (hch:∀ b∈ch,(b∈X.ex∨X.s₀.heap.objs.size≤b)∧b≠X.env.locals∧(∀ x c,X.env.cells.lookup x=some c→c≠b)∧∀ p∈X.pn++pins,p.1≠b) :
    Inv X pins σ H' { s with heap:=h',gens:=g',drawn:=d',toks:=t' }:=by
  obtain ⟨m,⟨o,es,ep,ho,r⟩,_⟩:=id I.loc
  obtain ⟨sl,hL⟩:=u.any ho I.free fun z=>(hch _ z).2.1 rfl
  exact I.step (ch:=ch) hch (fun b o hL hb hc e n=>u.keep b o e n (fun z=>(List.mem_cons.mp (I.stkSub b z)).elim hL hb) hc) (fun b o _ _ hc e n=>u.any e n hc) (fun b o hc e n=>u.free b o e n hc) (fun b o hc e=>u.there b o e hc) u.tups u.frzs u.tbls (fun m' hm=>by
    obtain ⟨o',es',ep',ho',r'⟩:=hm
    rw [ho] at ho'; cases ho'
    exact ⟨_,es',ep',hL,r'⟩) hok hg
theorem Inv.turned {t':Nat} {it:Addr} (I:Inv X pins σ H s) (k:∀ b o,b≠it→s.heap.get? b=some o→h'.get? b=some o) (hn:H it=none) (hL:it≠X.env.locals)
    (h1:it∈X.ex∨X.s₀.heap.objs.size≤it) (h2:∀ x c,X.env.cells.lookup x=some c→c≠it) (h3:∀ p∈X.pn++pins,p.1≠it):Inv X pins σ H { s with heap:=h',toks:=t' }:=by
  have nit:∀ b u,H b=some u→b≠it:=fun b u e z=>by rw [z,hn] at e; cases e
  refine I.step (g':=s.gens) (d':=s.drawn) (ch:=[it]) (fun b hb=>?_) (fun b o _ _ hc e _=>k b o (fun z=>hc (by simp [z])) e) (fun b o _ _ hc e _=>⟨o.slots,k b o (fun z=>hc (by simp [z])) e⟩) (fun _ _ _ _ n=>n)
    (fun b o hc e=>⟨o,k b o (fun z=>hc (by simp [z])) e⟩) (fun _ _ e=>e) (fun _ _ _ e=>e) (fun b ps e=>⟨#[],by rw [e]; simp⟩) (fun m hm=>?_) (fun b u e=>?_) I.bare
  · have e:b=it:=by simpa using hb
    subst e
    exact ⟨h1,hL,h2,h3⟩
  · obtain ⟨o,es,ep,ho,r⟩:=hm
    exact ⟨o,es,ep,k _ o (Ne.symm hL) ho,r⟩
  · refine (I.hok b u e).stay (fun c v hc q=>k c v ?_ q) (fun _ q=>q) fun _ _ q=>q
    rcases hc with z | z
    · rw [z]; exact nit b u e
    · exact nit c _ z
theorem Inv.tok (I:Inv X pins σ H s) (t:Nat):Inv X pins σ H { s with toks:=t }:=I.un (h':=s.heap) (t':=t) Un.refl I.hok
theorem Inv.kept {t':Nat} (I:Inv X pins σ H s) (k:∀ b u,s.heap.get? b=some u→h'.get? b=some u):Inv X pins σ H { s with heap:=h',toks:=t' }:=I.un (Un.kept k) (I.hok.kept k)
theorem Inv.laid {a:Addr} {o:HO} {t':Nat} (I:Inv X pins σ H s) (k:∀ b u,s.heap.get? b=some u→h'.get? b=some u) (hp:s.heap.objs.size≤a) (new:ObjOk X.prog X.w (upd H a o) h' a o) :
    Inv X pins σ (upd H a o) { s with heap:=h',toks:=t' }:=I.un (Un.laid k hp (I.hok.fresh hp)) (I.hok.laid k hp new)
theorem Inv.write {x e:Addr} {o:HO} {t':Nat} (I:Inv X pins σ H s) (mu:Mut (H x)) (he:e=x∨H e=some (.own x)) (k:∀ b u,b≠e→s.heap.get? b=some u→h'.get? b=some u) (heo:∃ u,h'.get? e=some u)
    (new:ObjOk X.prog X.w (upd H x o) h' x o):Inv X pins σ (upd H x o) { s with heap:=h',toks:=t' }:=I.un (Un.write mu he k heo) (I.hok.write mu he k heo new)
theorem Inv.pins_of {pins':List (Addr×Obj)} (I:Inv X pins σ H s) (h:∀ p∈pins',s.heap.get? p.1=some p.2∧H p.1=none∧p.1≠X.env.locals∧p.1 ∉ X.fs∧∀ v,p.2.data≠.cell v):Inv X pins' σ H s :=
  ⟨I.ok,I.os,I.bare,I.base,I.loc,I.cell,I.free,I.freeC,fun p hp=>(List.mem_append.mp hp).elim (fun z=>I.pin p (List.mem_append_left _ z)) (h p),I.hok,I.len⟩
theorem nodup_ix {N:List Str} (hN:N.Nodup) {i j:Nat} {x:Str} (a:N[i]? = some x) (b:N[j]? = some x):i=j:=by
  obtain ⟨h1,e1⟩:=List.getElem?_eq_some_iff.mp a
  obtain ⟨h2,e2⟩:=List.getElem?_eq_some_iff.mp b
  exact (List.getElem_inj hN).mp (e1.trans e2.symm)
theorem store_ok2 {M:Model} {A:Around} {E:Value→Shared→Prop} {i:Nat} {x:Str} {v:V} {u:Value} {Q:Unit→Shared→Prop} (I:Inv X pins σ H s) (hN:X.N.Nodup) (hi:X.N[i]? = some x) (hx:Loc X.env.scope x) (r:RelV v u)
    (h:∀ s',Inv X pins (σ.set i (some v)) H s'→(∃ a,Heap.SameBut a s.heap s'.heap∧(a=X.env.locals∨X.env.cells.lookup x=some a))→Q () s') (hf:X.fn x=true∨X.env.scope.names.lookup x=some .local:=by first | exact .inl rfl | exact .inr rfl | assumption):wpAny M A (storeName X.env x u) Q E s:=by
  obtain ⟨m,hn,hl⟩:=id I.loc
  have hcls:(X.env.scope.kind == .class || (X.env.scope.kind == .module && X.env.locals != X.env.globals))=false:=by rw [I.ok.kind]; rfl
  have hiσ:i < σ.length:=by rw [I.len]; exact (List.getElem?_eq_some_iff.mp hi).1
  have cne:=I.cne
  have tracked:∀ {a:Addr} {h':Heap},(∃ o,s.heap.get? a=some o∧H a=none)→Heap.SameBut a s.heap h'→HOk X.prog X.w H h':=fun {a h'} ha hs b ob e=>by
    obtain ⟨_,_,hfree⟩:=ha
    refine (I.hok b ob e).stay (fun c w' hc q=>(hs.2 c ?_).trans q) (fun _ q=>q) fun _ _ q=>q
    rintro rfl
    rcases hc with rfl | hc
    · rw [hfree] at e; cases e
    · rw [hfree] at hc; cases hc
  rcases hx with hk | hk
  · refine wpAny_storeName_local hk hn (fun h' hn' hs=>?_) hcls
    obtain ⟨oL,_,_,hoL,_⟩:=id hn
    refine h _ ⟨I.ok,I.os,I.bare,⟨fun b o e n hb hx=>?_,fun b o e n hb hx=>?_,I.base.free,fun b o e hx=>?_,I.base.tups,I.base.frzs,I.base.tbls⟩,⟨_,hn',fun j y v' e1 e2 e3=>?_⟩,fun y c e=>?_,I.free,I.freeC,fun p hp=>?_,tracked ⟨oL,hoL,I.free⟩ hs,by simpa using I.len⟩ ⟨_,hs,.inl rfl⟩
    · exact (hs.2 b (Nat.ne_of_lt (Nat.lt_of_lt_of_le (Heap.lt_size e) I.ok.above))).trans (I.base.keep b o e n hb hx)
    · obtain ⟨sl,e1⟩:=I.base.slot b o e n hb hx
      exact ⟨sl,(hs.2 b (Nat.ne_of_lt (Nat.lt_of_lt_of_le (Heap.lt_size e) I.ok.above))).trans e1⟩
    · obtain ⟨o',e1⟩:=I.base.there b o e hx
      exact ⟨o',(hs.2 b (Nat.ne_of_lt (Nat.lt_of_lt_of_le (Heap.lt_size e) I.ok.above))).trans e1⟩
    · by_cases hj:j=i
      · subst hj
        rw [hi] at e1; cases e1
        rw [List.getElem?_set_self hiσ] at e2
        cases e2
        exact ⟨u,r,.inl ⟨hk,by simp⟩⟩
      · rw [List.getElem?_set_ne (Ne.symm hj)] at e2
        obtain ⟨u',r',q⟩:=hl j y v' e1 e2 e3
        refine ⟨u',r',?_⟩
        rcases q with ⟨k,e⟩ | ⟨k,c,e,z⟩
        · refine .inl ⟨k,?_⟩
          have:y≠x:=fun e=>hj (nodup_ix hN e1 (e ▸ hi))
          simp [this,e]
        · exact .inr ⟨k,c,e,z.sameBut hs (cne y c e)⟩
    · obtain ⟨w',z⟩:=I.cell y c e
      exact ⟨w',z.sameBut hs (cne y c e)⟩
    · obtain ⟨e,n,ne,nf,d⟩:=I.pin p hp
      exact ⟨(hs.2 p.1 ne).trans e,n,ne,nf,d⟩
  · have hfn:X.fn x=true:=by
      rcases hf with z | z
      · exact z
      · rw [z] at hk; cases hk
    obtain ⟨c,hc⟩:=I.ok.has x (.inl hk)
    obtain ⟨w',z⟩:=I.cell x c hc
    refine wpAny_storeName_cell I.ok.kind hk hc z (fun h' hc' hs=>?_)
    obtain ⟨oc,hoc,hocd⟩:=id z
    refine h { s with heap:=h' } ⟨I.ok,I.os,I.bare,⟨fun b o e n hb hx=>?_,fun b o e n hb hx=>?_,I.base.free,fun b o e hx=>?_,I.base.tups,I.base.frzs,I.base.tbls⟩,⟨m,hn.sameBut hs (Ne.symm (cne x c hc)),fun j y v' e1 e2 e3=>?_⟩,fun y c' e=>?_,I.free,I.freeC,fun p hp=>?_,tracked ⟨oc,hoc,I.freeC x c hc⟩ hs,by simpa using I.len⟩ ⟨c,hs,.inr hc⟩
    · exact (hs.2 b (Nat.ne_of_lt (Nat.lt_of_lt_of_le (Heap.lt_size e) (I.ok.cab x c hfn hc)))).trans (I.base.keep b o e n hb hx)
    · obtain ⟨sl,e1⟩:=I.base.slot b o e n hb hx
      exact ⟨sl,(hs.2 b (Nat.ne_of_lt (Nat.lt_of_lt_of_le (Heap.lt_size e) (I.ok.cab x c hfn hc)))).trans e1⟩
    · obtain ⟨o',e1⟩:=I.base.there b o e hx
      exact ⟨o',(hs.2 b (Nat.ne_of_lt (Nat.lt_of_lt_of_le (Heap.lt_size e) (I.ok.cab x c hfn hc)))).trans e1⟩
    · by_cases hj:j=i
      · subst hj
        rw [hi] at e1; cases e1
        rw [List.getElem?_set_self hiσ] at e2
        cases e2
        exact ⟨u,r,.inr ⟨.inl hk,c,hc,hc'⟩⟩
      · rw [List.getElem?_set_ne (Ne.symm hj)] at e2
        obtain ⟨u',r',q⟩:=hl j y v' e1 e2 e3
        refine ⟨u',r',?_⟩
        rcases q with q | ⟨k,c',e,z'⟩
        · exact .inl q
        · refine .inr ⟨k,c',e,z'.sameBut hs ?_⟩
          rintro rfl
          exact hj (nodup_ix hN e1 (I.ok.inj _ _ _ e hc ▸ hi))
    · by_cases hcc:c'=c
      · subst hcc; exact ⟨_,hc'⟩
      · obtain ⟨w2,z2⟩:=I.cell y c' e
        exact ⟨w2,z2.sameBut hs hcc⟩
    · obtain ⟨e,n,ne,nf,d⟩:=I.pin p hp
      refine ⟨(hs.2 p.1 ?_).trans e,n,ne,nf,d⟩
      intro q
      rw [q,hoc] at e
      have q':oc=p.2:=Option.some.inj e
      exact d w' (by rw [← q']; exact hocd)
theorem store_ok {M:Model} {A:Around} {E:Value→Shared→Prop} {i:Nat} {x:Str} {v:V} {u:Value} {Q:Unit→Shared→Prop} (I:Inv X pins σ H s) (hN:X.N.Nodup) (hi:X.N[i]? = some x) (hx:Loc X.env.scope x) (r:RelV v u)
    (h:∀ s',Inv X pins (σ.set i (some v)) H s'→Q () s') (hf:X.fn x=true∨X.env.scope.names.lookup x=some .local:=by first | exact .inl rfl | exact .inr rfl | assumption):wpAny M A (storeName X.env x u) Q E s :=
  store_ok2 I hN hi hx r (fun s' I' _=>h s' I') hf
theorem Inv.call' {s':Shared} {ch:List Addr} (I:Inv X pins σ H s) (ho:s'.os=s.os) (u:Un (frs X.stack) ch H H' s.heap s'.heap) (hok:HOk X.prog X.w H' s'.heap) (hg:AllBare s'.gens)
    (hch:∀ b∈ch,(b∈X.ex∨X.s₀.heap.objs.size≤b)∧b≠X.env.locals∧(∀ x c,X.env.cells.lookup x=some c→c≠b)∧∀ p∈X.pn++pins,p.1≠b):Inv X pins σ H' s':=by
  obtain ⟨h',g',d',t',o'⟩:=s'
  have e:o'=s.os:=ho
  subst e
  exact I.call (g':=g') (t':=t') (d':=d') u hok hg hch
end
abbrev XK:=Value→Option Addr→Hp→Prop
abbrev St:=List (Option V)
abbrev VK:=V→Hp→Prop
abbrev TE:=St→Hp→VK→Prop
abbrev TT:=St→Hp→(Bool→Hp→Prop)→Prop
abbrev TA:=St→Hp→(List V→Hp→Prop)→Prop
structure Ends where
  nx:St→Hp→Prop
  rt:VK
  bk:St→Hp→Prop:=fun _ _=>False
  ct:St→Hp→Prop:=fun _ _=>False
abbrev TS:=Ends→St→Hp→Prop
def EP (X:Cx) (pins:List (Addr×Obj)) (σ:St) (Q:VK) (u:Value) (s':Shared):Prop:=∃ v H',Inv X pins σ H' s'∧RelV v u∧Q v H'
def TP (X:Cx) (pins:List (Addr×Obj)) (σ:St) (Q:Bool→Hp→Prop) (b:Bool) (s':Shared):Prop:=∃ H',Inv X pins σ H' s'∧Q b H'
def AP (X:Cx) (pins:List (Addr×Obj)) (σ:St) (Q:List V→Hp→Prop) (us:List Value) (s':Shared):Prop:=∃ vs H',Inv X pins σ H' s'∧Vals vs us∧Q vs H'
def SP (X:Cx) (pins:List (Addr×Obj)) (D:Ends) (f:Flow) (s':Shared):Prop :=
  match f with
  | .next=>∃ σ' H',Inv X pins σ' H' s'∧D.nx σ' H'
  | .brk=>∃ σ' H',Inv X pins σ' H' s'∧D.bk σ' H'
  | .cont=>∃ σ' H',Inv X pins σ' H' s'∧D.ct σ' H'
  | .ret u=>∃ v σ' H',Inv X pins σ' H' s'∧RelV v u∧D.rt v H'
def PE (X:Cx) (e:Expr) (t:TE):Prop :=
  ∀ (pins:List (Addr×Obj)) (s:Shared) (σ:St) (H:Hp) (Q:VK),Inv X pins σ H s→t σ H Q→wpAny (model X.prog X.w) X.A (eval e X.env) (EP X pins σ Q) X.xe s
def PT (X:Cx) (e:Expr) (t:TT):Prop :=
  ∀ (pins:List (Addr×Obj)) (s:Shared) (σ:St) (H:Hp) (Q:Bool→Hp→Prop),Inv X pins σ H s→t σ H Q→wpAny (model X.prog X.w) X.A (isTrue e X.env (eval e X.env)) (TP X pins σ Q) X.xe s
def PW (X:Cx) (e:Expr) (t:TT):Prop :=
  ∀ (whole:Sem Value) (pins:List (Addr×Obj)) (s:Shared) (σ:St) (H:Hp) (Q:Bool→Hp→Prop),Inv X pins σ H s→t σ H Q→wpAny (model X.prog X.w) X.A (isTrue e X.env whole) (TP X pins σ Q) X.xe s
theorem PW.pt {X:Cx} {e:Expr} {t:TT} (h:PW X e t):PT X e t:=h _
def PA (X:Cx) (es:List Expr) (t:TA):Prop :=
  ∀ (pos:Pos) (pins:List (Addr×Obj)) (s:Shared) (σ:St) (H:Hp) (Q:List V→Hp→Prop),Inv X pins σ H s→t σ H Q→wpAny (model X.prog X.w) X.A (spliced (backTo pos (starEach es X.env))) (AP X pins σ Q) X.xe s
def PS (X:Cx) (st:Stmt) (t:TS):Prop :=
  ∀ (pins:List (Addr×Obj)) (s:Shared) (σ:St) (H:Hp) (D:Ends),Inv X pins σ H s→t D σ H→wpAny (model X.prog X.w) X.A (exec st X.env) (SP X pins D) X.xe s
def PSs (X:Cx) (st:List Stmt) (t:TS):Prop :=
  ∀ (pins:List (Addr×Obj)) (s:Shared) (σ:St) (H:Hp) (D:Ends),Inv X pins σ H s→t D σ H→wpAny (model X.prog X.w) X.A (execs st X.env) (SP X pins D) X.xe s
theorem thn {α:Type} {t:Sem α} {Q Q':α→Shared→Prop} {M:Model} {A:Around} {E:Value→Shared→Prop} {s:Shared} (h:wpAny M A t Q E s) (hQ:∀ a s,Q a s→Q' a s):wpAny M A t Q' E s:=wpAny_mono h hQ fun _ _ x=>x
end L2
namespace L2
open PySem PySem.Spec PyProof.Rows
section
variable {X:Cx}
def tVar (i:Nat):TE:=fun σ H Q=>∃ v,σ[i]? = some (some v)∧Q v H
def tC (v:V):TE:=fun _ H Q=>Q v H
theorem pe_var {i:Nat} {x:Str} {pos:Pos} (hN:X.N[i]? = some x) (hv:Vis X.env.scope x) (hd:(x == ("__debug__" : Str))=false:=by decide) (hcd:(x == ("__classdict__" : Str))=false:=by decide):PE X (.Name x pos) (tVar i):=by
  intro pins s σ H Q I h
  obtain ⟨v,e,h⟩:=h
  obtain ⟨m,hn,hl⟩:=I.loc
  obtain ⟨u,r,l⟩:=hl i x v hN e hv
  have fin:EP X pins σ Q u s:=⟨v,H,I,r,h⟩
  rcases l with ⟨hk,hm⟩ | ⟨hk,c,hc,hcell⟩
  · exact wpAny_Name (wpAny_loadName_local I.ok.kind hk hn hm fin) hd
  · rcases hk with hk | hk
    · exact wpAny_Name (wpAny_loadName_cell I.ok.kind hk hc hcell fin) hd
    · exact wpAny_Name (wpAny_loadName_free I.ok.kind hk hc hcell fin hcd) hd
theorem pe_int {i j pos}:PE X (.Constant (.int i) j pos) (tC (.int i)):=fun _ _ _ H _ I h=>wpAny_Constant_int ⟨.int i,H,I.tok _,⟨_,rfl⟩,h⟩
theorem pe_bl {b j pos}:PE X (.Constant (.bool b) j pos) (tC (.bl b)):=fun _ _ _ H _ I h=>Constant_bool ⟨.bl b,H,I,rfl,h⟩
theorem pe_non {j pos}:PE X (.Constant .none j pos) (tC .non):=fun _ _ _ H _ I h=>Constant_none ⟨.non,H,I,rfl,h⟩
def Gl (X:Cx) (x:Str):Prop:=X.env.kindOf x=some .globalImplicit
theorem ld_glob {E:Value→Shared→Prop} {pins:List (Addr×Obj)} {s:Shared} {σ:St} {H:Hp} {x:Str} {u:Value} {pos:Pos} {Q:Value→Shared→Prop} (I:Inv X pins σ H s) (hg:Gl X x) (hm:X.mg x=some u) (h:Q u s)
    (hd:(x == ("__debug__" : Str))=false:=by decide):wpAny (model X.prog X.w) X.A (eval (.Name x pos) X.env) Q E s :=
  Calls.Name_function_global I.ok.kind hg (Calls.loadGlobal_global (by rw [I.ok.glob]; exact I.mod.glob.keeps I.bk) hm h) hd
theorem ld_blt {E:Value→Shared→Prop} {pins:List (Addr×Obj)} {s:Shared} {σ:St} {H:Hp} {x:Str} {u:Value} {pos:Pos} {Q:Value→Shared→Prop} (I:Inv X pins σ H s) (hg:Gl X x) (hm:X.mg x=none) (hv:bootBuiltins x=some u) (h:Q u s)
    (hn:x ≠ "__name__" := by decide) (hd:(x == ("__debug__" : Str))=false:=by decide):wpAny (model X.prog X.w) X.A (eval (.Name x pos) X.env) Q E s:=by
  obtain ⟨mb,h1,h2⟩:=I.mod.blt
  exact Calls.Name_function_global I.ok.kind hg (Calls.loadGlobal_builtin (by rw [I.ok.glob]; exact I.mod.glob.keeps I.bk) hm (by rw [I.ok.blt]; exact h1.keeps I.bk) ((h2 x hn).trans hv) h) hd
variable {a b:Expr} {ta tb:TE} {pos:Pos}
def tB (t:TE):TT:=fun σ H Q=>t σ H fun x H1=>∃ c,x = .bl c∧Q c H1
theorem pt_val {e:Expr} {t:TE} (h:PE X e t) (he:∀ whole,isTrue e X.env whole=(do let v ← whole; standAt e.pos; holding [v] (truthy v)):=by intro _; rfl):PT X e (tB t):=by
  intro pins s σ H Q I hw
  refine isTrue_plain (thn (h pins s σ H _ I hw) fun v s1 ⟨x,H1,I1,r1,q1⟩=>?_) (he _)
  obtain ⟨d,rfl,q⟩:=q1
  cases r1
  exact wpAny_truthy_bool ⟨H1,I1,q⟩
variable {tA tB':TT} {rest:List Expr}
def tAnd (t u:TT):TT:=fun σ H Q=>t σ H fun c H1=>if c=true then u σ H1 Q else Q false H1
def tOr (t u:TT):TT:=fun σ H Q=>t σ H fun c H1=>if c=true then Q true H1 else u σ H1 Q
def tNot (t:TT):TT:=fun σ H Q=>t σ H fun c H1=>Q (!c) H1
theorem pw_and1 (ha:PT X a tA):PW X (.BoolOp .And [a] pos) tA:=by
  intro wh pins s σ H Q I h
  refine isTrue_and (thn (ha pins s σ H Q I h) fun c s1 e=>?_)
  cases c with
  | true=>exact isTrue_and_nil e
  | false=>exact e
theorem pw_or1 (ha:PT X a tA):PW X (.BoolOp .Or [a] pos) tA:=by
  intro wh pins s σ H Q I h
  refine isTrue_or (thn (ha pins s σ H Q I h) fun c s1 e=>?_)
  cases c with
  | false=>exact isTrue_or_nil e
  | true=>exact e
theorem pw_and (ha:PT X a tA) (hb:PW X (.BoolOp .And (b :: rest) pos) tB'):PW X (.BoolOp .And (a :: b :: rest) pos) (tAnd tA tB'):=by
  intro wh pins s σ H Q I h
  refine isTrue_and (thn (ha pins s σ H _ I h) fun c s1 ⟨H1,I1,q1⟩=>?_)
  cases c with
  | true=>exact hb wh pins s1 σ H1 Q I1 q1
  | false=>exact ⟨H1,I1,q1⟩
theorem pw_or (ha:PT X a tA) (hb:PW X (.BoolOp .Or (b :: rest) pos) tB'):PW X (.BoolOp .Or (a :: b :: rest) pos) (tOr tA tB'):=by
  intro wh pins s σ H Q I h
  refine isTrue_or (thn (ha pins s σ H _ I h) fun c s1 ⟨H1,I1,q1⟩=>?_)
  cases c with
  | true=>exact ⟨H1,I1,q1⟩
  | false=>exact hb wh pins s1 σ H1 Q I1 q1
theorem pt_not (ha:PT X a tA):PT X (.UnaryOp .Not a pos) (tNot tA):=by
  intro pins s σ H Q I h
  exact isTrue_not (ha pins s σ H (fun c H1=>Q (!c) H1) I h)
def tAndV (ta tb:TE):TE:=fun σ H Q=>ta σ H fun x H1=>∃ c,x = .bl c∧if c=true then tb σ H1 Q else Q (.bl false) H1
def tOrV (ta tb:TE):TE:=fun σ H Q=>ta σ H fun x H1=>∃ c,x = .bl c∧if c=true then Q (.bl true) H1 else tb σ H1 Q
def tNotV (ta:TE):TE:=fun σ H Q=>ta σ H fun x H1=>∃ c,x = .bl c∧Q (.bl (!c)) H1
theorem pe_not (ha:PE X a ta):PE X (.UnaryOp .Not a pos) (tNotV ta):=by
  intro pins s σ H Q I h
  refine UnaryOp_ (thn (ha pins s σ H _ I h) fun v s1 ⟨x,H1,I1,r1,q1⟩=>?_)
  obtain ⟨c,rfl,q1⟩:=q1
  cases r1
  exact not_of (wpAny_truthy_bool ⟨.bl (!c),H1,I1,rfl,q1⟩)
def tIf (t:TT) (ta tb:TE):TE:=fun σ H Q=>t σ H fun c H1=>if c=true then ta σ H1 Q else tb σ H1 Q
theorem pe_ifExp {c:Expr} (hc:PT X c tA) (ha:PE X a ta) (hb:PE X b tb):PE X (.IfExp c a b pos) (tIf tA ta tb):=by
  intro pins s σ H Q I h
  refine wpAny_IfExp (thn (hc pins s σ H _ I h) fun d s1 ⟨H1,I1,q1⟩=>?_)
  cases d with
  | true=>exact ha pins s1 σ H1 Q I1 q1
  | false=>exact hb pins s1 σ H1 Q I1 q1
end
end L2
namespace L2
open PySem PySem.Spec PyProof.Rows
def SqL (K:PySem.W.Frag) (H:Hp) (a:Addr) (xs:List V):Prop :=
  Rd H a (.lst xs) ∨
    ∃ (o:Obj) (its:Array Value) (n:Nat),K.lookup a=some o∧o.cls = .type "list" ∧ o.dict=none∧o.data = .seq its n∧its.size≤sizeLine∧Vals xs its.toList
def SqT (K:PySem.W.Frag) (H:Hp) (a:Addr) (xs:List V):Prop :=
  Rd H a (.tup xs) ∨
    ∃ (o:Obj) (its:Array Value) (n:Nat),K.lookup a=some o∧o.cls = .type "tuple" ∧ o.data = .seq its n∧its.size≤sizeLine∧Vals xs its.toList
def absV:Value→Option V
  | .none=>some .non
  | .bool b=>some (.bl b)
  | .int i _=>some (.int i)
  | .str x _=>some (.str x)
  | .bytes b _=>some (.byt b)
  | .float b _=>some (.flt b)
  | .ref a=>some (.ref a)
  | .type n=>some (.ty n)
  | _=>none
theorem RelV.abs {x:V} {u:Value} (r:RelV x u):absV u=some x:=by
  cases x with
  | non=>cases r; rfl
  | bl _=>cases r; rfl
  | int _=>obtain ⟨t,rfl⟩:=r; rfl
  | str _=>obtain ⟨t,rfl⟩:=r; rfl
  | byt _=>obtain ⟨t,rfl⟩:=r; rfl
  | flt _=>obtain ⟨t,rfl⟩:=r; rfl
  | ref _=>cases r; rfl
  | ty _=>cases r; rfl
theorem RelV.inj {x y:V} {u:Value} (r:RelV x u) (q:RelV y u):x=y:=Option.some.inj (r.abs.symm.trans q.abs)
theorem Vals.inj:∀ {xs ys:List V} {us:List Value},Vals xs us→Vals ys us→xs=ys
  | _,_,_,.nil,.nil=>rfl
  | _,_,_,.cons r t,.cons r' t'=>by rw [r.inj r',Vals.inj t t']
section
variable {X:Cx} {pins:List (Addr×Obj)} {σ:St} {H:Hp} {s:Shared} {a:Addr} {xs ys:List V}
theorem SqL.of {K:PySem.W.Frag} (h:H a=some (.lst xs)):SqL K H a xs:=.inl (.inl h)
theorem SqT.of {K:PySem.W.Frag} (h:H a=some (.tup xs)):SqT K H a xs:=.inl (.inl h)
theorem Inv.list (I:Inv X pins σ H s) (h:SqL X.K H a xs):∃ its:List Value,Vals xs its∧PlainL s.heap a its.toArray∧xs.length≤sizeLine:=by
  rcases h with h | ⟨o,its,n,hk,hc,hd,hs,hz,r⟩
  · obtain ⟨z,its,n,r,e⟩:=h.ok I.hok
    exact ⟨its,r,⟨_,n,e,rfl,rfl,rfl⟩,z⟩
  · refine ⟨its.toList,r,⟨o,n,I.kIn a o hk,hc,hd,by simpa using hs⟩,?_⟩
    have e:=r.length
    simp only [Array.length_toList] at e
    omega
theorem Inv.tuple (I:Inv X pins σ H s) (h:SqT X.K H a xs):∃ its:List Value,Vals xs its∧IsTup s.heap a its.toArray∧xs.length≤sizeLine:=by
  rcases h with h | ⟨o,its,n,hk,hc,hs,hz,r⟩
  · obtain ⟨z,its,r,p⟩:=h.ok I.hok
    exact ⟨its,r,p,z⟩
  · refine ⟨its.toList,r,⟨o,I.kIn a o hk,hc,n,by simpa using hs⟩,?_⟩
    have e:=r.length
    simp only [Array.length_toList] at e
    omega
theorem Inv.list_inj (I:Inv X pins σ H s) (h:SqL X.K H a xs) (h':SqL X.K H a ys):xs=ys:=by
  obtain ⟨its,r,⟨o,n,e,_,_,d⟩,_⟩:=I.list h
  obtain ⟨its',r',⟨o',n',e',_,_,d'⟩,_⟩:=I.list h'
  rw [e] at e'; cases e'
  rw [d] at d'
  injection d' with d1 _
  have:its=its':=by simpa using congrArg Array.toList d1
  subst this
  exact r.inj r'
end
abbrev Cx.wish (X:Cx) (E:Value→Shared→Prop):Cx:={ X with xe:=E }
abbrev Cx.nox (X:Cx):Cx:=X.wish fun _ _=>False
theorem Cx.Ok.wish {X:Cx} (ok:X.Ok) (E:Value→Shared→Prop):(X.wish E).Ok :=
  ⟨ok.mod,ok.kind,ok.glob,ok.blt,ok.above,ok.inj,ok.has,ok.cab,ok.hd,ok.frames,ok.stk,ok.exf,ok.bs,ok.bsz,ok.noex,ok.exfs,ok.funs,ok.frf⟩
theorem Cx.Ok.unwish {X:Cx} {E:Value→Shared→Prop} (ok:(X.wish E).Ok):X.Ok :=
  ⟨ok.mod,ok.kind,ok.glob,ok.blt,ok.above,ok.inj,ok.has,ok.cab,ok.hd,ok.frames,ok.stk,ok.exf,ok.bs,ok.bsz,ok.noex,ok.exfs,ok.funs,ok.frf⟩
section
variable {X:Cx} {pins:List (Addr×Obj)} {σ:St} {H:Hp} {s:Shared} {E:Value→Shared→Prop}
theorem Inv.wish (I:Inv X pins σ H s) (E:Value→Shared→Prop):Inv (X.wish E) pins σ H s:=⟨I.ok.wish E,I.os,I.bare,I.base,I.loc,I.cell,I.free,I.freeC,I.pin,I.hok,I.len⟩
theorem Inv.unwish (I:Inv (X.wish E) pins σ H s):Inv X pins σ H s:=⟨I.ok.unwish,I.os,I.bare,I.base,I.loc,I.cell,I.free,I.freeC,I.pin,I.hok,I.len⟩
theorem SP.unwish {D:Ends} {f:Flow} {s':Shared} (h:SP (X.wish E) pins D f s'):SP X pins D f s':=by
  cases f with
  | next=>obtain ⟨σ',H',I,q⟩:=h; exact ⟨σ',H',I.unwish,q⟩
  | brk=>obtain ⟨σ',H',I,q⟩:=h; exact ⟨σ',H',I.unwish,q⟩
  | cont=>obtain ⟨σ',H',I,q⟩:=h; exact ⟨σ',H',I.unwish,q⟩
  | ret u=>obtain ⟨v,σ',H',I,r,q⟩:=h; exact ⟨v,σ',H',I.unwish,r,q⟩
theorem PSs.nox {st:List Stmt} {t:TS} (h:PSs X.nox st t):PSs X st t:=fun pins s σ H D I hw =>
  wpAny_mono (h pins s σ H D (I.wish _) hw) (fun _ _ q=>q.unwish) fun _ _ z=>False.elim z
end
section
variable {X:Cx} {st:Stmt} {rest:List Stmt} {t u:TS} {e:Expr} {te:TE} {pos:Pos}
def tNext:TS:=fun D σ H=>D.nx σ H
def tSeq (t u:TS):TS:=fun D σ H=>t { D with nx:=u D } σ H
theorem pss_nil:PSs X [] tNext:=fun _ _ σ H _ I h=>wpAny_execs_nil ⟨σ,H,I,h⟩
theorem pss_cons (h1:PS X st t) (h2:PSs X rest u):PSs X (st :: rest) (tSeq t u):=by
  intro pins s σ H D I h
  refine wpAny_execs_cons (thn (h1 pins s σ H { D with nx:=u D } I h) fun f s1 q=>?_)
  cases f with
  | next =>
    obtain ⟨σ',H',I',q⟩:=q
    exact h2 pins s1 σ' H' D I' q
  | ret v=>exact q
  | brk=>exact q
  | cont=>exact q
theorem pss_one (h1:PS X st t):PSs X [st] t:=by
  intro pins s σ H D I h
  refine wpAny_execs_cons (thn (h1 pins s σ H D I h) fun f s1 q=>?_)
  cases f with
  | next=>exact wpAny_execs_nil q
  | ret v=>exact q
  | brk=>exact q
  | cont=>exact q
theorem Inv.quiet {pins:List (Addr×Obj)} {σ:St} {H:Hp} {s:Shared} (I:Inv X pins σ H s):interactive X.env=false:=by simp [interactive,I.ok.kind]
def tDrop (te:TE):TS:=fun D σ H=>te σ H fun _ H1=>D.nx σ H1
theorem ps_expr (he:PE X e te) (hs:swapsWith e none pos.line X.env=pure false:=by rfl):PS X (.Expr e pos) (tDrop te):=by
  intro pins s σ H D I h
  exact wpAny_Expr_any (thn (he pins s σ H _ I h) fun v s1 ⟨x,H1,I1,r1,q1⟩=>⟨σ,H1,I1,q1⟩) I.quiet hs
def tRet (te:TE):TS:=fun D σ H=>te σ H D.rt
theorem ps_ret (he:PE X e te):PS X (.Return (some e) pos) (tRet te):=by
  intro pins s σ H D I h
  exact wpAny_Return_some (thn (he pins s σ H _ I h) fun v s1 ⟨x,H1,I1,r1,q1⟩=>⟨x,σ,H1,I1,r1,q1⟩)
def tRetN:TS:=fun D _ H=>D.rt .non H
def tIfS (c:TT) (t u:TS):TS:=fun D σ H=>c σ H fun b H1=>if b=true then t D σ H1 else u D σ H1
theorem ps_if {c:Expr} {a b:List Stmt} {tc:TT} (hc:PT X c tc) (ha:PSs X a t) (hb:PSs X b u):PS X (.If c a b pos) (tIfS tc t u):=by
  intro pins s σ H D I h
  refine wpAny_If (thn (hc pins s σ H _ I h) fun d s1 ⟨H1,I1,q1⟩=>?_)
  cases d with
  | true=>exact ha pins s1 σ H1 D I1 q1
  | false=>exact hb pins s1 σ H1 D I1 q1
def tNever:TS:=fun _ _ _=>False
theorem ps_never:PS X st tNever:=fun _ _ _ _ _ _ h=>h.elim
end
abbrev TG:=V→St→Hp→(St→Hp→Prop)→Prop
abbrev TGs:=List V→St→Hp→(St→Hp→Prop)→Prop
def PG (X:Cx) (target:Expr) (t:TG):Prop :=
  ∀ (pins:List (Addr×Obj)) (s:Shared) (σ:St) (H:Hp) (v:V) (u:Value) (Q:St→Hp→Prop),Inv X pins σ H s→RelV v u→t v σ H Q →
    wpAny (model X.prog X.w) X.A (assign target X.env u) (fun _ s'=>∃ σ' H',Inv X pins σ' H' s'∧Q σ' H') X.xe s
def PGs (X:Cx) (ts:List Expr) (t:TGs):Prop :=
  ∀ (pins:List (Addr×Obj)) (s:Shared) (σ:St) (H:Hp) (vs:List V) (us:List Value) (Q:St→Hp→Prop),Inv X pins σ H s→Vals vs us→t vs σ H Q →
    wpAny (model X.prog X.w) X.A (assignInOrder ((assignEach ts X.env).map (·.2)) us) (fun _ s'=>∃ σ' H',Inv X pins σ' H' s'∧Q σ' H') X.xe s
section
variable {X:Cx} {pos:Pos}
def gName (i:Nat):TG:=fun v σ H Q=>Q (σ.set i (some v)) H
theorem pg_name {i:Nat} {x:Str} (hN:X.N.Nodup) (hi:X.N[i]? = some x) (hx:Loc X.env.scope x) (hf:X.fn x=true∨X.env.scope.names.lookup x=some .local:=by first | exact .inl rfl | exact .inr rfl | assumption):PG X (.Name x pos) (gName i):=by
  intro pins s σ H v u Q I r h
  exact wpAny_assign_Name (store_ok I hN hi hx r (fun s' I'=>⟨_,H,I',h⟩) hf)
def gNil:TGs:=fun vs σ H Q=>vs = []∧Q σ H
def gCons (t:TG) (u:TGs):TGs:=fun vs σ H Q=>∃ v r,vs=v :: r∧t v σ H fun σ' H'=>u r σ' H' Q
theorem pgs_nil:PGs X [] gNil:=by
  intro pins s σ H vs us Q I r h
  obtain ⟨e,h⟩:=h
  subst e
  cases r
  exact assignInOrder_nil ⟨σ,H,I,h⟩
theorem pgs_cons {e:Expr} {es:List Expr} {t:TG} {u:TGs} (h1:PG X e t) (h2:PGs X es u)
    (hs:(assignEach (e :: es) X.env).map (·.2)=assign e X.env :: (assignEach es X.env).map (·.2):=by rfl):PGs X (e :: es) (gCons t u):=by
  intro pins s σ H vs us Q I r h
  obtain ⟨v,vr,e1,h⟩:=h
  subst e1
  cases r with
  | cons r rr =>
    rw [hs]
    refine assignInOrder_cons (thn (h1 pins s σ H _ _ _ I r h) fun _ s1 ⟨σ1,H1,I1,q1⟩=>?_)
    exact h2 pins s1 σ1 H1 _ _ Q I1 rr q1
def gTup (K:PySem.W.Frag) (n:Nat) (t:TGs):TG:=fun v σ H Q=>∃ a xs,v = .ref a∧SqT K H a xs∧xs.length=n∧t xs σ H Q
theorem pg_tup {es:List Expr} {k:Nat} {t:TGs} {n:Nat} (hc:X.calm=true) (h:PGs X es t)
    (hn:(assignEach es X.env).length=n:=by rfl) (hst:(assignEach es X.env).findIdx? (·.1)=none:=by rfl):PG X (.Tuple es k pos) (gTup X.K n t):=by
  intro pins s σ H v u Q I r hw
  obtain ⟨a,xs,e1,hq,hl,hw⟩:=hw
  subst e1
  cases r
  obtain ⟨its,rv,ht,hz⟩:=I.tuple hq
  refine assign_Tuple_tuple (I.ok.hd hc) ht (by simp [hn,← hl,rv.length]) hst fun h' hx=>?_
  have I1:Inv X pins σ H { s with heap:=h' }:=I.kept (t':=s.toks) fun b o e=>hx b o (Nat.ne_of_lt (Heap.lt_size e)) e
  exact h pins _ σ H xs _ Q I1 (by simpa using rv) hw
def tAsg (te:TE) (g:TG):TS:=fun D σ H=>te σ H fun x H1=>g x σ H1 D.nx
theorem ps_asg {tg e:Expr} {te:TE} {g:TG} (he:PE X e te) (hg:PG X tg g) (hs:swapsWithSole [tg] e pos.line X.env=pure false:=by rfl) (hw:swappedStores [tg] e X.env=pure none:=by rfl)
    (h1:(assignEach [tg] X.env).map (·.2) = [assign tg X.env]:=by rfl):PS X (.Assign [tg] e pos) (tAsg te g):=by
  intro pins s σ H D I h
  refine wpAny_Assign_stores (thn (he pins s σ H _ I h) fun v s1 ⟨x,H1,I1,r1,q1⟩=>?_) hs hw
  rw [h1]
  exact thn (hg pins s1 σ H1 x v _ I1 r1 q1) fun _ s2 q=>q
theorem ps_set {i:Nat} {x:Str} {e:Expr} {te:TE} {pos':Pos} (hN:X.N.Nodup) (hi:X.N[i]? = some x) (hx:Loc X.env.scope x) (he:PE X e te) (hs:swapsWith e (some (.Name x pos')) pos.line X.env=pure false:=by rfl) (hf:X.fn x=true∨X.env.scope.names.lookup x=some .local:=by first | exact .inl rfl | exact .inr rfl | assumption) :
    PS X (.Assign [.Name x pos'] e pos) (tAsg te (gName i)):=by
  intro pins s σ H D I h
  refine wpAny_Assign_Name (thn (he pins s σ H _ I h) fun v s1 ⟨y,H1,I1,r1,q1⟩=>?_) hs
  exact store_ok I1 hN hi hx r1 (fun s2 I2=>⟨_,H1,I2,q1⟩) hf
def tPar (i j:Nat) (ta:TA):TS:=fun D σ H=>ta σ H fun vs H1=>∃ v w,vs = [v,w]∧D.nx ((σ.set i (some v)).set j (some w)) H1
end
section
variable {X:Cx} {pos:Pos}
def tWhile (c:TT) (tb:TS):TS:=fun D σ H=>∃ W:Nat→St→Hp→Prop,(∃ m,W m σ H)∧∀ m σ H,W m σ H →
  c σ H fun b H1=>if b=true then ∃ N:St→Hp→Prop,(∀ σ' H',N σ' H'→∃ m',m' < m∧W m' σ' H')∧tb { D with nx:=N,ct:=N,bk:=D.nx } σ H1 else D.nx σ H1
theorem ps_while {c:Expr} {body:List Stmt} {tc:TT} {tb:TS} (hp:PassesOwn (model X.prog X.w) X.A X.env X.xe) (hc:PT X c tc) (hb:PSs X body tb):PS X (.While c body [] pos) (tWhile tc tb):=by
  intro pins s σ H D I h
  obtain ⟨W,⟨m0,w0⟩,turn⟩:=h
  refine wpAny_While (codeAny_whileLoop (fun n s'=>∃ σ' H',Inv X pins σ' H' s'∧W n σ' H') ?_ m0 ⟨σ,H,I,w0⟩)
  rintro n s1 ⟨σ1,H1,I1,w1⟩
  refine wpAny_passesOwn hp (thn (hc pins s1 σ1 H1 _ I1 (turn n σ1 H1 w1)) fun b s2 ⟨H2,I2,q2⟩=>?_)
  cases b with
  | true =>
    obtain ⟨N,hN,q2⟩:=q2
    rw [if_pos rfl]
    refine wpAny_passesOwn hp (thn (hb pins s2 σ1 H2 _ I2 q2) fun f s3 q3=>?_)
    cases f with
    | next =>
      obtain ⟨σ3,H3,I3,n3⟩:=q3
      obtain ⟨m',hm,w3⟩:=hN σ3 H3 n3
      exact ⟨m',hm,σ3,H3,I3,w3⟩
    | cont =>
      obtain ⟨σ3,H3,I3,n3⟩:=q3
      obtain ⟨m',hm,w3⟩:=hN σ3 H3 n3
      exact ⟨m',hm,σ3,H3,I3,w3⟩
    | brk=>exact q3
    | ret v=>exact q3
  | false =>
    rw [if_neg Bool.false_ne_true]
    exact wpAny_execs_nil ⟨σ1,H2,I2,q2⟩
end
structure It where
  go:Nat→Hp→Prop
  yld:Nat→Hp→V→Hp→Prop
  stop:Nat→Hp→Prop
def FpOk (X:Cx) (pins:List (Addr×Obj)) (H:Hp) (b:Addr):Prop :=
  H b=none∧b≠X.env.locals∧b ∉ X.fs∧(b∈X.ex∨X.s₀.heap.objs.size≤b)∧(∀ x c,X.env.cells.lookup x=some c→c≠b)∧∀ p∈X.pn++pins,p.1≠b
theorem Inv.fpOk {X:Cx} {pins:List (Addr×Obj)} {σ:St} {H H':Hp} {s:Shared} {b:Addr} (I:Inv X pins σ H s) (hb:s.heap.objs.size≤b) (hn:H' b=none):FpOk X pins H' b:=by
  refine ⟨hn,Nat.ne_of_gt (Nat.lt_of_lt_of_le I.lt hb),I.nofs hb,.inr (Nat.le_trans I.sz hb),fun x c e z=>?_,fun p hp z=>?_⟩
  · obtain ⟨v,q⟩:=I.cell x c e
    exact absurd (Nat.lt_of_lt_of_le q.lt (by rw [z]; exact hb)) (Nat.lt_irrefl _)
  · exact absurd (Nat.lt_of_lt_of_le (Heap.lt_size (I.pin p hp).1) (by rw [z]; exact hb)) (Nat.lt_irrefl _)
structure Turn (P:Program) (w:World) (K:PySem.W.Frag) (tg:Expr) (J:It) (fp:List Addr) (it:Addr) (tn:Nat→Heap→Prop):Prop where
  mem:it∈fp
  obj:∀ i h,tn i h→∀ b∈fp,∃ o,h.get? b=some o∧∀ v,o.data≠.cell v
  keep:∀ i h h',tn i h→(∀ b∈fp,∀ o,h.get? b=some o→h'.get? b=some o)→tn i h'
  item:∀ (X:Cx),X.prog=P→X.w=w→X.K=K→X.calm=true→∀ (i:Nat) (pins:List (Addr×Obj)) (s:Shared) (σ:St) (H:Hp) (E:Value→Shared→Prop),Inv X pins σ H s→(∀ b∈fp,FpOk X pins H b)→tn i s.heap→J.go i H →
    wpAny (model P w) X.A (pyNext (.ref it)) (fun r s1=>∃ u,r=some u ∧
      wpAny (model P w) X.A (letOwnedTupleGo tg (.ref it) u) (fun _ s2=>∃ x H',Inv X pins σ H' s2∧RelV x u∧J.yld i H x H'∧tn (i+1) s2.heap∧∀ b∈fp,H' b=none) E s1) E s
  done:∀ (X:Cx),X.prog=P→X.w=w→X.K=K→X.calm=true→∀ (i:Nat) (pins:List (Addr×Obj)) (s:Shared) (σ:St) (H:Hp) (E:Value→Shared→Prop),Inv X pins σ H s→(∀ b∈fp,FpOk X pins H b)→tn i s.heap→J.stop i H →
    wpAny (model P w) X.A (pyNext (.ref it)) (fun r s1=>r=none∧Inv X pins σ H s1) E s
  self:∀ (A:Around) (i:Nat) (s:Shared) (Q:Value→Shared→Prop) (E:Value→Shared→Prop),tn i s.heap→Q (.ref it) s→wpAny (model P w) A (pyIter (.ref it)) Q E s
abbrev TI:=St→Hp→(It→Hp→Prop)→Prop
def PIE (X:Cx) (pins:List (Addr×Obj)) (σ:St) (tg:Expr) (R:It→Hp→Prop) (itv:Value) (s2:Shared):Prop :=
  ∃ (it:Addr) (fp:List Addr) (tn:Nat→Heap→Prop) (J:It) (H':Hp),itv = .ref it∧Inv X pins σ H' s2∧Turn X.prog X.w X.K tg J fp it tn∧tn 0 s2.heap∧(∀ b∈fp,FpOk X pins H' b)∧R J H'
def PI (X:Cx) (tg iter:Expr) (wi:TI):Prop :=
  ∀ (pins:List (Addr×Obj)) (s:Shared) (σ:St) (H:Hp) (R:It→Hp→Prop),Inv X pins σ H s→wi σ H R →
    wpAny (model X.prog X.w) X.A (eval iter X.env) (fun v s1=>wpAny (model X.prog X.w) X.A (pyIter v) (PIE X pins σ tg R) X.xe s1) X.xe s
theorem go_of {M:Model} {A:Around} {E:Value→Shared→Prop} {s:Shared} {tg:Expr} {it:Addr} {u:Value} {o:Obj} {n:String} {vs:Array Value} {Q:Unit→Shared→Prop} (ho:s.heap.get? it=some o) (hc:o.cls = .type n) (hd:o.data = .fields vs)
    (hn:["enumerate", "zip", "dict_itemiterator", "dict_reverseitemiterator", "odict_iterator", "itertools.zip_longest", "itertools.pairwise"].contains n=false) (hQ:Q () s):wpAny M A (letOwnedTupleGo tg (.ref it) u) Q E s:=by
  unfold letOwnedTupleGo
  cases tg <;> first
    | exact wpAny_pure hQ
    | (cases u <;> first
        | exact wpAny_pure hQ
        | (refine wpAny_bind (wpAny_load ho ?_)
           rw [hc,hd]
           show wpAny M A (if (["enumerate", "zip", "dict_itemiterator", "dict_reverseitemiterator", "odict_iterator", "itertools.zip_longest", "itertools.pairwise"].contains n && vs[0]? == some (rawInt _))=true then _ else _) Q E s
           rw [if_neg (by intro h; rw [hn,Bool.false_and] at h; cases h)]
           exact wpAny_pure hQ))
def Itl (K:PySem.W.Frag) (a:Addr):It :=
  ⟨fun i H=>∃ xs x,SqL K H a xs∧xs[i]? = some x,fun i H x H'=>H'=H∧∀ xs,SqL K H a xs→xs[i]? = some x,fun i H=>∃ xs,SqL K H a xs∧xs.length≤i⟩
def Itt (K:PySem.W.Frag) (a:Addr):It :=
  ⟨fun i H=>∃ xs x,SqT K H a xs∧xs[i]? = some x,fun i H x H'=>H'=H∧∀ xs,SqT K H a xs→xs[i]? = some x,fun i H=>∃ xs,SqT K H a xs∧xs.length≤i⟩
def Itr (lo:Int) (n:Nat):It:=⟨fun i _=>i<n,fun i H x H'=>H'=H∧x = .int (lo+i),fun i _=>n≤i⟩
theorem turn_list {P:Program} {w:World} {K:PySem.W.Frag} {tg:Expr} (a it:Addr):Turn P w K tg (Itl K a) [it] it (fun i h=>h.IsListIter it a i) where
  mem:=by simp
  obj:=fun i h st b hb=>by
    have e:b=it:=by simpa using hb
    subst e
    obtain ⟨o,e,c,d⟩:=st
    exact ⟨o,e,fun v z=>by rw [d] at z; cases z⟩
  keep:=fun i h h' st k=>st.at fun o e=>k it (by simp) o e
  item:=by
    intro X hP hw hK hc i pins s σ H E I hf st hg
    subst hP hw hK
    obtain ⟨xs,x,hq,hx⟩:=hg
    obtain ⟨its,rv,p,hz⟩:=I.list hq
    obtain ⟨u,hu,ru⟩:=rv.get hx
    obtain ⟨f0,f1,f2,f3,f4,f5⟩:=hf it (by simp)
    refine wpAny_pyNext_list_item st p.isList (x:=u) (by simpa using hu) fun h' st' sb=>?_
    have I1:Inv X pins σ H { s with heap:=h' }:=I.turned (t':=s.toks) (fun b o hb e=>(sb.2 b hb).trans e) f0 f1 f3 f4 f5
    obtain ⟨o,e,c,d⟩:=id st'
    exact ⟨u,rfl,go_of (s:={ s with heap:=h' }) e c d (by decide) ⟨x,H,I1,ru,⟨rfl,fun ys hy=>by rw [I.list_inj hy hq]; exact hx⟩,st',fun b hb=>(hf b hb).1⟩⟩
  done:=by
    intro X hP hw hK hc i pins s σ H E I hf st hg
    subst hP hw hK
    obtain ⟨xs,hq,hx⟩:=hg
    obtain ⟨its,rv,p,hz⟩:=I.list hq
    obtain ⟨f0,f1,f2,f3,f4,f5⟩:=hf it (by simp)
    have hl:=rv.length
    exact wpAny_pyNext_list_end (I.ok.hd hc) st p.isList (by simp; omega) fun h' eb=>⟨rfl,I.turned (t':=s.toks) (fun b o hb e=>eb b o hb e) f0 f1 f3 f4 f5⟩
  self:=fun _ _ _ _ _ st h=>wpAny_pyIter_listiter st h
theorem turn_range {P:Program} {w:World} {K:PySem.W.Frag} {tg:Expr} (it:Addr) (lo:Int) (n:Nat):Turn P w K tg (Itr lo n) [it] it (fun i h=>IsRangeIter h it (lo+(i:Nat)*1) ((n:Int)-(i:Nat)) 1) where
  mem:=by simp
  obj:=fun i h st b hb=>by
    have e:b=it:=by simpa using hb
    subst e
    exact ⟨_,st,fun v z=>by
      have z':Data.fields _=Data.cell v:=z
      cases z'⟩
  keep:=fun i h h' st k=>k it (by simp) _ st
  item:=by
    intro X hP hw hK hc i pins s σ H E I hf st hg
    subst hP hw hK
    obtain ⟨f0,f1,f2,f3,f4,f5⟩:=hf it (by simp)
    have W:=Walks.range (prog:=X.prog) (w:=X.w) (I.ok.hd hc) it lo 1 n
    refine W.item i s _ _ hg st fun v h' tk hv st' kk=>?_
    obtain ⟨t,rfl⟩:=hv
    have I1:Inv X pins σ H { s with heap:=h',toks:=tk }:=I.turned (fun b o hb e=>kk b o (by simpa using hb) e) f0 f1 f3 f4 f5
    refine ⟨_,rfl,go_of (s:={ s with heap:=h',toks:=tk }) (n := "range_iterator") st' rfl rfl (by decide) ⟨.int (lo+i),H,I1,⟨t,?_⟩,⟨rfl,rfl⟩,st',fun b hb=>(hf b hb).1⟩⟩
    rw [Int.mul_one]
  done:=by
    intro X hP hw hK hc i pins s σ H E I hf st hg
    subst hP hw hK
    obtain ⟨f0,f1,f2,f3,f4,f5⟩:=hf it (by simp)
    exact wpAny_pyNext_range_end (I.ok.hd hc) st (by have:n≤i:=hg; omega) fun h' eb=>⟨rfl,I.turned (t':=s.toks) (fun b o hb e=>eb b o hb e) f0 f1 f3 f4 f5⟩
  self:=fun _ _ _ _ _ st h=>wpAny_pyIter_rangeiter st h
end L2
namespace L2
open PySem PySem.Spec PyProof.Rows
section
variable {X:Cx} {tg:Expr}
def iList (K:PySem.W.Frag) (tl:TE):TI:=fun σ H R=>tl σ H fun x H1=>∃ a,x = .ref a∧(∃ xs,SqL K H1 a xs)∧R (Itl K a) H1
def iTup (K:PySem.W.Frag) (tl:TE):TI:=fun σ H R=>tl σ H fun x H1=>∃ a,x = .ref a∧(∃ xs,SqT K H1 a xs)∧R (Itt K a) H1
theorem pi_list {l:Expr} {tl:TE} (hl:PE X l tl):PI X tg l (iList X.K tl):=by
  intro pins s σ H R I h
  refine thn (hl pins s σ H _ I h) fun v s1 ⟨x,H1,I1,r1,q1⟩=>?_
  obtain ⟨a,e,⟨xs,hq⟩,q⟩:=q1
  subst e
  cases r1
  obtain ⟨its,rv,p,hz⟩:=I1.list hq
  refine wpAny_pyIter_list p.isList ?_
  refine ⟨s1.heap.objs.size,[s1.heap.objs.size],_,_,H1,rfl,I1.kept (t':=s1.toks) fun b o e=>Heap.get?_push_of_some _ e,turn_list a _,⟨_,Heap.get?_push_size _ rfl,rfl,rfl⟩,fun b hb=>?_,q⟩
  have e:b=s1.heap.objs.size:=by simpa using hb
  subst e
  exact I1.fpOk (Nat.le_refl _) (I1.hok.fresh (Nat.le_refl _))
theorem range_it {pins:List (Addr×Obj)} {σ:St} {H:Hp} {s:Shared} {R:It→Hp→Prop} {E:Value→Shared→Prop} {lo hi:Int} {t u v:Tok} {tk:Nat} (I:Inv X pins σ H s) (h1:-(2 ^ 62)≤lo) (h2:lo<2 ^ 62) (h3:-(2 ^ 62)≤hi) (h4:hi<2 ^ 62)
    (q:R (Itr lo (hi-lo).toNat) H):wpAny (model X.prog X.w) X.A (pyIter (.ref s.heap.objs.size)) (PIE X pins σ tg R) E { s with heap:=s.heap.push { cls:=.type "range", data:=.fields #[.int lo t,.int hi u,.int 1 v] },toks:=tk }:=by
  refine wpAny_pyIter_range (IsRange.new ..) (small_one h1 h2 h3 h4) ?_
  have I1:Inv X pins σ H { s with heap:=s.heap.push { cls:=.type "range", data:=.fields #[.int lo t,.int hi u,.int 1 v] },toks:=tk }:=I.kept fun b o e=>Heap.get?_push_of_some _ e
  refine ⟨(s.heap.push { cls:=.type "range", data:=.fields #[.int lo t,.int hi u,.int 1 v] }).objs.size,[(s.heap.push { cls:=.type "range", data:=.fields #[.int lo t,.int hi u,.int 1 v] }).objs.size],_,_,H,rfl,
    I1.kept (t':=tk) fun b o e=>Heap.get?_push_of_some _ e,turn_range _ lo (hi-lo).toNat,?_,fun b hb=>?_,q⟩
  · have e1:lo+((0:Nat):Int)*1=lo:=by simp
    have e2:(((hi-lo).toNat:Nat):Int)-((0:Nat):Int)=Builtin.Range.rangeSize lo hi 1:=by rw [rangeSize_one]; split <;> omega
    show IsRangeIter _ _ (lo+((0:Nat):Int)*1) ((((hi-lo).toNat:Nat):Int)-((0:Nat):Int)) 1
    rw [e1,e2]
    exact Heap.get?_push_size _ rfl
  · have e:b=(s.heap.push { cls:=.type "range", data:=.fields #[.int lo t,.int hi u,.int 1 v] }).objs.size:=by simpa using hb
    subst e
    exact I1.fpOk (Nat.le_refl _) (I1.hok.fresh (Nat.le_refl _))
def iRng1 (ta:TA):TI:=fun σ H R=>ta σ H fun vs H1=>∃ j:Int,vs = [.int j]∧-(2 ^ 62)≤j∧j<2 ^ 62∧R (Itr 0 j.toNat) H1
def iRng2 (ta:TA):TI:=fun σ H R=>ta σ H fun vs H1=>∃ i j:Int,vs = [.int i,.int j]∧(-(2 ^ 62)≤i∧i<2 ^ 62∧-(2 ^ 62)≤j∧j<2 ^ 62)∧R (Itr i (j-i).toNat) H1
theorem pi_range1 {a:Expr} {ta:TA} {p pos:Pos} (hg:Gl X "range") (hm:X.mg "range" = none) (ha:PA X [a] ta) (hs:starEach [a] X.env = [(false,eval a X.env)]:=by rfl):PI X tg (.Call (.Name "range" p) [a] [] pos) (iRng1 ta):=by
  intro pins s σ H R I h
  refine Call_ (ld_blt I hg hm boot_range (PyProof.Rows.callWith_type1 (thn (ha pos pins s σ H _ I h) fun us s1 ⟨vs,H1,I1,r1,q1⟩=>?_) hs rfl))
  obtain ⟨j,e,q1,q2,q⟩:=q1
  subst e
  cases r1 with
  | cons r rr =>
    cases rr
    obtain ⟨t,rfl⟩:=r
    exact call_range_1 (range_it I1 (by omega) (by omega) q1 q2 (by simpa using q))
def tFor (wi:TI) (g:TG) (tb:TS):TS:=fun D σ H=>wi σ H fun J H1=>∃ W:Nat→Nat→St→Hp→Prop,(∃ m,W 0 m σ H1)∧∀ i m σ H,W i m σ H →
  (J.stop i H∧D.nx σ H)∨(J.go i H∧∃ N:St→Hp→Prop,(∀ σ' H',N σ' H'→∃ m',m' < m∧W (i+1) m' σ' H')∧∀ x H',J.yld i H x H'→g x σ H' fun σ2 H2=>tb { D with nx:=N,ct:=N,bk:=D.nx } σ2 H2)
def pinsAt (fp:List Addr) (h:Heap):List (Addr×Obj):=fp.filterMap fun b=>(h.get? b).map fun o=>(b,o)
theorem mem_pinsAt {fp:List Addr} {h:Heap} {b:Addr} {o:Obj} (hb:b∈fp) (e:h.get? b=some o):(b,o)∈pinsAt fp h:=List.mem_filterMap.mpr ⟨b,hb,by rw [e]; rfl⟩
theorem of_pinsAt {fp:List Addr} {h:Heap} {p:Addr×Obj} (hp:p∈pinsAt fp h):p.1∈fp∧h.get? p.1=some p.2:=by
  obtain ⟨b,hb,e⟩:=List.mem_filterMap.mp hp
  cases q:h.get? b with
  | none=>rw [q] at e; cases e
  | some o =>
    rw [q] at e
    have e':(b,o)=p:=Option.some.inj e
    subst e'
    exact ⟨hb,q⟩
theorem Inv.pinned {pins:List (Addr×Obj)} {σ:St} {H:Hp} {s:Shared} {fp:List Addr} (I:Inv X pins σ H s) (hf:∀ b∈fp,FpOk X pins H b) (ho:∀ b∈fp,∃ o,s.heap.get? b=some o∧∀ v,o.data≠.cell v):Inv X (pins++pinsAt fp s.heap) σ H s :=
  I.pins_of fun p hp=>(List.mem_append.mp hp).elim (fun z=>I.pin p (List.mem_append_right _ z)) fun z=>by
    obtain ⟨hb,e⟩:=of_pinsAt z
    obtain ⟨f0,f1,f2,_⟩:=hf p.1 hb
    obtain ⟨o,e',d⟩:=ho p.1 hb
    rw [e] at e'; cases e'
    exact ⟨e,f0,f1,f2,d⟩
theorem Inv.unpinned {pins pl:List (Addr×Obj)} {σ:St} {H:Hp} {s:Shared} (I:Inv X (pins++pl) σ H s):Inv X pins σ H s:=I.pins_of fun p hp=>I.pin p (List.mem_append_right _ (List.mem_append_left _ hp))
theorem ps_for {iter:Expr} {body:List Stmt} {wi:TI} {g:TG} {tb:TS} {pos:Pos} (hp:PassesOwn (model X.prog X.w) X.A X.env X.xe) (hc:X.calm=true) (hi:PI X tg iter wi) (hg:PG X tg g) (hb:PSs X body tb)
    (hs:∀ x,foldedSetIterable iter X.env x=pure x:=by intro _; rfl):PS X (.For tg iter body [] pos) (tFor wi g tb):=by
  intro pins s σ H D I h
  refine wpAny_For (thn (hi pins s σ H _ I h) fun v s1 h1=>thn h1 fun itv s2 h2=>?_) hs
  obtain ⟨it,fp,tn,J,H2,e,I2,T,st2,f2,W,⟨m0,w0⟩,turn⟩:=h2
  subst e
  have stat:∀ {H':Hp},(∀ b∈fp,H' b=none)→∀ b∈fp,FpOk X pins H' b:=fun hn b hb=>⟨hn b hb,(f2 b hb).2⟩
  refine codeAny_forLoop_any (fun n s'=>∃ i σ' H',Inv X pins σ' H' s'∧tn i s'.heap∧(∀ b∈fp,H' b=none)∧W i n σ' H') ?_ m0 ⟨0,σ,H2,I2,st2,fun b hb=>(f2 b hb).1,w0⟩
  rintro n s3 ⟨i,σ3,H3,I3,st3,fr3,w3⟩
  rcases turn i n σ3 H3 w3 with ⟨stop,qn⟩ | ⟨go,N,hN,step⟩
  · refine wpAny_passesOwn hp (thn (T.done X rfl rfl rfl hc i pins s3 σ3 H3 X.xe I3 (stat fr3) st3 stop) fun r s4 ⟨hr,I4⟩=>?_)
    subst hr
    exact wpAny_execs_nil ⟨σ3,H3,I4,qn⟩
  · refine wpAny_passesOwn hp (thn (T.item X rfl rfl rfl hc i pins s3 σ3 H3 X.xe I3 (stat fr3) st3 go) fun r s4 ⟨u,hr,h4⟩=>?_)
    subst hr
    refine wpAny_passesOwn hp (thn h4 fun _ s5 ⟨x,H5,I5,r5,y5,st5,fr5⟩=>?_)
    have I5':=I5.pinned (stat fr5) (T.obj _ _ st5)
    refine wpAny_passesOwn hp (thn (hg _ s5 σ3 H5 x u _ I5' r5 (step x H5 y5)) fun _ s6 ⟨σ6,H6,I6,q6⟩=>?_)
    refine wpAny_passesOwn hp (thn (hb _ s6 σ6 H6 _ I6 q6) fun f s7 q7=>?_)
    have again:∀ {σ7:St} {H7:Hp},Inv X (pins++pinsAt fp s5.heap) σ7 H7 s7→N σ7 H7→∃ m,m<n∧∃ i σ' H',Inv X pins σ' H' s7∧tn i s7.heap∧(∀ b∈fp,H' b=none)∧W i m σ' H':=fun {σ7 H7} I7 n7=>by
      obtain ⟨m',hm,w7⟩:=hN σ7 H7 n7
      refine ⟨m',hm,i+1,σ7,H7,I7.unpinned,T.keep _ _ _ st5 fun b hb o e=>(I7.pin (b,o) (List.mem_append_right _ (List.mem_append_right _ (mem_pinsAt hb e)))).1,fun b hb=>?_,w7⟩
      obtain ⟨o,e,d⟩:=T.obj _ _ st5 b hb
      exact (I7.pin (b,o) (List.mem_append_right _ (List.mem_append_right _ (mem_pinsAt hb e)))).2.1
    cases f with
    | next=>obtain ⟨σ7,H7,I7,n7⟩:=q7; exact again I7 n7
    | cont=>obtain ⟨σ7,H7,I7,n7⟩:=q7; exact again I7 n7
    | brk=>obtain ⟨σ7,H7,I7,q7⟩:=q7; exact ⟨σ7,H7,I7.unpinned,q7⟩
    | ret v=>obtain ⟨x7,σ7,H7,I7,r7,q7⟩:=q7; exact ⟨x7,σ7,H7,I7.unpinned,r7,q7⟩
end
theorem for_list {K:PySem.W.Frag} {a:Addr} {xs:List V} {g:TG} {tb:TS} {D:Ends} {σ:St} {H:Hp} (Pv:Nat→St→Hp→Prop) (h0:Pv 0 σ H) (hl:∀ i σ H,i≤xs.length→Pv i σ H→SqL K H a xs)
    (hs:∀ i x σ H,xs[i]? = some x→Pv i σ H→g x σ H fun σ2 H2=>tb { D with nx:=Pv (i+1),ct:=Pv (i+1),bk:=D.nx } σ2 H2) (hd:∀ σ H,Pv xs.length σ H→D.nx σ H) :
    ∃ W:Nat→Nat→St→Hp→Prop,(∃ m,W 0 m σ H)∧∀ i m σ H,W i m σ H →
      ((Itl K a).stop i H∧D.nx σ H)∨((Itl K a).go i H∧∃ N:St→Hp→Prop,(∀ σ' H',N σ' H'→∃ m',m' < m∧W (i+1) m' σ' H')∧∀ x H',(Itl K a).yld i H x H'→g x σ H' fun σ2 H2=>tb { D with nx:=N,ct:=N,bk:=D.nx } σ2 H2):=by
  refine ⟨fun i m σ H=>m=xs.length-i∧i≤xs.length∧Pv i σ H,⟨xs.length,by simp,Nat.zero_le _,h0⟩,?_⟩
  rintro i m σ H ⟨rfl,hi,p⟩
  have q:=hl i σ H hi p
  by_cases hlt:i<xs.length
  · refine .inr ⟨⟨xs,xs[i],q,by simp [hlt]⟩,Pv (i+1),fun σ' H' p'=>⟨xs.length-(i+1),by omega,rfl,hlt,p'⟩,fun x H' y=>?_⟩
    obtain ⟨e,y⟩:=y
    subst e
    exact hs i x σ _ (y xs q) p
  · have e:i=xs.length:=by omega
    subst e
    exact .inl ⟨⟨xs,q,Nat.le_refl _⟩,hd σ H p⟩
theorem for_range {lo:Int} {n:Nat} {g:TG} {tb:TS} {D:Ends} {σ:St} {H:Hp} (Pv:Nat→St→Hp→Prop) (h0:Pv 0 σ H)
    (hs:∀ i σ H,i<n→Pv i σ H→g (.int (lo+i)) σ H fun σ2 H2=>tb { D with nx:=Pv (i+1),ct:=Pv (i+1),bk:=D.nx } σ2 H2) (hd:∀ σ H,Pv n σ H→D.nx σ H) :
    ∃ W:Nat→Nat→St→Hp→Prop,(∃ m,W 0 m σ H)∧∀ i m σ H,W i m σ H →
      ((Itr lo n).stop i H∧D.nx σ H)∨((Itr lo n).go i H∧∃ N:St→Hp→Prop,(∀ σ' H',N σ' H'→∃ m',m' < m∧W (i+1) m' σ' H')∧∀ x H',(Itr lo n).yld i H x H'→g x σ H' fun σ2 H2=>tb { D with nx:=N,ct:=N,bk:=D.nx } σ2 H2):=by
  refine ⟨fun i m σ H=>m=n-i∧i≤n∧Pv i σ H,⟨n,by simp,Nat.zero_le _,h0⟩,?_⟩
  rintro i m σ H ⟨rfl,hi,p⟩
  by_cases hlt:i<n
  · refine .inr ⟨hlt,Pv (i+1),fun σ' H' p'=>⟨n-(i+1),by omega,rfl,hlt,p'⟩,fun x H' y=>?_⟩
    obtain ⟨e,y⟩:=y
    subst e y
    exact hs i σ _ hlt p
  · have e:i=n:=by omega
    subst e
    exact .inl ⟨Nat.le_refl _,hd σ H p⟩
end L2
namespace L2
open PySem PySem.Spec PyProof.Rows
abbrev R2:=V→V→Hp→VK→Prop
def OpR (X:Cx) (f:Value→Value→Sem Value) (r:R2):Prop :=
  ∀ (pins:List (Addr×Obj)) (s:Shared) (σ:St) (H:Hp) (x y:V) (v u:Value) (Q:VK),Inv X pins σ H s→RelV x v→RelV y u→r x y H Q →
    wpAny (model X.prog X.w) X.A (f v u) (EP X pins σ Q) X.xe s
def UnR (X:Cx) (f:Value→Sem Value) (r:V→Hp→VK→Prop):Prop :=
  ∀ (pins:List (Addr×Obj)) (s:Shared) (σ:St) (H:Hp) (x:V) (v:Value) (Q:VK),Inv X pins σ H s→RelV x v→r x H Q →
    wpAny (model X.prog X.w) X.A (f v) (EP X pins σ Q) X.xe s
def CallR (X:Cx) (f:Value) (r:List V→Hp→VK→Prop):Prop :=
  ∀ (pins:List (Addr×Obj)) (s:Shared) (σ:St) (H:Hp) (xs:List V) (us:List Value) (Q:VK),Inv X pins σ H s→Vals xs us→r xs H Q →
    wpAny (model X.prog X.w) X.A (call f us) (EP X pins σ Q) X.xe s
def TruR (X:Cx) (r:V→Hp→(Bool→Hp→Prop)→Prop):Prop :=
  ∀ (pins:List (Addr×Obj)) (s:Shared) (σ:St) (H:Hp) (x:V) (v:Value) (Q:Bool→Hp→Prop),Inv X pins σ H s→RelV x v→r x H Q →
    wpAny (model X.prog X.w) X.A (truthy v) (TP X pins σ Q) X.xe s
def tOp (r:R2) (ta tb:TE):TE:=fun σ H Q=>ta σ H fun x H1=>tb σ H1 fun y H2=>r x y H2 Q
def tUn (r:V→Hp→VK→Prop) (ta:TE):TE:=fun σ H Q=>ta σ H fun x H1=>r x H1 Q
def rI (C:Int→Int→Prop) (g:Int→Int→V):R2:=fun x y H Q=>∃ i j,x = .int i∧y = .int j∧C i j∧Q (g i j) H
def rI0 (g:Int→Int→V):R2:=fun x y H Q=>∃ i j,x = .int i∧y = .int j∧Q (g i j) H
def rU (g:Int→V):V→Hp→VK→Prop:=fun x H Q=>∃ i,x = .int i∧Q (g i) H
section
variable {X:Cx} {a b c:Expr} {ta tb tc:TE} {pos:Pos}
theorem binT (ha:PE X a ta) (hb:PE X b tb) {pins:List (Addr×Obj)} {s:Shared} {σ:St} {H:Hp} {R:V→V→Hp→Prop} (I:Inv X pins σ H s)
    (h:ta σ H fun x H1=>tb σ H1 fun y H2=>R x y H2) {Q:Value→Shared→Prop} {f:Value→Value→Sem Value}
    (hf:∀ v u s2 x y H2,Inv X pins σ H2 s2→RelV x v→RelV y u→R x y H2→wpAny (model X.prog X.w) X.A (f v u) Q X.xe s2) :
    wpAny (model X.prog X.w) X.A (eval a X.env) (fun v s₁=>wpAny (model X.prog X.w) X.A (eval b X.env) (fun u s₂=>wpAny (model X.prog X.w) X.A (f v u) Q X.xe s₂) X.xe s₁) X.xe s:=by
  refine thn (ha pins s σ H _ I h) fun v s1 ⟨x,H1,I1,r1,q1⟩=>?_
  refine thn (hb pins s1 σ H1 _ I1 q1) fun u s2 ⟨y,H2,I2,r2,q2⟩=>?_
  exact hf v u s2 x y H2 I2 r1 r2 q2
theorem pe_op {op:Operator} {r:R2} (ho:OpR X (binaryOp op) r) (ha:PE X a ta) (hb:PE X b tb):PE X (.BinOp a op b pos) (tOp r ta tb):=by
  intro pins s σ H Q I h
  exact wpAny_BinOp (binT ha hb I h fun v u s2 x y H2 I2 rx ry q=>ho pins s2 σ H2 x y v u Q I2 rx ry q)
theorem pe_un {op:UnaryOp} {r:V→Hp→VK→Prop} (ho:UnR X (unaryOp op) r) (ha:PE X a ta):PE X (.UnaryOp op a pos) (tUn r ta):=by
  intro pins s σ H Q I h
  exact UnaryOp_ (thn (ha pins s σ H _ I h) fun v s1 ⟨x,H1,I1,r1,q1⟩=>ho pins s1 σ H1 x v Q I1 r1 q1)
theorem opI {f:Value→Value→Sem Value} {C:Int→Int→Prop} {g:Int→Int→Int}
    (rule:∀ (i j:Int) (t u:Tok) (s:Shared) (Q:Value→Shared→Prop) (E:Value→Shared→Prop),C i j→Q (.int (g i j) s.toks) { s with toks:=s.toks+1 }→wpAny (model X.prog X.w) X.A (f (.int i t) (.int j u)) Q E s) :
    OpR X f (rI C fun i j=>.int (g i j)):=by
  intro pins s σ H x y v u Q I rx ry h
  obtain ⟨i,j,rfl,rfl,hc,q⟩:=h
  obtain ⟨t,rfl⟩:=rx
  obtain ⟨t',rfl⟩:=ry
  exact rule i j t t' s _ _ hc ⟨.int (g i j),H,I.tok _,⟨_,rfl⟩,q⟩
theorem opI0 {f:Value→Value→Sem Value} {g:Int→Int→Int}
    (rule:∀ (i j:Int) (t u:Tok) (s:Shared) (Q:Value→Shared→Prop) (E:Value→Shared→Prop),Q (.int (g i j) s.toks) { s with toks:=s.toks+1 }→wpAny (model X.prog X.w) X.A (f (.int i t) (.int j u)) Q E s) :
    OpR X f (rI0 fun i j=>.int (g i j)):=by
  intro pins s σ H x y v u Q I rx ry h
  obtain ⟨i,j,rfl,rfl,q⟩:=h
  obtain ⟨t,rfl⟩:=rx
  obtain ⟨t',rfl⟩:=ry
  exact rule i j t t' s _ _ ⟨.int (g i j),H,I.tok _,⟨_,rfl⟩,q⟩
theorem opB0 {f:Value→Value→Sem Value} {g:Int→Int→Bool}
    (rule:∀ (i j:Int) (t u:Tok) (s:Shared) (Q:Value→Shared→Prop) (E:Value→Shared→Prop),Q (.bool (g i j)) s→wpAny (model X.prog X.w) X.A (f (.int i t) (.int j u)) Q E s) :
    OpR X f (rI0 fun i j=>.bl (g i j)):=by
  intro pins s σ H x y v u Q I rx ry h
  obtain ⟨i,j,rfl,rfl,q⟩:=h
  obtain ⟨t,rfl⟩:=rx
  obtain ⟨t',rfl⟩:=ry
  exact rule i j t t' s _ _ ⟨.bl (g i j),H,I,rfl,q⟩
def CPow (i j:Int):Prop:=0≤j∧j≤1000000∧i.natAbs<2 ^ 64
theorem op_add:OpR X (binaryOp .Add) (rI0 fun i j=>.int (i+j)):=opI0 fun _ _ _ _ _ _ _ q=>add_int q
theorem op_sub:OpR X (binaryOp .Sub) (rI0 fun i j=>.int (i-j)):=opI0 fun _ _ _ _ _ _ _ q=>sub_int q
theorem op_mod:OpR X (binaryOp .Mod) (rI (fun _ j=>0<j) fun i j=>.int (i % j)):=opI fun i j _ _ _ _ _ hc q=>by
  have h1:(0:Int)<j:=hc
  exact mod_int' (by omega) (by rw [Int.fmod_eq_emod_of_nonneg i (by omega)]; exact q)
theorem op_pow:OpR X (binaryOp .Pow) (rI CPow fun i j=>.int (i ^ j.toNat)):=opI fun _ _ _ _ _ _ _ hc q=>pow_int_small hc.1 hc.2.1 hc.2.2 q
theorem unI {f:Value→Sem Value} {g:Int→Int}
    (rule:∀ (i:Int) (t:Tok) (s:Shared) (Q:Value→Shared→Prop) (E:Value→Shared→Prop),Q (.int (g i) s.toks) { s with toks:=s.toks+1 }→wpAny (model X.prog X.w) X.A (f (.int i t)) Q E s) :
    UnR X f (rU fun i=>.int (g i)):=by
  intro pins s σ H x v Q I rx h
  obtain ⟨i,rfl,q⟩:=h
  obtain ⟨t,rfl⟩:=rx
  exact rule i t s _ _ ⟨.int (g i),H,I.tok _,⟨_,rfl⟩,q⟩
theorem un_neg:UnR X (unaryOp .USub) (rU fun i=>.int (-i)):=unI fun _ _ _ _ _ q=>neg_int q
end
def scal:V→V→Bool
  | .non,.non=>true | .non,.int _=>true | .int _,.non=>true | .non,.bl _=>true | .bl _,.non=>true | .non,.str _=>true | .str _,.non=>true
  | .int _,.int _=>true | .bl _,.bl _=>true | .str _,.str _=>true | .byt _,.byt _=>true
  | .int _,.str _=>true | .str _,.int _=>true | .bl _,.str _=>true | .str _,.bl _=>true
  | _,_=>false
def rEq:R2:=fun x y H Q=>scal x y=true∧Q (.bl (decide (x=y))) H
def rNe:R2:=fun x y H Q=>scal x y=true∧Q (.bl (!decide (x=y))) H
theorem dec_int {i j:Int}:decide (V.int i=V.int j)=(i == j):=by
  rw [Bool.eq_iff_iff]
  simp
theorem dec_bl {i j:Bool}:decide (V.bl i=V.bl j)=(i == j):=by
  rw [Bool.eq_iff_iff]
  simp
theorem dec_str {i j:Str}:decide (V.str i=V.str j)=(i == j):=by
  rw [Bool.eq_iff_iff]
  simp
theorem dec_byt {i j:Array UInt8}:decide (V.byt i=V.byt j)=(i.toList == j.toList):=by
  rw [Bool.eq_iff_iff]
  cases i
  cases j
  simp
section
variable {X:Cx} {a b c:Expr} {ta tb tc:TE} {pos:Pos}
theorem fin_bl {pins:List (Addr×Obj)} {σ:St} {H:Hp} {s:Shared} {Q:VK} {k k':Bool} (I:Inv X pins σ H s) (q:Q (.bl k) H) (e:k=k'):EP X pins σ Q (.bool k') s:=by
  subst e
  exact ⟨.bl k,H,I,rfl,q⟩
theorem op_eq:OpR X (compareOp .Eq) rEq:=by
  intro pins s σ H x y v u Q I rx ry h
  obtain ⟨hs,q⟩:=h
  cases x with
  | non =>
    cases rx
    cases y with
    | non=>cases ry; exact PySem.EqNone.eq_none_none (fin_bl I q (by simp))
    | bl j=>cases ry; exact PySem.EqNone.eq_none_bool (fin_bl I q (by simp))
    | int j=>obtain ⟨t',rfl⟩:=ry; exact PySem.EqNone.eq_none_int (fin_bl I q (by simp))
    | str j=>obtain ⟨t',rfl⟩:=ry; exact PySem.EqNone.eq_none_str (fin_bl I q (by simp))
    | _=>exact absurd (show false=true from hs) Bool.false_ne_true
  | bl i =>
    cases rx
    cases y with
    | non=>cases ry; exact PySem.EqNone.eq_bool_none (fin_bl I q (by simp))
    | bl j=>cases ry; exact eq_bool (fin_bl I q dec_bl)
    | str j=>obtain ⟨t',rfl⟩:=ry; exact PySem.EqMixed.eq_bool_str (fin_bl I q (by simp))
    | _=>exact absurd (show false=true from hs) Bool.false_ne_true
  | int i =>
    obtain ⟨t,rfl⟩:=rx
    cases y with
    | non=>cases ry; exact PySem.EqNone.eq_int_none (fin_bl I q (by simp))
    | int j=>obtain ⟨t',rfl⟩:=ry; exact eq_int (fin_bl I q dec_int)
    | str j=>obtain ⟨t',rfl⟩:=ry; exact PySem.EqMixed.eq_int_str (fin_bl I q (by simp))
    | _=>exact absurd (show false=true from hs) Bool.false_ne_true
  | str i =>
    obtain ⟨t,rfl⟩:=rx
    cases y with
    | non=>cases ry; exact PySem.EqNone.eq_str_none (fin_bl I q (by simp))
    | bl j=>cases ry; exact PySem.EqMixed.eq_str_bool (fin_bl I q (by simp))
    | int j=>obtain ⟨t',rfl⟩:=ry; exact PySem.EqMixed.eq_str_int (fin_bl I q (by simp))
    | str j=>obtain ⟨t',rfl⟩:=ry; exact eq_str (fin_bl I q dec_str)
    | _=>exact absurd (show false=true from hs) Bool.false_ne_true
  | byt i =>
    obtain ⟨t,rfl⟩:=rx
    cases y with
    | byt j=>obtain ⟨t',rfl⟩:=ry; exact PySem.W.eq_bytes (fin_bl I q dec_byt)
    | _=>exact absurd (show false=true from hs) Bool.false_ne_true
  | _=>cases y <;> exact absurd (show false=true from hs) Bool.false_ne_true
theorem op_ne:OpR X (compareOp .NotEq) rNe:=by
  intro pins s σ H x y v u Q I rx ry h
  obtain ⟨hs,q⟩:=h
  cases x with
  | non =>
    cases rx
    cases y with
    | non=>cases ry; exact PySem.EqNone.ne_none_none (fin_bl I q (by simp))
    | bl j=>cases ry; exact PySem.EqNone.ne_none_bool (fin_bl I q (by simp))
    | int j=>obtain ⟨t',rfl⟩:=ry; exact PySem.EqNone.ne_none_int (fin_bl I q (by simp))
    | str j=>obtain ⟨t',rfl⟩:=ry; exact PySem.EqNone.ne_none_str (fin_bl I q (by simp))
    | _=>exact absurd (show false=true from hs) Bool.false_ne_true
  | bl i =>
    cases rx
    cases y with
    | non=>cases ry; exact PySem.EqNone.ne_bool_none (fin_bl I q (by simp))
    | bl j=>cases ry; exact ne_bool (fin_bl I q (congrArg not dec_bl))
    | str j=>obtain ⟨t',rfl⟩:=ry; exact PySem.EqMixed.ne_bool_str (fin_bl I q (by simp))
    | _=>exact absurd (show false=true from hs) Bool.false_ne_true
  | int i =>
    obtain ⟨t,rfl⟩:=rx
    cases y with
    | non=>cases ry; exact PySem.EqNone.ne_int_none (fin_bl I q (by simp))
    | int j=>obtain ⟨t',rfl⟩:=ry; exact ne_int (fin_bl I q (congrArg not dec_int))
    | str j=>obtain ⟨t',rfl⟩:=ry; exact PySem.EqMixed.ne_int_str (fin_bl I q (by simp))
    | _=>exact absurd (show false=true from hs) Bool.false_ne_true
  | str i =>
    obtain ⟨t,rfl⟩:=rx
    cases y with
    | non=>cases ry; exact PySem.EqNone.ne_str_none (fin_bl I q (by simp))
    | bl j=>cases ry; exact PySem.EqMixed.ne_str_bool (fin_bl I q (by simp))
    | int j=>obtain ⟨t',rfl⟩:=ry; exact PySem.EqMixed.ne_str_int (fin_bl I q (by simp))
    | str j=>obtain ⟨t',rfl⟩:=ry; exact ne_str (fin_bl I q (congrArg not dec_str))
    | _=>exact absurd (show false=true from hs) Bool.false_ne_true
  | byt i =>
    obtain ⟨t,rfl⟩:=rx
    cases y with
    | byt j=>obtain ⟨t',rfl⟩:=ry; exact PySem.W.ne_bytes (fin_bl I q (congrArg not dec_byt))
    | _=>exact absurd (show false=true from hs) Bool.false_ne_true
  | _=>cases y <;> exact absurd (show false=true from hs) Bool.false_ne_true
theorem op_lt:OpR X (compareOp .Lt) (rI0 fun i j=>.bl (decide (i<j))):=opB0 fun _ _ _ _ _ _ _ q=>lt_int q
theorem op_le:OpR X (compareOp .LtE) (rI0 fun i j=>.bl (decide (i≤j))):=opB0 fun _ _ _ _ _ _ _ q=>le_int q
theorem op_gt:OpR X (compareOp .Gt) (rI0 fun i j=>.bl (decide (j<i))):=opB0 fun _ _ _ _ _ _ _ q=>gt_int q
theorem op_isN:OpR X (compareOp .Is) (fun x y H Q=>y = .non∧Q (.bl (decide (x = .non))) H):=by
  intro pins s σ H x y v u Q I rx ry h
  obtain ⟨rfl,q⟩:=h
  cases ry
  refine is_none_gen (fin_bl I q ?_)
  cases x <;> first
    | (cases rx; rfl)
    | (obtain ⟨t,rfl⟩:=rx; rfl)
theorem op_notN:OpR X (compareOp .IsNot) (fun x y H Q=>y = .non∧Q (.bl (!decide (x = .non))) H):=by
  intro pins s σ H x y v u Q I rx ry h
  obtain ⟨rfl,q⟩:=h
  cases ry
  refine isnot_none_gen (fin_bl I q ?_)
  cases x <;> first
    | (cases rx; rfl)
    | (obtain ⟨t,rfl⟩:=rx; rfl)
theorem nomark (b:Expr) {op:CmpOp} (h:op≠.In:=by decide) (h2:op≠.NotIn:=by decide):behindInMarks op b=false:=by
  have e1:(op == CmpOp.In)=false:=by cases op <;> first | rfl | exact absurd rfl h
  have e2:(op == CmpOp.NotIn)=false:=by cases op <;> first | rfl | exact absurd rfl h2
  cases b <;> simp [behindInMarks,e1,e2]
theorem pe_cmpR {op:CmpOp} {r:R2} (ho:OpR X (compareOp op) r) (ha:PE X a ta) (hb:PE X b tb) (hm:behindInMarks op b=false):PE X (.Compare a [op] [b] pos) (tOp r ta tb):=by
  intro pins s σ H Q I h
  exact wpAny_Compare1 (binT ha hb I h fun v u s2 x y H2 I2 rx ry q=>ho pins s2 σ H2 x y v u Q I2 rx ry q) hm
def tTest (t:TE):TT:=fun σ H Q=>t σ H fun x H'=>∃ k,x = .bl k∧Q k H'
theorem pt_cmpR {op:CmpOp} {r:R2} (ho:OpR X (compareOp op) r) (ha:PE X a ta) (hb:PE X b tb) (hm:behindInMarks op b=false):PT X (.Compare a [op] [b] pos) (tTest (tOp r ta tb)):=by
  intro pins s σ H Q I h
  refine wpAny_isTrue_Compare1 (thn (ha pins s σ H _ I h) fun v s1 ⟨x,H1,I1,r1,q1⟩=>thn (hb pins s1 σ H1 _ I1 q1) fun u s2 ⟨y,H2,I2,r2,q2⟩ =>
    thn (ho pins s2 σ H2 x y v u _ I2 r1 r2 q2) fun c s3 ⟨z,H3,I3,r3,k,e,q3⟩=>?_) hm
  subst e
  cases r3
  exact wpAny_truthy_bool ⟨H3,I3,q3⟩
def tChain (r r':R2) (ta tb tc:TE):TE:=fun σ H Q=>ta σ H fun x H1=>tb σ H1 fun y H2=>r x y H2 fun z H3=>∃ k,z = .bl k ∧
  (if k=true then tc σ H3 fun w' H4=>r' y w' H4 Q else Q (.bl false) H3)
def TruV (K:PySem.W.Frag) (x:V) (H:Hp) (k:Bool):Prop :=
  match x with
  | .non=>k=false
  | .bl b=>k=b
  | .int i=>k=(i != 0)
  | .str y=>y.length≤sizeLine∧k=((y.length:Int) != 0)
  | .byt y=>y.size≤sizeLine∧k=((y.size:Int) != 0)
  | .ref p=>(∃ xs,SqL K H p xs∧k = !xs.isEmpty)∨(∃ xs,SqT K H p xs∧k = !xs.isEmpty)∨∃ kvs,H p=some (.dK kvs)∧k = !kvs.isEmpty
  | _=>False
theorem isEmpty_kv {κ:Type} {kvs:List (κ×V)} {vs:List (κ×Value)} (r:KV kvs vs):(!vs.isEmpty) = !kvs.isEmpty:=by
  cases r <;> rfl
theorem isEmpty_of {xs:List V} {its:List Value} (r:Vals xs its):(!its.toArray.isEmpty) = !xs.isEmpty:=by
  cases r <;> simp
theorem line63:(sizeLine:Nat)<2 ^ 63:=by rw [sizeLine_eq]; decide
theorem tru_ok:TruR X (fun x H Q=>∃ k,TruV X.K x H k∧Q k H):=by
  intro pins s σ H x v Q I rx h
  obtain ⟨k,e,q⟩:=h
  have hl:=line63
  have hs:sizeLine = 16777216:=sizeLine_eq
  cases x with
  | non =>
    cases rx
    have e':k=false:=e
    subst e'
    exact truthy_none ⟨H,I,q⟩
  | bl b =>
    cases rx
    have e':k=b:=e
    subst e'
    exact wpAny_truthy_bool ⟨H,I,q⟩
  | int i =>
    obtain ⟨t,rfl⟩:=rx
    have e':k=(i != 0):=e
    subst e'
    exact PySem.P.truthy_int ⟨H,I,q⟩
  | str y =>
    obtain ⟨t,rfl⟩:=rx
    obtain ⟨hy,e'⟩:y.length≤sizeLine∧k=((y.length:Int) != 0):=e
    subst e'
    exact PySem.P.truthy_str (by omega) ⟨H,I.tok _,q⟩
  | byt y =>
    obtain ⟨t,rfl⟩:=rx
    obtain ⟨hy,e'⟩:y.size≤sizeLine∧k=((y.size:Int) != 0):=e
    subst e'
    exact PySem.W.truthy_bytes (by omega) ⟨H,I.tok _,q⟩
  | ref p =>
    cases rx
    have e':(∃ xs,SqL X.K H p xs∧k = !xs.isEmpty)∨(∃ xs,SqT X.K H p xs∧k = !xs.isEmpty)∨∃ kvs,H p=some (.dK kvs)∧k = !kvs.isEmpty:=e
    rcases e' with ⟨xs,hx,e'⟩ | ⟨xs,hx,e'⟩ | ⟨kvs,hx,e'⟩
    · subst e'
      obtain ⟨its,r,pl,hz⟩:=I.list hx
      have hlen:=r.length
      exact wpAny_truthy_list pl.isList (by simp only [List.size_toArray]; omega) ⟨H,I.tok _,by rw [isEmpty_of r]; exact q⟩
    · subst e'
      obtain ⟨its,r,pl,hz⟩:=I.tuple hx
      have hlen:=r.length
      exact truthy_tuple pl (by simp only [List.size_toArray]; omega) ⟨H,I.tok _,by rw [isEmpty_of r]; exact q⟩
    · subst e'
      obtain ⟨hz,hS,vs,r,m⟩:kvs.length≤sizeLine∧(p == sysModules)=false∧∃ vs,KV kvs vs∧s.heap.DictOf (mixKind X.prog X.w) p vs:=I.hok p _ hx
      have hlen:kvs.length=vs.length:=Paired.length r
      exact wpAny_truthy_dict hS m (by omega) ⟨H,I.tok _,by rw [isEmpty_kv r]; exact q⟩
  | _=>exact (show False from e).elim
theorem pt_truth (ha:PE X a ta) (he:∀ whole,isTrue a X.env whole=(do let v ← whole; standAt a.pos; holding [v] (truthy v))) :
    PT X a (fun σ H Q=>ta σ H fun x H'=>∃ k,TruV X.K x H' k∧Q k H'):=by
  intro pins s σ H Q I h
  exact isTrue_plain (thn (ha pins s σ H _ I h) fun v s1 ⟨x,H1,I1,r1,q1⟩=>tru_ok pins s1 σ H1 x v Q I1 r1 q1) (he _)
theorem vals1 {x:V} {us:List Value} (r:Vals [x] us):∃ u,us = [u]∧RelV x u:=by
  cases r with
  | cons r1 r2=>cases r2; exact ⟨_,rfl,r1⟩
theorem vals2 {x y:V} {us:List Value} (r:Vals [x,y] us):∃ u w',us = [u,w']∧RelV x u∧RelV y w':=by
  cases r with
  | cons r1 r2 =>
    cases r2 with
    | cons r3 r4=>cases r4; exact ⟨_,_,rfl,r1,r3⟩
theorem call_abs:CallR X (.builtin "abs") (fun xs H Q=>∃ i,xs = [.int i]∧Q (.int (if i<0 then -i else i)) H):=by
  intro pins s σ H xs us Q I r h
  obtain ⟨i,rfl,q⟩:=h
  obtain ⟨u,rfl,t,rfl⟩:=vals1 r
  exact call_abs_int fun u tk=>⟨.int (if i<0 then -i else i),H,I.tok _,⟨_,rfl⟩,q⟩
theorem call_max2 (hc:X.calm=true):CallR X (.builtin "max") (fun xs H Q=>∃ i j,xs = [.int i,.int j]∧Q (.int (if j > i then j else i)) H):=by
  intro pins s σ H xs us Q I r h
  obtain ⟨i,j,rfl,q⟩:=h
  obtain ⟨u,w',rfl,⟨t,rfl⟩,⟨t',rfl⟩⟩:=vals2 r
  refine max_two_ints (I.ok.hd hc) fun h' tk k=>⟨_,H,I.kept k,?_,q⟩
  by_cases hj:j > i
  · rw [if_pos hj,if_pos hj]; exact ⟨_,rfl⟩
  · rw [if_neg hj,if_neg hj]; exact ⟨_,rfl⟩
theorem call_min2 (hc:X.calm=true):CallR X (.builtin "min") (fun xs H Q=>∃ i j,xs = [.int i,.int j]∧Q (.int (if j<i then j else i)) H):=by
  intro pins s σ H xs us Q I r h
  obtain ⟨i,j,rfl,q⟩:=h
  obtain ⟨u,w',rfl,⟨t,rfl⟩,⟨t',rfl⟩⟩:=vals2 r
  refine min_two_ints (I.ok.hd hc) fun h' tk k=>⟨_,H,I.kept k,?_,q⟩
  by_cases hj:j<i
  · rw [if_pos hj,if_pos hj]; exact ⟨_,rfl⟩
  · rw [if_neg hj,if_neg hj]; exact ⟨_,rfl⟩
end
end L2
namespace L2
open PySem PySem.Spec PyProof.Rows
structure ObjM (h:Heap) (x dx C:Addr) (mA:Str→Option Value):Prop where
  obj:h.get? x=some (PySem.W.instObj C dx)
  ns:h.Ns1 dx mA
  ne:dx≠x
theorem lookIn_ns {h:Heap} {dx:Addr} {mA:Str→Option Value} (n:h.Ns1 dx mA):∃ od,h.get? dx=some od∧∀ name,PySem.W.lookIn name od=some (mA name):=by
  obtain ⟨o,es,ep,ho,hd,hk,_,hm⟩:=n
  refine ⟨o,ho,fun name=>?_⟩
  have e:=hm name
  unfold nsFind findBy at e
  rw [← Array.find?_toList] at e
  unfold PySem.W.lookIn
  rw [hd]
  dsimp only
  split
  · rename_i y q
    rw [q] at e
    exact congrArg some e
  · rename_i q
    rw [q] at e
    have a:es.toList.any (·.refKey)=false:=by
      rw [List.any_eq_false]
      intro y hy
      obtain ⟨z,t,hkey⟩:=hk y (Array.mem_toList_iff.mp hy)
      simp [DictEntry.refKey,hkey]
    have a':¬ es.toList.any (·.refKey)=true:=by rw [a]; exact Bool.false_ne_true
    rw [if_neg a']
    exact congrArg some e
theorem ObjM.look {h:Heap} {x dx C:Addr} {mA:Str→Option Value} (I:ObjM h x dx C mA):∃ od,PySem.W.InstAt h x (PySem.W.instObj C dx) C (some od)∧∀ name,PySem.W.lookIn name od=some (mA name) :=
  let ⟨od,ho,hl⟩:=lookIn_ns I.ns
  ⟨od,⟨I.obj,rfl,rfl,ho⟩,hl⟩
section
variable {prog:Program} {w:World} {A:Around} {E:Value→Shared→Prop} {s:Shared} {K:PySem.W.Frag} {x dx C f:Addr} {mA:Str→Option Value} {name:Str} {v:Value}
theorem get_map {expr:Bool} {Q:Value→Shared→Prop} (X:K.In s.heap) (I:ObjM s.heap x dx C mA) (hg:PySem.W.plainGet K C name=true) (hh:PySem.W.hasDictIn K C=true)
    (ha:PySem.W.findIn K (.ref C) name=some none) (hv:mA name=some v) (hv':PySem.W.handedIn v=true) (h:Q v { s with toks:=s.toks+1 }) :
    wpAny (model prog w) A (getAttr (.ref x) name expr) Q E s:=by
  obtain ⟨od,J,hl⟩:=I.look
  exact PySem.W.get_value X J (PySem.W.plainGet_of hg).1 (PySem.W.findObj_own hh ha rfl (by rw [hl,hv])) hv' h
theorem get_meth {pl:Sem Bool} {Q:Value×List Value→Shared→Prop} (X:K.In s.heap) (I:ObjM s.heap x dx C mA) (hg:PySem.W.plainGet K C name=true)
    (hf:PySem.W.findIn K (.ref C) name=some (some (.ref f))) (ht:PySem.W.isFn K (.ref f)=true) (hv:mA name=none) (h:Q (.ref f,[.ref x]) s) :
    wpAny (model prog w) A (getMethod (.ref x) name pl) Q E s:=by
  obtain ⟨od,J,hl⟩:=I.look
  exact PySem.W.method_fn X J (PySem.W.plainGet_of hg).1 (PySem.W.plainGet_of hg).2 hf (beq_iff_eq.mp ht) (by show (PySem.W.lookIn name od).map (·.isSome)=some false; rw [hl,hv]; rfl) h
theorem set_map {ns:List Str} {Q:Unit→Shared→Prop} (X:K.In s.heap) (I:ObjM s.heap x dx C mA)
    (hs:PySem.W.findIn K (.ref C) "__setattr__" = some (some (.builtin "object.__setattr__"))) (hp:PySem.W.plainOver K C=true) (ht:PySem.W.takerIn K C name=some none) (hh:PySem.W.hasDictIn K C=true)
    (hw:PySem.Within mA ns) (hsz:ns.length≤sizeLine)
    (h:∀ h',ObjM h' x dx C (fun y=>if y=name then some v else mA y)→Heap.SameBut dx s.heap h'→Q () { s with heap:=h',toks:=s.toks+2 }) :
    wpAny (model prog w) A (setAttr (.ref x) name v) Q E s:=by
  obtain ⟨od,J,hl⟩:=I.look
  refine PySem.W.set_plain X J hs (PySem.W.osa_open (s:={ s with toks:=s.toks+1 }) (r:=none) X J hp ht fun b=>?_)
  obtain ⟨cd,hc,hd'⟩:=PySem.W.any_some hh
  have hx:s.heap.get? x=some ⟨.ref C,some dx,.plain,#[]⟩:=I.obj
  refine wpAny_bind (wpAny_pure (wpAny_bind (wpAny_bind (wpAny_loadPart hx (wpAny_bind (PySem.W.Looks.here (s:={ s with toks:=s.toks+1 }) (PySem.W.looks_clsIn X hc) ?_))))))
  rw [hd']
  refine wpAny_pure (a:=some dx) (wpAny_bind (wpAny_pure (wpAny_bind ?_)))
  refine wpAny_nsSet1 (s:={ s with toks:=s.toks+1 }) I.ns fun h' hn2 hs2=>?_
  obtain ⟨oD,esD,epD,hoD,hdD,hcD⟩:=hn2.count (PySem.Within.cons name v hw)
  refine wpAny_bind (wpAny_lookBehind hoD (by rw [hdD]; exact pastItsLine_dict (Nat.le_trans hcD (by rw [List.length_cons]; omega))) ?_)
  exact wpAny_pure (h _ ⟨(hs2.2 _ (Ne.symm I.ne)).trans I.obj,hn2,I.ne⟩ hs2)
theorem make_map {R:Result→Shared→Prop} {vs:List Value} {kw:List (Str×Value)} (X:K.In s.heap) (hm:PySem.W.makesIn K C=true)
    (hi:PySem.W.findIn K (.ref C) "__init__" = some (some (.ref f))) (hf:PySem.W.typeIn K (.ref f)=some (.type "function"))
    (h:codeAny (model prog w) (A.under (.builtin "type.__call__" ⟨.ref C :: vs,kw⟩)) (.call (.ref f) ⟨.ref (s.heap.objs.size+1) :: vs,kw⟩) (PySem.W.InitBack (s.heap.objs.size+1) R)
      { s with heap:=(s.heap.push PySem.W.emptyDict).push (PySem.W.instObj C s.heap.objs.size) }) :
    codeAny (model prog w) A (.call (.ref C) ⟨vs,kw⟩) R s:=by
  obtain ⟨hh,g,d,t,os⟩:=s
  exact PySem.W.make_core (PySem.W.makes_of X hm) (PySem.W.looks_findIn X hi) (fun self=>PySem.W.bind_fn X self hf) (.inl rfl) h
end
def putF (f:Str) (v:V):List (Str×V)→List (Str×V)
  | []=>[(f,v)]
  | (g,x) :: r=>if g=f then (g,v) :: r else (g,x) :: putF f v r
theorem lookup_putF (f g:Str) (v:V):∀ fs:List (Str×V),(putF f v fs).lookup g=if g=f then some v else fs.lookup g
  | []=>by
    show List.lookup g [(f,v)] = _
    by_cases h:g=f
    · have hb:(g == f)=true:=beq_iff_eq.mpr h
      simp only [List.lookup,hb,if_pos h]
    · have hb:(g == f)=false:=beq_eq_false_iff_ne.mpr h
      simp only [List.lookup,hb,if_neg h]
  | (k,x) :: r=>by
    have ih:=lookup_putF f g v r
    rw [show putF f v ((k,x) :: r)=(if k=f then (k,v) :: r else (k,x) :: putF f v r) from rfl]
    by_cases hk:k=f
    · rw [if_pos hk]
      by_cases h:g=k
      · have hb:(g == k)=true:=beq_iff_eq.mpr h
        simp only [List.lookup,hb,if_pos (h.trans hk)]
      · have hb:(g == k)=false:=beq_eq_false_iff_ne.mpr h
        simp only [List.lookup,hb,if_neg (fun e:g=f=>h (e.trans hk.symm))]
    · rw [if_neg hk]
      by_cases h:g=k
      · have hb:(g == k)=true:=beq_iff_eq.mpr h
        simp only [List.lookup,hb,if_neg (fun e:g=f=>hk (h.symm.trans e))]
      · have hb:(g == k)=false:=beq_eq_false_iff_ne.mpr h
        simp only [List.lookup,hb]
        exact ih
theorem keys_putF (f:Str) (v:V):∀ fs:List (Str×V),f∈(putF f v fs).map (·.1)∧∀ g,g∈fs.map (·.1)→g∈(putF f v fs).map (·.1)
  | []=>⟨by simp [putF],fun g h=>by simp at h⟩
  | (k,x) :: r=>by
    obtain ⟨i1,i2⟩:=keys_putF f v r
    rw [show putF f v ((k,x) :: r)=(if k=f then (k,v) :: r else (k,x) :: putF f v r) from rfl]
    by_cases hk:k=f
    · rw [if_pos hk]
      subst hk
      exact ⟨by simp,fun g h=>by simpa using h⟩
    · rw [if_neg hk]
      refine ⟨?_,fun g h=>?_⟩
      · rw [List.map_cons]
        exact List.mem_cons_of_mem _ i1
      · rw [List.map_cons] at h ⊢
        rcases List.mem_cons.mp h with e | e
        · exact List.mem_cons.mpr (.inl e)
        · exact List.mem_cons_of_mem _ (i2 g e)
theorem length_putF (f:Str) (v:V):∀ fs:List (Str×V),(putF f v fs).length≤fs.length+1
  | []=>by simp [putF]
  | (k,x) :: r=>by
    have ih:=length_putF f v r
    rw [show putF f v ((k,x) :: r)=(if k=f then (k,v) :: r else (k,x) :: putF f v r) from rfl]
    by_cases hk:k=f
    · rw [if_pos hk,List.length_cons,List.length_cons]; omega
    · rw [if_neg hk,List.length_cons,List.length_cons]; omega
theorem RelO.some_of {v:V} {o:Option Value} (r:RelO (some v) o):∃ u,o=some u∧RelV v u:=by
  cases o with
  | none=>exact (show False from r).elim
  | some u=>exact ⟨u,rfl,r⟩
theorem RelO.none_of {o:Option Value} (r:RelO none o):o=none:=by
  cases o with
  | none=>rfl
  | some u=>exact (show False from r).elim
theorem handed_of {v:V} {u:Value} (r:RelV v u):PySem.W.handedIn u=true:=by
  cases v with
  | non=>cases (show u=Value.none from r); rfl
  | bl b=>cases (show u=Value.bool b from r); rfl
  | int i=>obtain ⟨t,e⟩:=(show ∃ t,u=Value.int i t from r); cases e; rfl
  | str x=>obtain ⟨t,e⟩:=(show ∃ t,u=Value.str x t from r); cases e; rfl
  | byt b=>obtain ⟨t,e⟩:=(show ∃ t,u=Value.bytes b t from r); cases e; rfl
  | flt b=>obtain ⟨t,e⟩:=(show ∃ t,u=Value.float b t from r); cases e; rfl
  | ref a=>cases (show u=Value.ref a from r); rfl
  | ty n=>cases (show u=Value.type n from r); rfl
section
variable {P:Program} {w:World} {H H':Hp} {h h':Heap} {a C dx:Addr} {fs fs':List (Str×V)}
theorem ins_get (hok:HOk P w H h) (e:H a=some (.ins C dx fs)):∃ mA,ObjM h a dx C mA∧(∀ f,RelO (fs.lookup f) (mA f))∧PySem.Within mA (fs.map (·.1))∧fs.length≤1000∧H dx=some (.own a):=by
  obtain ⟨d,z,ne,ob,mA,n,r,q⟩:=(show ObjOk P w H h a (.ins C dx fs) from hok a _ e)
  exact ⟨mA,⟨ob,n,ne⟩,r,q,z,d⟩
end
structure Cls (K:PySem.W.Frag) (C:Addr):Prop where
  pg:PySem.W.plainGet K C Str.empty=true
  hd:PySem.W.hasDictIn K C=true
  po:PySem.W.plainOver K C=true
  sa:PySem.W.findIn K (.ref C) "__setattr__" = some (some (.builtin "object.__setattr__"))
theorem Cls.get {K:PySem.W.Frag} {C:Addr} (c:Cls K C) (f:Str):PySem.W.plainGet K C f=true:=c.pg
def NoAttr (K:PySem.W.Frag) (C:Addr) (f:Str):Prop:=PySem.W.findIn K (.ref C) f=some none
theorem NoAttr.taker {K:PySem.W.Frag} {C:Addr} {f:Str} (n:NoAttr K C f):PySem.W.takerIn K C f=some none:=by
  unfold PySem.W.takerIn
  rw [show PySem.W.findIn K (.ref C) f=some none from n]
  rfl
structure Meth (K:PySem.W.Frag) (C:Addr) (m:Str) (f:Addr):Prop where
  at_:PySem.W.findIn K (.ref C) m=some (some (.ref f))
  fn:PySem.W.isFn K (.ref f)=true
  kp:PySem.W.keepIn K (.ref f)=true
section
variable {X:Cx} {pins:List (Addr×Obj)} {σ:St} {H:Hp} {s:Shared} {a C dx:Addr} {fs:List (Str×V)} {f:Str} {v:V} {A:Around} {E:Value→Shared→Prop}
theorem getattr_ok {b:Bool} {Q:Value→Shared→Prop} (I:Inv X pins σ H s) (e:H a=some (.ins C dx fs)) (c:Cls X.K C) (n:NoAttr X.K C f) (l:fs.lookup f=some v)
    (h:∀ u s',Inv X pins σ H s'→RelV v u→Q u s'):wpAny (model X.prog X.w) A (getAttr (.ref a) f b) Q E s:=by
  obtain ⟨mA,O,r,_,_,_⟩:=ins_get I.hok e
  obtain ⟨u,hu,ru⟩:=RelO.some_of (v:=v) (o:=mA f) (by rw [← l]; exact r f)
  exact get_map I.kIn O (c.get f) c.hd n hu (handed_of ru) (h u _ (I.tok _) ru)
theorem getmeth_ok {m:Str} {g:Addr} {pl:Sem Bool} {Q:Value×List Value→Shared→Prop} (I:Inv X pins σ H s) (e:H a=some (.ins C dx fs)) (c:Cls X.K C) (k:Meth X.K C m g) (l:fs.lookup m=none)
    (h:Q (.ref g,[.ref a]) s):wpAny (model X.prog X.w) A (getMethod (.ref a) m pl) Q E s:=by
  obtain ⟨mA,O,r,_,_,_⟩:=ins_get I.hok e
  have hn:mA m=none:=RelO.none_of (by rw [← l]; exact r m)
  exact get_meth I.kIn O (c.get m) k.at_ k.fn hn h
theorem setattr_ok {y:V} {u:Value} {Q:Unit→Shared→Prop} (I:Inv X pins σ H s) (e:H a=some (.ins C dx fs)) (c:Cls X.K C) (n:NoAttr X.K C f) (hl:fs.length<1000) (ry:RelV y u)
    (h:∀ s',Inv X pins σ (upd H a (.ins C dx (putF f y fs))) s'→Q () s'):wpAny (model X.prog X.w) A (setAttr (.ref a) f u) Q E s:=by
  obtain ⟨mA,O,r,wi,_,ho⟩:=ins_get I.hok e
  have hz:(fs.map (·.1)).length≤sizeLine:=by rw [List.length_map,sizeLine_eq]; omega
  refine set_map I.kIn O c.sa c.po n.taker c.hd wi hz fun h' O' sb=>h _ ?_
  have hd:∃ o,h'.get? dx=some o:=let ⟨o,_,_,e',_⟩:=O'.ns; ⟨o,e'⟩
  refine I.write (x:=a) (e:=dx) (by rw [e]; exact True.intro) (.inr ho) (fun b q hb z=>(sb.2 b hb).trans z) hd ?_
  refine ⟨by rw [upd_ne O.ne]; exact ho,?_,O.ne,O'.obj,_,O'.ns,fun g=>?_,fun g hg=>?_⟩
  · have:=length_putF f y fs; omega
  · show RelO ((putF f y fs).lookup g) (if g=f then some u else mA g)
    rw [lookup_putF]
    by_cases q:g=f
    · rw [if_pos q,if_pos q]; exact ry
    · rw [if_neg q,if_neg q]; exact r g
  · by_cases q:g=f
    · rw [q]; exact (keys_putF f y fs).1
    · refine (keys_putF f y fs).2 g (wi g fun z=>hg ?_)
      show (if g=f then some u else mA g)=none
      rw [if_neg q]; exact z
theorem Inv.made (I:Inv X pins σ H s):Inv X pins σ (upd (upd H s.heap.objs.size (.own (s.heap.objs.size+1))) (s.heap.objs.size+1) (.ins C s.heap.objs.size []))
    { s with heap:=(s.heap.push PySem.W.emptyDict).push (PySem.W.instObj C s.heap.objs.size) }:=by
  have e1:(s.heap.push PySem.W.emptyDict).get? s.heap.objs.size=some PySem.W.emptyDict:=Heap.get?_push_size s.heap rfl
  have e2:((s.heap.push PySem.W.emptyDict).push (PySem.W.instObj C s.heap.objs.size)).get? (s.heap.objs.size+1)=some (PySem.W.instObj C s.heap.objs.size):=by
    have:=Heap.get?_push_size (s.heap.push PySem.W.emptyDict) (o:=PySem.W.instObj C s.heap.objs.size) rfl
    rwa [Heap.size_push] at this
  have e3:(s.heap.push PySem.W.emptyDict).Ns s.heap.objs.size (fun _=>none):=⟨PySem.W.emptyDict,#[],_,e1,rfl,(fun e he=>absurd he (by simp)),fun _=>rfl⟩
  have I1:=I.laid (a:=s.heap.objs.size) (o:=.own (s.heap.objs.size+1)) (h':=s.heap.push PySem.W.emptyDict) (t':=s.toks) (fun b u q=>Heap.get?_push_of_some _ q) (Nat.le_refl _) ⟨_,e1⟩
  refine I1.laid (a:=s.heap.objs.size+1) (o:=.ins C s.heap.objs.size []) (t':=s.toks) (fun b u q=>Heap.get?_push_of_some _ q) (Nat.le_of_eq (Heap.size_push _ _)) ?_
  have ne:s.heap.objs.size≠s.heap.objs.size+1:=Nat.ne_of_lt (Nat.lt_succ_self _)
  refine ⟨by rw [upd_ne ne,upd_same],Nat.zero_le _,ne,e2,fun _=>none,(Heap.Ns1.of_empty e3).at fun o q=>Heap.get?_push_of_some _ q,fun _=>True.intro,fun y hy=>absurd rfl hy⟩
theorem attr_of {prog:Program} {w:World} {env:Env} {e:Expr} {f:Str} {pos:Pos} {s:Shared} {Q:Value→Shared→Prop} (hb:attributeBase e f env (eval e env)=eval e env)
    (h:wpAny (model prog w) A (eval e env) (fun o s₁=>wpAny (model prog w) A (getAttr o f true) Q E s₁) E s):wpAny (model prog w) A (eval (.Attribute e f pos) env) Q E s :=
  Attribute_any_ h (by rw [arm_eval_Attribute,hb])
end
def tFld (K:PySem.W.Frag) (ta:TE) (f:Str):TE:=fun σ H Q=>ta σ H fun x H1=>∃ a C dx fs v,x = .ref a∧H1 a=some (.ins C dx fs)∧Cls K C∧NoAttr K C f∧fs.lookup f=some v∧Q v H1
def sFld (K:PySem.W.Frag) (ta tv:TE) (f:Str):TS:=fun D σ H=>tv σ H fun y H1=>ta σ H1 fun x H2=>∃ a C dx fs,x = .ref a∧H2 a=some (.ins C dx fs)∧Cls K C∧NoAttr K C f∧fs.length<1000 ∧
  D.nx σ (upd H2 a (.ins C dx (putF f y fs)))
section
variable {X:Cx} {o e value:Expr} {f:Str} {pos pos' tpos:Pos} {ta tv:TE}
theorem pe_fld (he:PE X e ta) (hb:attributeBase e f X.env (eval e X.env)=eval e X.env):PE X (.Attribute e f pos) (tFld X.K ta f):=by
  intro pins s σ H Q I h
  refine attr_of hb (thn (he pins s σ H _ I h) fun u s1 ⟨x,H1,I1,rx,a,C,dx,fs,v,ex,ea,c,n,l,q⟩=>?_)
  subst ex
  obtain rfl:u=Value.ref a:=rx
  exact getattr_ok I1 ea c n l fun u' s2 I2 ru=>⟨v,H1,I2,ru,q⟩
theorem ps_fld (ha:PE X o ta) (hv:PE X value tv) (hs:swapsWith value (some (.Attribute o f pos')) pos.line X.env=pure false):PS X (.Assign [.Attribute o f pos'] value pos) (sFld X.K ta tv f):=by
  intro pins s σ H D I h
  refine plainObj_wpAny_Assign_Attribute (thn (hv pins s σ H _ I h) fun u s1 ⟨y,H1,I1,ry,q⟩=>thn (ha pins s1 σ H1 _ I1 q) fun ov s2 ⟨x,H2,I2,rx,a,C,dx,fs,ex,ea,c,n,l,q2⟩=>?_) hs
  subst ex
  obtain rfl:ov=Value.ref a:=rx
  exact setattr_ok I2 ea c n l ry fun s3 I3=>⟨σ,_,I3,q2⟩
end
section
variable {X:Cx} {pins:List (Addr×Obj)} {σ:St} {H:Hp} {s:Shared} {A:Around} {E:Value→Shared→Prop} {Q:Value→Shared→Prop} {c:Value} {b:Bool}
end
end L2
namespace L2
open PySem PySem.Spec PyProof.Rows
structure Room (k:Nat) (A:Around):Prop where
  hd:A.handled=none
  dp:A.depth+3*k+5<recursionLimit
  un:A.units+16*k+200<cLine
theorem Room.mono {j k:Nat} {A:Around} (r:Room k A) (h:j≤k):Room j A:=⟨r.hd,by have:=r.dp; omega,by have:=r.un; omega⟩
theorem Room.deeper {k:Nat} {A:Around} (r:Room (k+1) A) (env:Env):Room k (A.deeper env) :=
  ⟨r.hd,by have:=r.dp; show A.depth+1+3*k+5 < _; omega,by have:=r.un; show A.units+3+16*k+200 < _; omega⟩
theorem make_depth {A:Around} {C:Addr} {us:List Value} {kw:List (Str×Value)}:(A.under (.builtin "type.__call__" ⟨.ref C :: us,kw⟩)).depth=A.depth+1:=by
  first | rfl | simp [Around.under,Code.weight,Code.isCreation,Code.isGuard,Code.isCaller,Code.frames,Code.isFrame,guardIds]
theorem make_units {A:Around} {C:Addr} {us:List Value} {kw:List (Str×Value)}:(A.under (.builtin "type.__call__" ⟨.ref C :: us,kw⟩)).units=A.units+1:=by
  first | rfl | simp [Around.under,Code.cUnits,Code.frames,Code.isFrame]
theorem Room.make {k:Nat} {A:Around} (r:Room (k+1) A) (C:Addr) (us:List Value) (kw:List (Str×Value)):Room k (A.under (.builtin "type.__call__" ⟨.ref C :: us,kw⟩)) :=
  ⟨r.hd,by have:=r.dp; rw [make_depth]; omega,by have:=r.un; rw [make_units]; omega⟩
theorem Room.depth {k:Nat} {A:Around} (r:Room k A):A.depth<recursionLimit:=by have:=r.dp; omega
theorem Room.units {k:Nat} {A:Around} (r:Room k A):A.units+64<cLine:=by have:=r.un; omega
def tNil:TA:=fun _ H Q=>Q [] H
def tCons (ta:TE) (tr:TA):TA:=fun σ H Q=>ta σ H fun x H1=>tr σ H1 fun xs H2=>Q (x :: xs) H2
section
variable {X:Cx} {e:Expr} {es:List Expr} {te:TE} {t:TA} {pos:Pos}
theorem pa_nil:PA X [] tNil:=fun _ _ _ _ H Q I h=>Calls.spliced_nil ⟨[],H,I,.nil,h⟩
theorem pa_cons (ha:PE X e te) (hr:PA X es t) (hs:starEach (e :: es) X.env=(false,eval e X.env) :: starEach es X.env:=by rfl):PA X (e :: es) (tCons te t):=by
  intro pos pins s σ H Q I h
  rw [hs]
  show wpAny _ _ (spliced ((false,eval e X.env) :: backTo pos (starEach es X.env))) _ _ s
  refine Calls.spliced_cons (thn (ha pins s σ H _ I h) fun u s1 ⟨x,H1,I1,r1,q1⟩=>?_)
  exact thn (hr pos pins s1 σ H1 _ I1 q1) fun us s2 ⟨xs,H2,I2,r2,q2⟩=>⟨x :: xs,H2,I2,.cons r1 r2,q2⟩
def tTup (t:TA):TE:=fun σ H Q=>t σ H fun xs H1=>xs.length≤sizeLine∧∀ p,H1 p=none→Q (.ref p) (upd H1 p (.tup xs))
def tLst (t:TA):TE:=fun σ H Q=>t σ H fun xs H1=>xs.length≤sizeLine∧∀ p,H1 p=none→Q (.ref p) (upd H1 p (.lst xs))
theorem pe_tup {x1} (h:PA X es t):PE X (.Tuple es x1 pos) (tTup t):=by
  intro pins s σ H Q I hq
  refine wpAny_Tuple_spliced (thn (h pos pins s σ H _ I hq) fun us s1 ⟨xs,H1,I1,r,z,q⟩=>⟨by rw [← r.length]; exact z,?_⟩)
  have hf:H1 s1.heap.objs.size=none:=I1.hok.fresh (Nat.le_refl _)
  refine ⟨.ref s1.heap.objs.size,upd H1 s1.heap.objs.size (.tup xs),I1.laid (t':=s1.toks) (fun b u e=>Heap.get?_push_of_some _ e) (Nat.le_refl _) ?_,rfl,q _ hf⟩
  exact ⟨z,us,r,⟨_,Heap.get?_push_size _ rfl,rfl,_,rfl⟩⟩
theorem pe_lst (h:PA X es t):PE X (.List es pos) (tLst t):=by
  intro pins s σ H Q I hq
  refine wpAny_List_spliced (thn (h pos pins s σ H _ I hq) fun us s1 ⟨xs,H1,I1,r,z,q⟩=>⟨by rw [← r.length]; exact z,?_⟩)
  have hf:H1 s1.heap.objs.size=none:=I1.hok.fresh (Nat.le_refl _)
  refine ⟨.ref s1.heap.objs.size,upd H1 s1.heap.objs.size (.lst xs),I1.laid (t':=s1.toks) (fun b u e=>Heap.get?_push_of_some _ e) (Nat.le_refl _) ?_,rfl,q _ hf⟩
  exact ⟨z,us,0,r,Heap.get?_push_size _ rfl⟩
end
abbrev Sp:=List V→Hp→VK→XK→Prop
abbrev CXT:=List Env→Hp→Shared→XK→Value→Shared→Prop
structure Env0 (P:Program) (w:World) (K:PySem.W.Frag) (mg:Str→Option Value) (base:Heap) (A:Around) (outer:List Env) (s:Shared) (H:Hp):Prop where
  frames:A.frames=some outer
  mod:Mod K mg base
  bs:∀ b o,base.get? b=some o→s.heap.get? b=some o∧H b=none
  bsz:base.objs.size≤s.heap.objs.size
  funs:s.heap.FunFrames base outer
  frf:∀ b∈frs outer,H b=none
  hok:HOk P w H s.heap
  bare:AllBare s.gens
def CE (outer:List Env) (P:Program) (w:World) (H:Hp) (s:Shared) (Q:VK) (u:Value) (s':Shared):Prop :=
  ∃ v H',s'.os=s.os∧AllBare s'.gens∧Un (frs outer) [] H H' s.heap s'.heap∧HOk P w H' s'.heap∧RelV v u∧Q v H'
def CR (CX:CXT) (outer:List Env) (P:Program) (w:World) (H:Hp) (s:Shared) (Q:VK) (E:XK) (r:Result) (s':Shared):Prop :=
  match r with
  | .ok (.ret u)=>CE outer P w H s Q u s'
  | .ok _=>False
  | .error e=>CX outer H s E e s'
structure FnOk (P:Program) (w:World) (K:PySem.W.Frag) (mg:Str→Option Value) (base:Heap) (CX:CXT) (k:Nat) (f:Addr) (fd:FuncData) (ps:List Str) (sp:Sp):Prop where
  len:∀ vs H Q E,sp vs H Q E→vs.length=ps.length
  run:∀ (A:Around) (outer:List Env) (s:Shared) (H:Hp) (args:Args) (us:List Value) (vs:List V) (Q:VK) (E:XK),Room k A→Env0 P w K mg base A outer s H→BindsTo s fd args (ps.zip us)→Vals vs us→sp vs H Q E →
    codeAny (model P w) A (.call (.ref f) args) (CR CX outer P w H s Q E) s
theorem Env0.make {P:Program} {w:World} {K:PySem.W.Frag} {mg:Str→Option Value} {base:Heap} {A:Around} {outer:List Env} {s:Shared} {H:Hp} (e:Env0 P w K mg base A outer s H) (C:Addr) (us:List Value) (kw:List (Str×Value)) :
    Env0 P w K mg base (A.under (.builtin "type.__call__" ⟨.ref C :: us,kw⟩)) outer s H:=⟨by first | exact e.frames | (simpa [Around.under,Code.envs,Code.isFrame,pushEnvs] using e.frames),e.mod,e.bs,e.bsz,e.funs,e.frf,e.hok,e.bare⟩
section
variable {X:Cx} {pins:List (Addr×Obj)} {σ:St} {H:Hp} {s s':Shared}
theorem Inv.env0 (I:Inv X pins σ H s):Env0 X.prog X.w X.K X.mg X.base X.A X.stack s H :=
  ⟨I.ok.frames,I.ok.mod,I.bs,Nat.le_trans I.ok.bsz I.sz,I.stack,I.stkFree,I.hok,I.bare⟩
theorem Inv.after {Q:VK} {u:Value} (I:Inv X pins σ H s) (h:CE X.stack X.prog X.w H s Q u s'):EP X pins σ Q u s':=by
  obtain ⟨v,H',os,bare,un,hok,r,q⟩:=h
  obtain ⟨hh,g,d,t,os'⟩:=s'
  obtain rfl:os'=s.os:=os
  exact ⟨v,H',I.call (h':=hh) (g':=g) (d':=d) (t':=t) (ch:=[]) un hok bare (fun b z=>absurd z (by simp)),r,q⟩
end
def tCall (sp:Sp) (dvs:List V) (E:XK) (t:TA):TE:=fun σ H Q=>t σ H fun vs H1=>sp (vs++dvs) H1 Q E
def Binds (K:PySem.W.Frag) (fd:FuncData) (ps:List Str) (ds:List Value):Prop :=
  ∀ (s:Shared) (us:List Value),K.In s.heap→(us++ds).length=ps.length→BindsTo s fd ⟨us,[]⟩ (ps.zip (us++ds))
theorem Binds.all {K:PySem.W.Frag} {fd:FuncData} {ps:List Str} (h:∀ us:List Value,us.length=ps.length→bindArgs fd ⟨us,[]⟩ = pure (ps.zip us)):Binds K fd ps []:=fun s us _ hl=>by
  rw [List.append_nil] at hl ⊢
  exact .of_eq (h us hl)
section
variable {X:Cx} {CX:CXT} {k:Nat} {f C:Addr} {fd:FuncData} {ps:List Str} {sp:Sp} {dvs:List V} {ds:List Value} {E:XK} {x m:Str} {p pos apos:Pos} {e o:Expr} {es:List Expr} {ta:TE} {t:TA}
structure Mk (K:PySem.W.Frag) (C f:Addr):Prop where
  makes:PySem.W.makesIn K C=true
  init:PySem.W.findIn K (.ref C) "__init__" = some (some (.ref f))
  fn:PySem.W.isFn K (.ref f)=true
  kp:PySem.W.keepIn K (.ref C)=true
end
section
variable {X:Cx} {CX:CXT} {k:Nat} {f C:Addr} {fd:FuncData} {ps ks:List Str} {sp:Sp} {E:XK} {x m:Str} {p pos apos kpos:Pos} {e o:Expr} {es:List Expr} {kws:List Keyword} {te ta:TE} {t tk:TA} {nm:Option Str}
variable {g:List Value→List Value→List Value} {gV:List V→List V→List V}
end
structure FnScope (N P:List Str) (sc:Scope):Prop where
  kind:sc.kind = .function
  co:sc.isCoroutine=false
  gen:sc.isGenerator=false
  nd:N.Nodup
  pre:N.take P.length=P
  par:∀ x∈P,sc.names.lookup x=some .local∨sc.names.lookup x=some .cell
  nofree:∀ y∈sc.names,y.2≠.free
theorem bindL_out {kindOf:Str→Option NameKind} {x:Str}:∀ {binds:List (Str×Value)} {m:Str→Option Value},(∀ v,(x,v) ∉ binds)→bindL kindOf binds m x=m x
  | [],_,_=>rfl
  | (n,v) :: r,m,h=>by
    unfold bindL
    rw [bindL_out fun w hw=>h w (List.mem_cons_of_mem _ hw)]
    split
    · have:x≠n:=by rintro rfl; exact h v List.mem_cons_self
      simp [this]
    · rfl
theorem bindC_out {kindOf:Str→Option NameKind} {x:Str}:∀ {binds:List (Str×Value)} {m:Str→Option Value},(∀ v,(x,v) ∉ binds)→bindC kindOf binds m x=m x
  | [],_,_=>rfl
  | (n,v) :: r,m,h=>by
    unfold bindC
    rw [bindC_out fun w hw=>h w (List.mem_cons_of_mem _ hw)]
    split
    · rfl
    · have:x≠n:=by rintro rfl; exact h v List.mem_cons_self
      simp [this]
theorem bindL_get {kindOf:Str→Option NameKind} {x:Str} {v:Value}:∀ {P:List Str} {vs:List Value} {i:Nat} {m:Str→Option Value},P.Nodup→P[i]? = some x→vs[i]? = some v→kindOf x=some .local →
    bindL kindOf (P.zip vs) m x=some v
  | [],_,_,_,_,h,_,_=>by simp at h
  | _ :: _,[],_,_,_,_,h,_=>by simp at h
  | p :: P,w :: vs,0,m,nd,h1,h2,hk=>by
    simp at h1 h2; subst h1; subst h2
    show bindL kindOf ((p,w) :: P.zip vs) m p = _
    unfold bindL
    rw [bindL_out fun v hv=>(List.nodup_cons.mp nd).1 (List.of_mem_zip hv).1,if_pos hk]
    simp
  | p :: P,w :: vs,i+1,m,nd,h1,h2,hk=>by
    show bindL kindOf ((p,w) :: P.zip vs) m x = _
    unfold bindL
    exact bindL_get (i:=i) (List.nodup_cons.mp nd).2 (by simpa using h1) (by simpa using h2) hk
theorem bindC_get {kindOf:Str→Option NameKind} {x:Str} {v:Value}:∀ {P:List Str} {vs:List Value} {i:Nat} {m:Str→Option Value},P.Nodup→P[i]? = some x→vs[i]? = some v→kindOf x≠some .local →
    bindC kindOf (P.zip vs) m x=some v
  | [],_,_,_,_,h,_,_=>by simp at h
  | _ :: _,[],_,_,_,_,h,_=>by simp at h
  | p :: P,w :: vs,0,m,nd,h1,h2,hk=>by
    simp at h1 h2; subst h1; subst h2
    show bindC kindOf ((p,w) :: P.zip vs) m p = _
    unfold bindC
    rw [bindC_out fun v hv=>(List.nodup_cons.mp nd).1 (List.of_mem_zip hv).1,if_neg hk]
    simp
  | p :: P,w :: vs,i+1,m,nd,h1,h2,hk=>by
    show bindC kindOf ((p,w) :: P.zip vs) m x = _
    unfold bindC
    exact bindC_get (i:=i) (List.nodup_cons.mp nd).2 (by simpa using h1) (by simpa using h2) hk
def start (N:List Str) (vs:List V):St:=vs.map some++List.replicate (N.length-vs.length) none
def cxOf (CX:CXT) (P:Program) (w:World) (K:PySem.W.Frag) (mg:Str→Option Value) (base:Heap) (N:List Str) (qual:Str) (scope:Scope) (f:Addr) (cd:Value) (A:Around) (outer:List Env) (s:Shared) (H:Hp) (E:XK):Cx where
  prog:=P
  w:=w
  K:=K
  mg:=mg
  base:=base
  A:=A.deeper (envOfC qual scope s.heap.objs.size f cd)
  N:=N
  s₀:=s
  H₀:=H
  env:=envOfC qual scope s.heap.objs.size f cd
  outer:=outer
  stack:=envOfC qual scope s.heap.objs.size f cd :: outer
  ex:=[]
  calm:=true
  fn:=fun _=>true
  pn:=[]
  xe:=fun e s'=>wpAny (model P w) (A.deeper (envOfC qual scope s.heap.objs.size f cd)) (leaving (envOfC qual scope s.heap.objs.size f cd) e) (fun _ s''=>CX outer H s E e s'') (fun e' s''=>CX outer H s E e' s'') s'
theorem cell_has {sc:Scope} {n:Nat} {x:Str} (h:sc.names.lookup x=some .cell):∃ c,(cellsFrom n sc.names []).lookup x=some c:=by
  have q:=PySem.W.cellsFrom_some sc.names n [] (.inl h)
  exact Option.isSome_iff_exists.mp q
theorem inv_start {CX:CXT} {P:Program} {w:World} {K:PySem.W.Frag} {mg:Str→Option Value} {base:Heap} {N ps:List Str} {qual:Str} {scope:Scope} {f:Addr} {cd:Value} {A:Around} {outer:List Env} {s s1:Shared} {H:Hp} {E:XK} {us:List Value} {vs:List V}
    (S:FnScope N ps scope) (hd:A.handled=none) (e0:Env0 P w K mg base A outer s H) (hl:vs.length=ps.length) (r:Vals vs us)
    (x:InCallC s s.heap.objs.size (bindL (envOfC qual scope s.heap.objs.size f cd).kindOf (ps.zip us) fun _=>none) (cellsFrom (s.heap.objs.size+1) scope.names []) (bindC (envOfC qual scope s.heap.objs.size f cd).kindOf (ps.zip us) fun _=>none) s1) :
    Inv (cxOf CX P w K mg base N qual scope f cd A outer s H E) [] (start N vs) H s1:=by
  have hpl:ps.length≤N.length:=by have:=congrArg List.length S.pre; rw [List.length_take] at this; omega
  obtain ⟨h1,tk,rfl,hk⟩:=x.done
  have noA:∀ b:Addr,b ∉ (cxOf CX P w K mg base N qual scope f cd A outer s H E).ex:=fun b z=>absurd (show b∈([]:List Addr) from z) (by simp)
  refine ⟨⟨e0.mod,S.kind,rfl,rfl,Nat.le_refl _,fun y z c h1 h2=>?_,fun y hy=>?_,fun y c _ h=>?_,fun _=>hd,Around.frames_deeper e0.frames,.inr ⟨rfl,rfl⟩,fun b z=>absurd z (noA b),e0.bs,e0.bsz,fun b _ _=>noA b,fun b z=>absurd z (noA b),e0.funs,e0.frf⟩,
    rfl,e0.bare,Un.kept hk,⟨_,x.toInCall.ns,fun i y v h1 h2 h3=>?_⟩,fun y c h=>⟨_,x.cell y c h⟩,e0.hok.fresh (Nat.le_refl _),fun y c h=>?_,fun p hp=>absurd (show p∈([]:List (Addr×Obj)) from hp) (by simp),e0.hok.kept hk,?_⟩
  · exact name_of_addr x.apart (PySem.mem_of_lookup h1) (PySem.mem_of_lookup h2)
  · have hy:scope.names.lookup y=some .cell∨scope.names.lookup y=some .free:=hy
    rcases hy with hy | hy
    · exact cell_has hy
    · exact absurd rfl (S.nofree _ (PySem.mem_of_lookup hy))
  · exact Nat.le_of_lt (x.above y c (PySem.mem_of_lookup h))
  · have hi:i<vs.length:=by
      unfold start at h2
      by_cases hi:i<vs.length
      · exact hi
      · rw [List.getElem?_append_right (by simpa using hi)] at h2
        rw [List.getElem?_replicate] at h2
        split at h2 <;> cases h2
    have ha:vs[i]? = some v:=by
      unfold start at h2
      rw [List.getElem?_append_left (by simpa using hi),List.getElem?_map] at h2
      cases e:vs[i]? with
      | none=>rw [e] at h2; cases h2
      | some a=>rw [e] at h2; cases h2; rfl
    obtain ⟨u,hu,rv⟩:=r.get ha
    have hp:ps[i]? = some y:=by
      rw [← S.pre,List.getElem?_take_of_lt (by omega)]; exact h1
    have ndP:ps.Nodup:=by rw [← S.pre]; exact S.nd.sublist (List.take_sublist _ _)
    refine ⟨u,rv,?_⟩
    rcases S.par y (List.mem_of_getElem? hp) with k | k
    · exact .inl ⟨k,bindL_get ndP hp hu k⟩
    · obtain ⟨c,e⟩:=cell_has (n:=s.heap.objs.size+1) k
      refine .inr ⟨.inl k,c,e,?_⟩
      have q:=x.cell y c e
      rw [bindC_get ndP hp hu (by show scope.names.lookup y≠_; rw [k]; decide)] at q
      exact q
  · exact e0.hok.fresh (Nat.le_of_lt (x.above y c (PySem.mem_of_lookup h)))
  · unfold start
    show _=N.length
    rw [List.length_append,List.length_map,List.length_replicate]
    omega
theorem fn_of {CX:CXT} {P:Program} {w:World} {K:PySem.W.Frag} {mg:Str→Option Value} {base:Heap} {k:Nat} {f:Addr} {name qual:Str} {params:Arguments} {body:List Stmt} {scope:Scope} {dV kV doc pm cdv ct oc:Value} {an od:Option Addr}
    {osl:Array (Option Value)} {N ps:List Str} {sp:Sp} (lk:K.lookup f=some ⟨oc,od,.func (PySem.W.fnOf name qual params body scope dV kV doc pm an cdv ct),osl⟩) (hcd:PySem.W.codeIn K cdv qual=true) (S:FnScope N ps scope)
    (len:∀ vs H Q E,sp vs H Q E→vs.length=ps.length)
    (hbody:∀ (A:Around) (outer:List Env) (s:Shared) (H:Hp) (vs:List V) (Q:VK) (E:XK),Room k (A.deeper (envOfC qual scope s.heap.objs.size f cdv))→sp vs H Q E →
      ∃ t,PSs (cxOf CX P w K mg base N qual scope f cdv A outer s H E) body t∧t { nx:=fun _ H'=>Q .non H',rt:=Q } (start N vs) H) :
    FnOk P w K mg base CX (k+1) f (PySem.W.fnOf name qual params body scope dV kV doc pm an cdv ct) ps sp:=by
  refine ⟨len,fun A outer s H args us vs Q E hr e0 hb r hsp=>?_⟩
  have hl:=len _ _ _ _ hsp
  have KX:K.In s.heap:=e0.mod.kin.keeps fun b o e=>(e0.bs b o e).1
  have lim:s.heap.NoLimit:=e0.mod.nolimit.keeps fun b o e=>(e0.bs b o e).1
  have hkind:∀ y∈ps.zip us,scope.names.lookup y.1=some .local∨(scope.names.lookup y.1=some .cell∧((cellsFrom (s.heap.objs.size+1) scope.names []).lookup y.1).isSome=true):=fun ⟨n,v⟩ hy=>by
    rcases S.par n (List.of_mem_zip hy).1 with q | q
    · exact .inl q
    · exact .inr ⟨q,PySem.W.cellsFrom_some _ _ _ (.inl q)⟩
  refine codeAny_call_function hr.depth (KX _ _ lk) rfl S.co S.gen rfl (PySem.W.codeRec_of KX hcd) (hb _ _ _ _ ?_)
  refine wpAny_newFunctionEnv_cells S.kind hkind fun env he s1 x=>?_
  subst he
  refine ⟨lim.keeps x.toInCall.keep,codeAny_func ?_⟩
  obtain ⟨t,ht,hq⟩:=hbody A outer s H vs Q E (hr.deeper _) hsp
  have I:Inv (cxOf CX P w K mg base N qual scope f cdv A outer s H E) [] (start N vs) H s1:=inv_start S hr.hd e0 hl r x
  refine wpAny_mono (ht [] s1 (start N vs) H _ I hq) (fun fl s' hs=>?_) fun e s' hs=>hs
  have fin:∀ {σ':St} {H':Hp} {v:V} {u:Value},Inv (cxOf CX P w K mg base N qual scope f cdv A outer s H E) [] σ' H' s'→RelV v u→Q v H'→CE outer P w H s Q u s' :=
    fun {σ' H' v u} J rv q=>⟨v,H',J.os,J.bare,J.base,J.hok,rv,q⟩
  cases fl with
  | ret u =>
    obtain ⟨v,σ',H',J,rv,q⟩:=hs
    exact fin J rv q
  | next =>
    obtain ⟨σ',H',J,q⟩:=hs
    exact fin (v:=V.non) (u:=Value.none) J rfl q
  | brk =>
    obtain ⟨_,_,_,q⟩:=hs
    exact False.elim q
  | cont =>
    obtain ⟨_,_,_,q⟩:=hs
    exact False.elim q
end L2
namespace L2
open PySem PySem.Spec PyProof.Rows
section
variable {X:Cx} {x:Str} {p pos:Pos} {e:Expr} {es:List Expr} {t:TA} {id T:String} {r:List V→Hp→VK→Prop}
def tCB (r:List V→Hp→VK→Prop) (t:TA):TE:=fun σ H Q=>t σ H fun vs H1=>r vs H1 Q
theorem pe_callB (hc:CallR X (.builtin id) r) (hg:Gl X x) (hm:X.mg x=none) (hv:bootBuiltins x=some (.builtin id)) (ha:PA X (e :: es) t) (hn:x ≠ "__name__" := by decide) (hdb:(x == ("__debug__" : Str))=false:=by decide)
    (he:starEach (e :: es) X.env=(false,eval e X.env) :: starEach es X.env:=by rfl) (hpl:(backTo pos (starEach es X.env)).any (·.1)=false:=by rfl):PE X (.Call (.Name x p) (e :: es) [] pos) (tCB r t):=by
  intro pins s σ H Q I h
  refine wpAny_Call_Name_kw (ld_blt I hg hm hv ?_ hn hdb)
  exact PyProof.Rows.callWith_builtin1 (thn (ha pos pins s σ H _ I h) fun us s1 ⟨vs,H1,I1,r1,q1⟩=>hc pins s1 σ H1 vs us Q I1 r1 q1) he hpl
theorem pe_callTy (hc:CallR X (.type T) r) (hg:Gl X x) (hm:X.mg x=none) (hv:bootBuiltins x=some (.type T)) (ha:PA X (e :: es) t) (hn:x ≠ "__name__" := by decide) (hdb:(x == ("__debug__" : Str))=false:=by decide)
    (he:starEach (e :: es) X.env=(false,eval e X.env) :: starEach es X.env:=by rfl) (hpl:(backTo pos (starEach es X.env)).any (·.1)=false:=by rfl):PE X (.Call (.Name x p) (e :: es) [] pos) (tCB r t):=by
  intro pins s σ H Q I h
  refine wpAny_Call_Name_kw (ld_blt I hg hm hv ?_ hn hdb)
  exact PyProof.Rows.callWith_type1 (thn (ha pos pins s σ H _ I h) fun us s1 ⟨vs,H1,I1,r1,q1⟩=>hc pins s1 σ H1 vs us Q I1 r1 q1) he hpl
end
end L2
namespace HT
open PySem PyProof.Rows
section
open PySem.SeqAt
open PySem.AutoSeq1 (wpAny_loadPart')
open PySem.MeetsSeq PySem.MeetsSeq2 PySem.MeetsSeq3
end
section
variable {prog:Program} {w:World} {A:Around} {E:Value→Shared→Prop} {s:Shared}
def sIx (n d:Nat):Option Int→Nat
  | none=>d
  | some v=>if v<0 then (v+(n:Int)).toNat else min v.toNat n
theorem sIx_none (n d:Nat):sIx n d none=d:=rfl
theorem sIx_nat (n d k:Nat):sIx n d (some (k:Int))=min k n:=by
  show (if (k:Int)<0 then ((k:Int)+(n:Int)).toNat else min (k:Int).toNat n)=min k n
  rw [if_neg (by omega),Int.toNat_natCast]
end
end HT
namespace L2
open PySem PySem.Spec PyProof.Rows
abbrev TO:=St→Hp→(Option Int→Hp→Prop)→Prop
def PO (X:Cx) (e:Option Expr) (t:TO):Prop :=
  ∀ (pins:List (Addr×Obj)) (s:Shared) (σ:St) (H:Hp) (Q:Option Int→Hp→Prop),Inv X pins σ H s→t σ H Q →
    wpAny (model X.prog X.w) X.A (evalPart e X.env) (fun u s'=>∃ o H',Inv X pins σ H' s'∧IsPart u o∧Q o H') X.xe s
def tNoPart:TO:=fun _ H Q=>Q none H
def tPart (t:TE):TO:=fun σ H Q=>t σ H fun x H1=>∃ i,x = .int i∧Q (some i) H1
theorem intsAre_of {ns:List Int}:∀ {us:List Value},Vals (ns.map V.int) us→IntsAre us ns:=by
  induction ns with
  | nil=>intro us r; rw [List.map_nil] at r; cases r; exact .nil
  | cons n ns ih =>
    intro us r
    rw [List.map_cons] at r
    cases r with
    | cons r1 r2 =>
      obtain ⟨t,e⟩:=r1
      subst e
      exact .cons n t (ih r2)
section
variable {X:Cx} {e:Expr} {te:TE} {lo hi:Option Expr} {tl th:TO} {pos p2:Pos}
theorem po_none:PO X none tNoPart:=by
  intro pins s σ H Q I h
  rw [evalPart_none]
  exact wpAny_pure ⟨none,H,I,.none,h⟩
theorem po_some (h:PE X e te):PO X (some e) (tPart te):=by
  intro pins s σ H Q I hw
  rw [evalPart_some]
  refine thn (h pins s σ H _ I hw) fun u s1 ⟨x,H1,I1,r1,q1⟩=>?_
  obtain ⟨i,rfl,q⟩:=q1
  obtain ⟨t,rfl⟩:=r1
  exact ⟨some i,H1,I1,.int i t,q⟩
def SlR (X:Cx) (r:V→Option Int→Option Int→Hp→VK→Prop):Prop :=
  ∀ (pins:List (Addr×Obj)) (s:Shared) (σ:St) (H:Hp) (x:V) (v vl vu:Value) (lo hi:Option Int) (sl:Addr) (Q:VK),Inv X pins σ H s→RelV x v→s.heap.IsSliceOf sl vl vu .none→IsPart vl lo→IsPart vu hi→r x lo hi H Q →
    ∃ T id,typeLookup (.type T) "__getitem__" = pure (some (.builtin id))∧s.TypeIs v T∧wpAny (model X.prog X.w) X.A (getItem v (.ref sl)) (EP X pins σ Q) X.xe s
def tSl (r:V→Option Int→Option Int→Hp→VK→Prop) (te:TE) (tl th:TO):TE:=fun σ H Q=>te σ H fun x H1=>tl σ H1 fun l H2=>th σ H2 fun u H3=>r x l u H3 Q
theorem pe_slice {r:V→Option Int→Option Int→Hp→VK→Prop} (hr:SlR X r) (he:PE X e te) (hl:PO X lo tl) (hu:PO X hi th):PE X (.Subscript e (.Slice lo hi none p2) pos) (tSl r te tl th):=by
  intro pins s σ H Q I h
  refine Subscript_ (thn (he pins s σ H _ I h) fun v s1 ⟨x,H1,I1,r1,q1⟩=>?_)
  refine wpAny_Slice (thn (hl pins s1 σ H1 _ I1 q1) fun vl s2 ⟨l,H2,I2,pl,q2⟩=>thn (hu pins s2 σ H2 _ I2 q2) fun vu s3 ⟨u,H3,I3,pu,q3⟩=>?_)
  rw [evalPart_none]
  refine wpAny_pure ?_
  have I4:Inv X pins σ H3 { s3 with heap:=s3.heap.push { cls:=.type "slice", data:=.fields #[vl,vu,.none] } }:=I3.kept (t':=s3.toks) fun b ob q=>Heap.get?_push_of_some _ q
  obtain ⟨T,id,hT,ht,hg⟩:=hr pins { s3 with heap:=s3.heap.push { cls:=.type "slice", data:=.fields #[vl,vu,.none] } } σ H3 x v vl vu l u s3.heap.objs.size Q I4 r1 (Heap.IsSliceOf.new ..) pl pu q3
  show wpAny (model X.prog X.w) X.A (subscriptTail e (.Slice lo hi none p2) v (.ref s3.heap.objs.size)) (EP X pins σ Q) X.xe { s3 with heap:=s3.heap.push { cls:=.type "slice", data:=.fields #[vl,vu,.none] } }
  exact tail_any (ops:=[.ref s3.heap.objs.size,v]) ht hT hg (by with_unfolding_all rfl)
def cutV (xs:List V) (lo hi:Option Int):List V:=(xs.drop (HT.sIx xs.length 0 lo)).take (HT.sIx xs.length xs.length hi-HT.sIx xs.length 0 lo)
theorem cutV_length (xs:List V) (lo hi:Option Int):(cutV xs lo hi).length≤xs.length:=by
  unfold cutV
  rw [List.length_take,List.length_drop]
  omega
end
end L2
namespace L2
open PySem PySem.Spec PyProof.Rows
def ixN (n:Nat) (i:Int):Option Nat:=if 0≤i then (if i<n then some i.toNat else none) else if -(n:Int)≤i then some (i+n).toNat else none
def atI {α:Type} (xs:List α) (i:Int):Option α:=(ixN xs.length i).bind fun j=>xs[j]?
theorem ixN_seq {n:Nat} {i:Int} {j:Nat} (h:ixN n i=some j):seqIndex? i n=some j∧j<n∧-(n:Int)≤i∧i<n:=by
  unfold ixN at h
  by_cases h0:0≤i
  · rw [if_pos h0] at h
    by_cases h1:i<n
    · rw [if_pos h1] at h
      have e:i.toNat=j:=Option.some.inj h
      exact ⟨by rw [seqIndex_of h0 h1,e],by omega,by omega,h1⟩
    · rw [if_neg h1] at h; cases h
  · rw [if_neg h0] at h
    by_cases h1:-(n:Int)≤i
    · rw [if_pos h1] at h
      have e:(i+n).toNat=j:=Option.some.inj h
      exact ⟨by rw [seqIndex_neg (by omega) h1,e],by omega,h1,by omega⟩
    · rw [if_neg h1] at h; cases h
theorem atI_get {α:Type} {xs:List α} {i:Int} {v:α} (h:atI xs i=some v):∃ j,seqIndex? i xs.length=some j∧xs[j]? = some v∧j<xs.length∧-(xs.length:Int)≤i∧i<xs.length:=by
  unfold atI at h
  cases e:ixN xs.length i with
  | none=>rw [e] at h; cases h
  | some j =>
    rw [e] at h
    obtain ⟨h1,h2,h3,h4⟩:=ixN_seq e
    exact ⟨j,h1,h,h2,h3,h4⟩
theorem atI_nat {α:Type} {xs:List α} {j:Nat} {v:α} (h:xs[j]? = some v):atI xs (j:Int)=some v:=by
  have hj:j<xs.length:=(List.getElem?_eq_some_iff.mp h).1
  have e:ixN xs.length (j:Int)=some j:=by
    unfold ixN
    rw [if_pos (by omega),if_pos (by omega)]; simp
  unfold atI; rw [e]; exact h
def PlainIx (b:Expr):Prop:=∀ o i,subscripted b false o i=operate [o,i] (getItem o i)
def IxR (X:Cx) (r:R2):Prop :=
  ∀ (value slice:Expr) (pins:List (Addr×Obj)) (s:Shared) (σ:St) (H:Hp) (x y:V) (v u:Value) (Q:VK),Inv X pins σ H s→RelV x v→RelV y u→r x y H Q →
    subscripted slice false v u=operate [v,u] (getItem v u)→wpAny (model X.prog X.w) X.A (subscriptTail value slice v u) (EP X pins σ Q) X.xe s
def MtR (X:Cx) (id:String) (r:V→List V→Hp→VK→Prop):Prop :=
  ∀ (pins:List (Addr×Obj)) (s:Shared) (σ:St) (H:Hp) (x:V) (xs:List V) (v:Value) (us:List Value) (Q:VK),Inv X pins σ H s→RelV x v→Vals xs us→r x xs H Q →
    wpAny (model X.prog X.w) X.A (call (.builtin id) (v :: us)) (EP X pins σ Q) X.xe s
section
variable {X:Cx} {a b:Expr} {ta tb:TE} {pos:Pos}
theorem pe_ix {r:R2} (hr:IxR X r) (ha:PE X a ta) (hb:PE X b tb) (hs:PlainIx b):PE X (.Subscript a b pos) (tOp r ta tb):=by
  intro pins s σ H Q I h
  exact Subscript_ (binT ha hb I h fun v u s2 x y H2 I2 rx ry q=>hr a b pins s2 σ H2 x y v u Q I2 rx ry q (hs _ _))
def rIxL (K:PySem.W.Frag):R2:=fun x y H Q=>∃ p xs i v,x = .ref p∧y = .int i∧SqL K H p xs∧atI xs i=some v∧Q v H
def rIxT (K:PySem.W.Frag):R2:=fun x y H Q=>∃ p xs i v,x = .ref p∧y = .int i∧SqT K H p xs∧atI xs i=some v∧Q v H
theorem ix_list:IxR X (rIxL X.K):=by
  intro value slice pins s σ H x y v u Q I rx ry h hs
  obtain ⟨p,xs,i,z,rfl,rfl,hq,he,q⟩:=h
  cases rx
  obtain ⟨t,rfl⟩:=ry
  obtain ⟨its,r,pl,hz⟩:=I.list hq
  obtain ⟨j,h1,h2,h3,h4,h5⟩:=atI_get he
  obtain ⟨w,ew,rw'⟩:=r.get h2
  have hl:=r.length
  have hn:=line63
  have fin:EP X pins σ Q w s:=⟨z,H,I,rw',q⟩
  by_cases h0:0≤i
  · have hj:i.toNat=j:=by
      rw [seqIndex_of h0 h5] at h1
      exact Option.some.inj h1
    exact item_listR pl.isList h0 (by omega) (by rw [hj]; simpa using ew) fin hs
  · have hj:(i+(its.toArray.size:Int)).toNat=j:=by
      rw [seqIndex_neg (by omega) h4] at h1
      rw [List.size_toArray,← hl]
      exact Option.some.inj h1
    exact subscriptTail_builtinR (x:=w) pl.isList.typeIs slot_list_getitem.lookup
      (wpAny_getItem_list_neg (Q:=fun r s'=>r=w∧EP X pins σ Q r s') pl.isList (by omega) (by rw [List.size_toArray] <;> omega) (by omega) (by rw [hj]; simpa using ew) ⟨rfl,fin⟩) hs
theorem ix_tup:IxR X (rIxT X.K):=by
  intro value slice pins s σ H x y v u Q I rx ry h hs
  obtain ⟨p,xs,i,z,rfl,rfl,hq,he,q⟩:=h
  cases rx
  obtain ⟨t,rfl⟩:=ry
  obtain ⟨its,r,pl,hz⟩:=I.tuple hq
  obtain ⟨j,h1,h2,h3,h4,h5⟩:=atI_get he
  obtain ⟨w,ew,rw'⟩:=r.get h2
  have hl:=r.length
  have hn:=line63
  have fin:EP X pins σ Q w s:=⟨z,H,I,rw',q⟩
  exact subscriptTail_builtinR (x:=w) pl.typeIs slot_tuple_getitem.lookup
    (getItem_tuple (j:=j) (Q:=fun r s'=>r=w∧EP X pins σ Q r s') pl (by omega) (by omega) (by rw [List.size_toArray,← hl]; exact h1) (by simpa using ew) ⟨rfl,fin⟩) hs
theorem slice_bounds (lo hi:Option Int) (n:Nat):(sliceBounds lo hi none n).1=((HT.sIx n 0 lo:Nat):Int)∧(sliceBounds lo hi none n).2.1=((HT.sIx n n hi:Nat):Int)∧(sliceBounds lo hi none n).2.2 = 1:=by
  refine ⟨?_,?_,rfl⟩
  · cases lo with
    | none=>simp [sliceBounds,HT.sIx]
    | some i =>
      simp only [sliceBounds,HT.sIx,Option.getD_none,show (1:Int) > 0 by decide,if_true]
      by_cases h:i<0
      · simp only [h,if_true] <;> omega
      · simp only [h,if_false] <;> omega
  · cases hi with
    | none=>simp [sliceBounds,HT.sIx]
    | some i =>
      simp only [sliceBounds,HT.sIx,Option.getD_none,show (1:Int) > 0 by decide,if_true]
      by_cases h:i<0
      · simp only [h,if_true] <;> omega
      · simp only [h,if_false] <;> omega
theorem slicePick_cut (its:List Value) (lo hi:Option Int):slicePick its.toArray lo hi none=((its.drop (HT.sIx its.length 0 lo)).take (HT.sIx its.length its.length hi-HT.sIx its.length 0 lo)).toArray:=by
  obtain ⟨h1,h2,h3⟩:=slice_bounds lo hi its.toArray.size
  unfold slicePick
  rw [h1,h2,h3]
  simp only [sliceRange_one,pick_run,List.size_toArray] <;> rfl
def rSlL (K:PySem.W.Frag):V→Option Int→Option Int→Hp→VK→Prop:=fun x lo hi H Q=>∃ a xs,x = .ref a∧SqL K H a xs∧∀ p,H p=none→Q (.ref p) (upd H p (.lst (cutV xs lo hi)))
theorem sl_list:SlR X (rSlL X.K):=by
  intro pins s σ H x v vl vu lo hi sl Q I rx hs pl pu h
  obtain ⟨a,xs,rfl,hx,q⟩:=h
  cases rx
  obtain ⟨its,r,ht,hz⟩:=I.list hx
  have hlen:=r.length
  refine ⟨"list", _,slot_list_getitem.lookup,ht.isList.typeIs,?_⟩
  refine wpAny_getItem_list_slice ht.isList hs pl pu .none (by simp) ?_ (by rw [List.size_toArray] <;> omega)
  rw [slicePick_cut,← hlen]
  refine ⟨.ref s.heap.objs.size,_,I.laid (t':=s.toks) (o:=.lst (cutV xs lo hi)) (fun b ob q=>Heap.get?_push_of_some _ q) (Nat.le_refl _) ?_,rfl,q _ (I.hok.fresh (Nat.le_refl _))⟩
  exact ⟨Nat.le_trans (cutV_length xs lo hi) hz,_,0,(r.drop (HT.sIx xs.length 0 lo)).take (HT.sIx xs.length xs.length hi-HT.sIx xs.length 0 lo),Heap.get?_push_size _ rfl⟩
theorem call_len_seq:CallR X (.builtin "len") (fun xs H Q=>∃ p ys,xs = [.ref p]∧(SqL X.K H p ys∨SqT X.K H p ys)∧Q (.int ys.length) H):=by
  intro pins s σ H xs us Q I r h
  obtain ⟨p,ys,rfl,hq,q⟩:=h
  obtain ⟨u,rfl,rx⟩:=vals1 r
  cases rx
  have hn:=line63
  rcases hq with hq | hq
  · obtain ⟨its,r',pl,hz⟩:=I.list hq
    have hlen:=r'.length
    exact Calls.call_len_list pl.isList (by simp only [List.size_toArray] <;> omega) ⟨.int ys.length,H,I.tok _,⟨s.toks+1,by rw [List.size_toArray,hlen]⟩,q⟩
  · obtain ⟨its,r',pl,hz⟩:=I.tuple hq
    have hlen:=r'.length
    exact len_tuple pl (by simp only [List.size_toArray] <;> omega) ⟨.int ys.length,H,I.tok _,⟨s.toks+1,by rw [List.size_toArray,hlen]⟩,q⟩
theorem call_list_of:CallR X (.type "list") (fun xs H Q=>∃ p ys,xs = [.ref p]∧(SqL X.K H p ys∨SqT X.K H p ys)∧∀ l,H l=none→Q (.ref l) (upd H l (.lst ys))):=by
  intro pins s σ H xs us Q I r h
  obtain ⟨p,ys,rfl,hq,q⟩:=h
  obtain ⟨u,rfl,rx⟩:=vals1 r
  cases rx
  have fin:∀ (its:List Value),Vals ys its→ys.length≤sizeLine→∀ (h':Heap) (c':Nat),(∀ b o',s.heap.get? b=some o'→h'.get? b=some o') →
      h'.get? s.heap.objs.size=some { cls:=.type "list", dict:=none,data:=.seq its.toArray c',slots:=#[] }→EP X pins σ Q (.ref s.heap.objs.size) { s with heap:=h' }:=fun its r' hz h' c' kp e =>
    ⟨.ref s.heap.objs.size,_,I.laid (t':=s.toks) kp (Nat.le_refl _) (show ObjOk X.prog X.w _ h' _ (.lst ys) from ⟨hz,its,c',r',e⟩),rfl,q _ (I.hok.fresh (Nat.le_refl _))⟩
  rcases hq with hq | hq
  · obtain ⟨its,r',pl,hz⟩:=I.list hq
    have hlen:=r'.length
    obtain ⟨o,ho,hc,n,hd⟩:=pl.isList
    exact call_list_seq p (.inl rfl) ho hc hd (fun h' c' kp e=>fin its r' hz h' c' kp e) (by simp only [List.size_toArray] <;> omega)
  · obtain ⟨its,r',pl,hz⟩:=I.tuple hq
    have hlen:=r'.length
    obtain ⟨o,ho,hc,n,hd⟩:=pl
    exact call_list_seq p (.inr rfl) ho hc hd (fun h' c' kp e=>fin its r' hz h' c' kp e) (by simp only [List.size_toArray] <;> omega)
def tyV (K:PySem.W.Frag) (T:String) (x:V) (H:Hp):Prop:=match x with
  | .str _=>T = "str"
  | .int _=>T = "int"
  | .ref p=>(T = "list" ∧ ∃ xs,SqL K H p xs)∨(T = "tuple" ∧ ∃ o,K.lookup p=some o∧o.cls = .type "tuple" ∧ o.dict=none) ∨
      (T = "dict" ∧ ((∃ kvs,H p=some (.dK kvs))∨∃ kvs,H p=some (.dT kvs)))∨(T = "set" ∧ ∃ S n,H p=some (.set S n))
  | _=>False
theorem tyV_is {pins:List (Addr×Obj)} {σ:St} {H:Hp} {s:Shared} {T:String} {x:V} {v:Value} (I:Inv X pins σ H s) (r:RelV x v) (ty:tyV X.K T x H) :
    s.TypeIs v T∧∀ a,v = .ref a→∃ ob,s.heap.get? a=some ob∧ob.dict=none:=by
  cases x with
  | str z =>
    obtain ⟨t,rfl⟩:=r
    cases (show T = "str" from ty)
    exact ⟨typeIs_str s z t,fun _ e=>nomatch e⟩
  | int i =>
    obtain ⟨t,rfl⟩:=r
    cases (show T = "int" from ty)
    exact ⟨typeIs_int s i t,fun _ e=>nomatch e⟩
  | ref p =>
    cases r
    rcases ty with ⟨rfl,xs,hq⟩ | ⟨rfl,o,hk,hc,hd⟩ | ⟨rfl,hk⟩ | ⟨rfl,S,n,hk⟩
    · obtain ⟨its,_,pl,_⟩:=I.list hq
      refine ⟨pl.isList.typeIs,fun a e=>?_⟩
      cases e
      obtain ⟨o,n,e,c,hd,_⟩:=pl
      exact ⟨o,e,hd⟩
    · refine ⟨⟨o,I.kIn p o hk,hc⟩,fun a e=>?_⟩
      cases e
      exact ⟨o,I.kIn _ o hk,hd⟩
    · have z:∃ o,s.heap.get? p=some o∧o.ExactDict:=by
        rcases hk with ⟨kvs,hk⟩ | ⟨kvs,hk⟩
        · obtain ⟨_,_,_,_,o,_,_,e,ex,_⟩:=I.hok p _ hk
          exact ⟨o,e,ex⟩
        · obtain ⟨_,_,_,_,o,_,_,e,ex,_⟩:=I.hok p _ hk
          exact ⟨o,e,ex⟩
      obtain ⟨o,e,ex⟩:=z
      refine ⟨⟨o,e,ex.1⟩,fun a e2=>?_⟩
      cases e2
      exact ⟨o,e,ex.2.1⟩
    · obtain ⟨o,_,_,_,e,ex,_⟩:=I.hok p _ hk
      refine ⟨⟨o,e,ex.1⟩,fun a e2=>?_⟩
      cases e2
      exact ⟨o,e,ex.2.1⟩
  | _=>exact False.elim ty
def tBM0 (K:PySem.W.Frag) (T:String) (r:V→List V→Hp→VK→Prop) (to:TE):TE:=fun σ H Q=>to σ H fun x H1=>tyV K T x H1∧r x [] H1 Q
def tBM (K:PySem.W.Frag) (T:String) (r:V→List V→Hp→VK→Prop) (to:TE) (t:TA):TE:=fun σ H Q=>to σ H fun x H1=>tyV K T x H1∧t σ H1 fun xs H2=>r x xs H2 Q
variable {o e:Expr} {es:List Expr} {to:TE} {t:TA} {name:Str} {apos cpos:Pos} {T id:String} {r:V→List V→Hp→VK→Prop}
theorem pe_bm (pa:PlainAttrs T) (slot:Slot T name id) (hty:typeOf (.builtin id)=pure (.type "method_descriptor")) (hm:MtR X id r) (ho:PE X o to) (ha:PA X (e :: es) t)
    (hbase:attributeBase o name X.env (eval o X.env)=eval o X.env:=by rfl)
    (hfew:((backTo cpos (starEach (e :: es) X.env)).all (fun x=>!x.1) && (backToKw cpos (keywordEach [] X.env)).all (fun x=>x.1.isSome)
      && decide ((e :: es).length+([]:List Keyword).length+(if ([]:List Keyword).isEmpty then 0 else 1)<30))=true:=by rfl)
    (hline:(apos.endLine == cpos.line)=true:=by rfl) (hs:starEach (e :: es) X.env=(false,eval e X.env) :: starEach es X.env:=by rfl) (hplain:(backTo cpos (starEach es X.env)).any (·.1)=false:=by rfl) :
    PE X (.Call (.Attribute o name apos) (e :: es) [] cpos) (tBM X.K T r to t):=by
  intro pins s σ H Q I h
  refine wpAny_Call_method_late hbase hfew hline rfl (thn (ho pins s σ H _ I h) fun v s1 ⟨x,H1,I1,r1,ty,q1⟩=>?_)
  obtain ⟨h1,h2⟩:=tyV_is I1 r1 ty
  refine ⟨T,id,pa,slot,hty,h1,h2,?_⟩
  have hA:=ha cpos pins s1 σ H1 _ I1 q1
  rw [hs] at hA ⊢
  refine Calls.callWith_builtin (by show (false || (backTo cpos (starEach es X.env)).any (·.1))=false; rw [hplain] <;> rfl) (Calls.evalArgs_plain ?_)
  exact thn hA fun us s2 ⟨vs,H2,I2,r2,q2⟩=>hm pins s2 σ H2 x vs v us Q I2 r1 r2 q2
end
end L2
namespace L2
open PySem PySem.Spec PyProof.Rows
def MtM (X:Cx) (id:String) (r:V→List V→Hp→VK→Prop):Prop :=
  ∀ (pins:List (Addr×Obj)) (s:Shared) (σ:St) (H:Hp) (x:V) (xs:List V) (v:Value) (us:List Value) (Q:VK),Inv X pins σ H s→RelV x v→Vals xs us→r x xs H Q →
    wpAny (model X.prog X.w) X.A (call (.builtin id) (v :: us)) (EP X pins σ Q) X.xe s
theorem Vals.one:∀ {x:V} {us:List Value},Vals [x] us→∃ u,us = [u]∧RelV x u
  | _,_,.cons r .nil=>⟨_,rfl,r⟩
section
variable {X:Cx} {pins:List (Addr×Obj)} {σ:St} {H:Hp} {s:Shared} {l b:Addr} {xs ys zs:List V}
theorem Inv.lset {its its':List Value} {n:Nat} {f:Array Value→Array Value} {t':Nat} (I:Inv X pins σ H s) (hH:H l=some (.lst xs))
    (e:s.heap.get? l=some { cls:=.type "list", data:=.seq its.toArray n }) (hf:f its.toArray=its'.toArray) (hv:Vals ys its') (hz:ys.length≤sizeLine) :
    Inv X pins σ (upd H l (.lst ys)) { s with heap:=s.heap.update l (Obj.mapSeq f),toks:=t' }:=by
  have q:=PySem.IsL.update e f
  rw [hf] at q
  refine I.write (x:=l) (e:=l) (by rw [hH]; exact trivial) (.inl rfl) (fun b' u hb hu=>(Heap.get?_update_other s.heap (Obj.mapSeq f) (Ne.symm hb)).trans hu) ⟨_,q⟩ ?_
  exact ⟨hz,its',_,hv,q⟩
theorem Inv.lstM (I:Inv X pins σ H s) (hH:H l=some (.lst xs)):xs.length≤sizeLine∧∃ (its:List Value) (n:Nat),Vals xs its∧xs.length=its.length∧s.heap.get? l=some { cls:=.type "list", data:=.seq its.toArray n }:=by
  obtain ⟨z,its,n,r,e⟩:=I.hok l _ hH
  exact ⟨z,its,n,r,r.length,e⟩
theorem notLongL {n:Nat} (h:n≤sizeLine):Builtin.List.listTooLong n=false:=by
  unfold Builtin.List.listTooLong
  exact decide_eq_false (by omega)
end
section
variable {X:Cx}
def rAppend:V→List V→Hp→VK→Prop:=fun x vs H Q=>∃ l xs y,x = .ref l∧vs = [y]∧H l=some (.lst xs)∧xs.length<sizeLine∧Q .non (upd H l (.lst (xs++[y])))
theorem mt_append:MtM X "list.append" rAppend:=by
  intro pins s σ H x vs v us Q I rx rv h
  obtain ⟨l,xs,y,rfl,rfl,hH,hz,q⟩:=h
  cases rx
  obtain ⟨u,rfl,ru⟩:=rv.one
  obtain ⟨z,its,n,r,hl,e⟩:=I.lstM hH
  refine call_meets F.slot_list_append ⟨_,e,rfl⟩ F.entry_list_append (F.args_list_append_2 _ _) (PySem.list_append l its.toArray n u (by rw [List.size_toArray]; omega)) ⟨e,?_⟩
  refine ⟨.non,_,I.lset (its':=its++[u]) hH e (by simp) (r.append (.cons ru .nil)) ?_,rfl,q⟩
  rw [List.length_append,List.length_singleton]
  omega
def rExtend:V→List V→Hp→VK→Prop:=fun x vs H Q=>∃ l b xs zs,x = .ref l∧vs = [.ref b]∧H l=some (.lst xs)∧H b=some (.lst zs)∧xs.length+zs.length≤sizeLine∧Q .non (upd H l (.lst (xs++zs)))
theorem mt_extend:MtM X "list.extend" rExtend:=by
  intro pins s σ H x vs v us Q I rx rv h
  obtain ⟨l,b,xs,zs,rfl,rfl,hH,hB,hz,q⟩:=h
  cases rx
  obtain ⟨u,rfl,ru⟩:=rv.one
  cases ru
  obtain ⟨z,its,n,r,hl,e⟩:=I.lstM hH
  obtain ⟨z2,its2,n2,r2,hl2,e2⟩:=I.lstM hB
  have hsz:its.toArray.size+its2.toArray.size≤sizeLine:=by rw [List.size_toArray,List.size_toArray]; omega
  have hlong:¬ (!its.toArray.isEmpty && Builtin.List.listTooLong (its.toArray.size+its2.toArray.size))=true:=by
    rw [notLongL hsz,Bool.and_false]
    exact Bool.false_ne_true
  refine call_meets F.slot_list_extend ⟨_,e,rfl⟩ F.entry_list_extend (F.args_list_extend_2 _ _)
    (AutoSeq1.list_extend_list_list_0 l its.toArray n b its2.toArray n2 hlong (by rw [List.size_toArray]; omega) (by omega)) ⟨e,e2,?_⟩
  refine ⟨.non,_,I.lset (its':=its++its2) hH e (by simp) (r.append r2) ?_,rfl,q⟩
  rw [List.length_append]
  omega
end
section
variable {prog:Program} {w:World} {A:Around} {E:Value→Shared→Prop} {s:Shared}
end
section
variable {X:Cx}
end
end L2
namespace Att
open PySem PySem.W PySem.Calls PyProof.Rows
theorem ints_of_wellAll {P:Params} {h:Heap}:∀ (ns:List Int) (vs:List Value),WellAll P h vs (ns.map WData.int)→IntsAre vs ns:=by
  intro ns
  induction ns with
  | nil =>
    intro vs w
    rw [List.map_nil] at w
    cases w
    exact .nil
  | cons n ns ih =>
    intro vs w
    rw [List.map_cons] at w
    cases w with
    | cons a b =>
      cases a
      exact .cons _ _ (ih _ b)
theorem script_of {l:OpenLaw} {n:Nat} (hn:l.most=some n) {P:Params} {h:Heap} {args:List WData} {vals:List Value}
    (hpre:l.row.toRowW.claim.pre args=true) (hwl:WellAll P h vals args) :
    ∃ a vs ns,vals = [Value.ref a]∧args = [WData.list (ns.map WData.int)]∧h.get? a=some { cls:=.type "list", data:=.seq vs.toArray }∧IntsAre vs ns∧ns.length≤n:=by
  have hsh:WShape.hasAll [] args [.list .int] = true:=(pre_splitW hpre).1
  have hc:l.pre.holds [] { args:=args } = true:=(pre_splitW hpre).2
  obtain ⟨d,r,rfl,h1,h2⟩:=hasAllW_cons hsh
  obtain rfl:=hasAllW_nil h2
  obtain ⟨xs,rfl,h3⟩:=hasW_list h1
  obtain ⟨ns,rfl⟩:=items_int h3
  have hlen:ns.length≤n:=by
    unfold OpenLaw.pre at hc
    have h4:(WTm.not (.lt (.lit (.int (n:Int))) (.len (.arg 0)))).holds [] { args:=[.list (ns.map .int)] } = true:=by
      have h4:=(holds_andW hc).1
      rw [hn] at h4
      exact h4
    have h5:=condW_of h4 (w_not (w_lt w_lit (w_len_list (w_arg rfl))))
    rw [List.length_map] at h5
    refine Nat.le_of_not_lt fun q=>?_
    have q':(n:Int)<((ns.length:Nat):Int):=by omega
    first
      | (rw [decide_eq_true q'] at h5; exact absurd h5 (by decide))
      | (simp at h5; omega)
  cases hwl with
  | cons w1 w2 =>
    cases w2
    cases w1 with
    | list ho hall=>exact ⟨_,_,ns,rfl,rfl,ho,ints_of_wellAll ns _ hall,hlen⟩
theorem post_true (l:OpenLaw) (args:List WData):l.row.toRowW.claim.post args (.bool true) args=true :=
  postW_of (r:=l.row.toRowW) (X:=(true == true))
    (show WShape.has [] (.bool true) .bool=true by first | rfl | decide | simp [WShape.has,WShape.arms,WShape.armsAll])
    (show (WTm.eq .res (.lit (.bool true))).value [] { args:=args,res:=some (.bool true),after:=args } = some (.bool (true == true)) from w_eq_bool (w_res rfl) w_lit) rfl
theorem attach_call {l:OpenLaw} {n:Nat} {q:Program} {loose:List Str} {XP:(Str→Option Value)→Heap→Prop} {YP:World→Heap→Prop} {d:DefRec}
    (hn:l.most=some n) (hdf:d.params.defaults = [])
    (call:∀ (w:World) (s₀ s₁:Shared) (mg mb:Str→Option Value) (fa:Addr) (o:Obj) (pm cd doc:Value) (a:Addr) (vs:List Value) (ns:List Int),
      Ground q loose [] XP w s₀ mg mb s₁.heap→YP w s₁.heap →
      s₁.heap.get? fa=some o→o.data = .func (docDef d.name d.params d.body d.scope pm cd doc)→s₁.heap.CodeRec cd d.name→mg d.name=some (.ref fa) →
      s₁.heap.get? a=some { cls:=.type "list", data:=.seq vs.toArray }→IntsAre vs ns→ns.length≤n→s₁.gens = #[] →
      codeAny (model l.prog w) callerA (.call (.ref fa) ⟨[.ref a],[]⟩) (fun r s'=>r = .ok (.ret (.bool true))∧OldK s₁.heap s'.heap∧s'.os=s₁.os∧AllBare s'.gens) s₁) :
    WalkO q loose XP YP l.row.toRowW d [] (fun f vs=>PySem.call f vs):=by
  intro w s₀ s₁ mg mb G Y fa o pm cd doc dV kV ho hd hcd hD hmg hg args vals as hpre hlay hrd hwl hlo
  obtain rfl:dV = .none:=Dflts.none hD hdf
  obtain rfl:kV = .none:=Dflts.noKw hD
  obtain ⟨a,vs,ns,rfl,rfl,hobj,hints,hlen⟩:=script_of hn hpre hwl
  refine enter_call (codeAny_mono (call w s₀ s₁ mg mb fa o pm cd doc a vs ns G Y ho (fd_plain hd) hcd hmg hobj hints hlen hg) fun r s' hq=>?_)
  obtain ⟨rfl,h2,h3,h4⟩:=hq
  exact ⟨.inl ⟨.bool true,.bool true,[],rfl,fun _=>rfl,.bool true,post_true l _,fun _=>⟨List.Pairwise.nil,fun _ hm=>(nomatch hm)⟩⟩,h2,h3,h4⟩
section
variable {prog:Program} {w:World} {A:Around} {E:Value→Shared→Prop} {s:Shared} {K:Frag}
end
end Att
namespace L2
open PySem PySem.Spec PyProof.Rows
theorem vals_ints:∀ {vs:List Value} {ns:List Int},IntsAre vs ns→Vals (ns.map V.int) vs
  | _,_,.nil=>.nil
  | _,_,.cons n t h=>.cons ⟨t,rfl⟩ (vals_ints h)
def Only (H:Hp):Prop:=∀ b,H b=none∨∃ o xs,H b=some (.frz o (.lst xs))
theorem law_call {P:Program} {w:World} {K:PySem.W.Frag} {mg mb:Str→Option Value} {CX:CXT} {k:Nat} {fa a:Addr} {fd:FuncData} {x:Str} {sp:Sp} {s₁:Shared} {vs:List Value} {ns:List Int}
    (KX:K.In s₁.heap) (hns:s₁.heap.Ns mainGlobals mg) (hb:s₁.heap.Ns builtinsNs mb) (hbb:∀ x:Str,x ≠ "__name__" → mb x=bootBuiltins x) (hlim:s₁.heap.NoLimit) (hg:s₁.gens = #[])
    (ha:s₁.heap.get? a=some { cls:=.type "list", data:=.seq vs.toArray }) (hi:IntsAre vs ns) (hl:ns.length≤sizeLine) (hr:Room k callerA)
    (F:∀ base:Heap,K.In base→base.Ns mainGlobals mg→FnOk P w K mg base CX k fa fd [x] sp) (hbind:∀ (s:Shared) (u:Value),BindsTo s fd ⟨[u],[]⟩ [(x,u)])
    (hsp:∀ H:Hp,Only H→SqL K H a (ns.map V.int)→sp [.ref a] H (fun v _=>v = .bl true) fun _ _ _=>False)
    (hCX:∀ H e s',CX [] H s₁ (fun _ _ _=>False) e s'→False) :
    codeAny (model P w) callerA (.call (.ref fa) ⟨[.ref a],[]⟩) (fun r s'=>r = .ok (.ret (.bool true))∧OldK s₁.heap s'.heap∧s'.os=s₁.os∧AllBare s'.gens) s₁:=by
  have rv:=vals_ints hi
  have lenV:=hi.length
  have core:∀ H:Hp,Only H→SqL K H a (ns.map V.int)→HOk P w H s₁.heap→(∀ b,H b≠none→b=a)→(H a≠none→K.lookup a=none) →
      codeAny (model P w) callerA (.call (.ref fa) ⟨[.ref a],[]⟩) (fun r s'=>r = .ok (.ret (.bool true))∧OldK s₁.heap s'.heap∧s'.os=s₁.os∧AllBare s'.gens) s₁:=by
    intro H hO hS hok hA hK
    have base_of:∀ {b:Addr} {o:Obj},s₁.heap.get? b=some o→H b=none→(hidT s₁.heap H).get? b=some o:=fun e n=>hidT_get e n
    have noA:∀ {b:Addr} {o:Obj} {es:Array DictEntry} {ep:Nat},s₁.heap.get? b=some o→o.data = .dict es ep→H b=none:=fun {b o es ep} e d=>by
      cases q:H b with
      | none=>rfl
      | some u =>
        have e':b=a:=hA b (by rw [q]; simp)
        subst e'
        rw [ha] at e; cases e
        have d':Data.seq vs.toArray _=Data.dict es ep:=d
        cases d'
    have nsK:∀ {b:Addr} {m:Str→Option Value},s₁.heap.Ns b m→(hidT s₁.heap H).Ns b m:=fun {b m} ⟨o,es,ep,e,d,r⟩=>⟨o,es,ep,base_of e (noA e d),d,r⟩
    have hKb:K.In (hidT s₁.heap H):=fun b o e=>base_of (KX b o e) (by
      cases q:H b with
      | none=>rfl
      | some u =>
        have e':b=a:=hA b (by rw [q]; simp)
        subst e'
        rw [hK (by rw [q]; simp)] at e; cases e)
    have hM:Mod K mg (hidT s₁.heap H):=⟨hKb,nsK hns,⟨mb,nsK hb,hbb⟩,let ⟨mc,h1,h2⟩:=hlim; ⟨mc,nsK h1,h2⟩⟩
    have e0:Env0 P w K mg (hidT s₁.heap H) callerA [] s₁ H:=⟨rfl,hM,fun b o e=>of_hidT e,Nat.le_of_eq (hidT_size _ _),trivial,fun b hb=>absurd (show b∈([]:List Addr) from hb) (by simp),hok,.of_eq hg⟩
    refine codeAny_mono ((F _ hKb (nsK hns)).run callerA [] s₁ H ⟨[.ref a],[]⟩ [.ref a] [.ref a] _ _ hr e0 (hbind s₁ (.ref a)) (.cons rfl .nil) (hsp H hO hS)) fun r s' h=>?_
    cases r with
    | error e=>exact (hCX H e s' h).elim
    | ok fl =>
      cases fl with
      | next=>exact False.elim h
      | brk=>exact False.elim h
      | cont=>exact False.elim h
      | ret u =>
        obtain ⟨v,H',os,bare,un,hok',r',q⟩:=h
        have q':v = .bl true:=q
        subst q'
        obtain rfl:u=Value.bool true:=r'
        refine ⟨rfl,OldK.of_keep fun b o e=>?_,os,bare⟩
        cases q:H b with
        | none=>exact un.keep b o e q (by intro z; exact absurd (show b∈([]:List Addr) from z) (by simp)) (by simp)
        | some u =>
          rcases hO b with z | ⟨ob,xs,z⟩
          · rw [q] at z; cases z
          · have z2:=un.frzs b ob _ z
            obtain ⟨e1,_⟩:=hok b _ z
            obtain ⟨e2,_⟩:=hok' b _ z2
            rw [e] at e1; cases e1
            exact e2
  cases hk:K.lookup a with
  | some o =>
    have e:=KX a o hk
    rw [ha] at e
    cases e
    refine core (fun _=>none) (fun _=>.inl rfl) (.inr ⟨_,vs.toArray,_,hk,rfl,rfl,rfl,by rw [List.size_toArray,lenV]; exact hl,by simpa using rv⟩) (fun b u z=>by have z':(none:Option HO)=some u:=z; cases z') (fun b z=>absurd rfl z) fun z=>absurd rfl z
  | none =>
    refine core (fun b=>if b=a then some (.frz { cls:=.type "list", data:=.seq vs.toArray } (.lst (ns.map V.int))) else none) (fun b=>?_) (.inl (.inr ⟨{ cls:=.type "list", data:=.seq vs.toArray },if_pos rfl⟩)) (fun b u z=>?_) (fun b z=>?_) fun _=>hk
    · by_cases hb:b=a
      · exact .inr ⟨_,_,if_pos hb⟩
      · exact .inl (if_neg hb)
    · by_cases hb:b=a
      · have z':=(if_pos hb).symm.trans z
        cases z'
        subst hb
        exact ⟨ha,by rw [List.length_map]; exact hl,vs,_,rv,ha⟩
      · have z':=(if_neg hb).symm.trans z
        cases z'
    · by_cases hb:b=a
      · exact hb
      · exact absurd (if_neg hb) z
end L2
namespace L2
open PySem PySem.Spec PyProof.Rows
abbrev KOf {K:PySem.W.Frag} {h:Heap} (_:K.In h):PySem.W.Frag:=K
theorem walk_of {l:PySem.W.OpenLaw} {n k:Nat} {q:Program} {loose:List Str} {XP:(Str→Option Value)→Heap→Prop} {YP:World→Heap→Prop} {d:DefRec} {K:Params→PySem.W.Frag} {CX:World→CXT} {sp:World→Sp} {x:Str}
    (hn:l.most=some n) (hn2:n≤sizeLine) (hdf:d.params.defaults = []) (hr:Room k callerA)
    (hY:∀ (w:World) (h:Heap),YP w h→(K w.params).In h)
    (F:∀ (w:World) (mg:Str→Option Value) (fa:Addr) (h:Heap),(K w.params).In h→h.Ns mainGlobals mg→mg d.name=some (.ref fa) →
      ∃ fd:FuncData,(∀ (s:Shared) (u:Value),BindsTo s fd ⟨[u],[]⟩ [(x,u)]) ∧
        ∀ base:Heap,(K w.params).In base→base.Ns mainGlobals mg→FnOk l.prog w (K w.params) mg base (CX w) k fa fd [x] (sp w))
    (hsp:∀ (w:World) (H:Hp) (a:Addr) (ns:List Int),ns.length≤n→Only H→SqL (K w.params) H a (ns.map V.int)→sp w [.ref a] H (fun v _=>v = .bl true) fun _ _ _=>False)
    (hCX:∀ (w:World) (H:Hp) (s:Shared) (e:Value) (s':Shared),CX w [] H s (fun _ _ _=>False) e s'→False) :
    PySem.W.WalkO q loose XP YP l.row.toRowW d [] (fun f vs=>PySem.call f vs):=by
  refine Att.attach_call hn hdf fun w s₀ s₁ mg mb fa o pm cd doc a vs ns G Y ho hd hcd hmg hobj hints hlen hg=>?_
  have KX:=hY w _ Y
  obtain ⟨fd,hb,hF⟩:=F w mg fa _ KX G.T.g hmg
  exact law_call KX G.T.g G.T.b G.T.builtins G.T.nolimit hg hobj hints (Nat.le_trans hlen hn2) hr hF hb (fun H hO hS=>hsp w H a ns hlen hO hS) fun H e s'=>hCX w H s₁ e s'
end L2
namespace L2
open PySem PySem.Spec PyProof.Rows
def inClass (s:Stmt) (j:Nat):Stmt:=match s with
  | .ClassDef _ _ _ body _ _ _ _ _ _ _=>body.getD j (.Pass ⟨0,0,0,0⟩)
  | _=>.Pass ⟨0,0,0,0⟩
def defArgs (s:Stmt):Arguments:=match s with
  | .FunctionDef _ a _ _ _ _ _ _ _ _=>a
  | _=>{ posonlyargs:=[],args:=[],vararg:=none,kwonlyargs:=[],kw_defaults:=[],kwarg:=none,defaults:=[] }
def defBody (s:Stmt):List Stmt:=match s with
  | .FunctionDef _ _ b _ _ _ _ _ _ _=>b
  | _=>[]
def defScope (s:Stmt):Scope:=match s with
  | .FunctionDef _ _ _ _ _ _ sc _ _ _=>sc
  | _=>{ kind:=.function,names:=[],isGenerator:=false,isCoroutine:=false }
abbrev CX0:CXT:=fun _ _ _ _ _ _=>False
abbrev E0:XK:=fun _ _ _=>False
structure Fun (K:PySem.W.Frag) (x qual:Str) (st:Stmt) (f:Addr) (fd:FuncData):Prop where
  ex:∃ (oc:Value) (od:Option Addr) (kV doc pm:Value) (an:Option Addr) (cdv ct:Value) (osl:Array (Option Value)),
    fd=PySem.W.fnOf x qual (defArgs st) (defBody st) (defScope st) .none kV doc pm an cdv ct∧K.lookup f=some ⟨oc,od,.func fd,osl⟩∧PySem.W.codeIn K cdv qual=true
  kp:PySem.W.keepIn K (.ref f)=true
section
variable {P:Program} {w:World} {K:PySem.W.Frag} {mg:Str→Option Value} {base:Heap}
theorem Fun.ok {x qual:Str} {st:Stmt} {f:Addr} {fd:FuncData} {N ps:List Str} {k:Nat} {sp:Sp} (F:Fun K x qual st f fd) (S:FnScope N ps (defScope st)) (len:∀ vs H Q E,sp vs H Q E→vs.length=ps.length)
    (hbody:∀ (cdv:Value) (A:Around) (outer:List Env) (s:Shared) (H:Hp) (vs:List V) (Q:VK) (E:XK),Room k (A.deeper (envOfC qual (defScope st) s.heap.objs.size f cdv))→sp vs H Q E →
      ∃ t,PSs (cxOf CX0 P w K mg base N qual (defScope st) f cdv A outer s H E).nox (defBody st) t∧t { nx:=fun _ H'=>Q .non H',rt:=Q } (start N vs) H):FnOk P w K mg base CX0 (k+1) f fd ps sp:=by
  obtain ⟨oc,od,kV,doc,pm,an,cdv,ct,osl,rfl,lk,hcd⟩:=F.ex
  refine fn_of lk hcd S len fun A outer s H vs Q E hr hsp=>?_
  obtain ⟨t,h,q⟩:=hbody cdv A outer s H vs Q E hr hsp
  exact ⟨t,h.nox,q⟩
theorem Fun.binds {x qual:Str} {st:Stmt} {f:Addr} {fd:FuncData} {ps:List Str} (F:Fun K x qual st f fd)
    (h:∀ (kV doc pm:Value) (an:Option Addr) (cdv ct:Value) (us:List Value),us.length=ps.length→bindArgs (PySem.W.fnOf x qual (defArgs st) (defBody st) (defScope st) .none kV doc pm an cdv ct) ⟨us,[]⟩ = pure (ps.zip us)):Binds K fd ps []:=by
  obtain ⟨oc,od,kV,doc,pm,an,cdv,ct,osl,rfl,lk,hcd⟩:=F.ex
  exact .all (h kV doc pm an cdv ct)
theorem fun_mk {x qual:Str} {st:Stmt} {f:Addr} {oc:Value} {od an:Option Addr} {osl:Array (Option Value)} {kV doc pm cdv ct:Value} (l:K.lookup f=some ⟨oc,od,.func (PySem.W.fnOf x qual (defArgs st) (defBody st) (defScope st) .none kV doc pm an cdv ct),osl⟩)
    (c:PySem.W.codeIn K cdv qual=true) (k:PySem.W.keepIn K (.ref f)=true):Fun K x qual st f (PySem.W.fnOf x qual (defArgs st) (defBody st) (defScope st) .none kV doc pm an cdv ct):=⟨⟨oc,od,kV,doc,pm,an,cdv,ct,osl,rfl,l,c⟩,k⟩
end
theorem hu_of {A:Around} {k:Nat} (hr:Room k A):A.units+1<cLine:=Nat.lt_of_le_of_lt (Nat.add_le_add_left (by decide:1≤64) _) hr.units
section
variable {X:Cx}
theorem pv (i:Nat) {x:Str} {pos:Pos} (hN:X.N[i]? = some x:=by rfl) (hv:Vis X.env.scope x:=by first | exact Or.inl rfl | exact Or.inr (Or.inl rfl) | exact Or.inr (Or.inr rfl)) (hd:(x == ("__debug__" : Str))=false:=by decide)
    (hcd:(x == ("__classdict__" : Str))=false:=by decide):PE X (.Name x pos) (tVar i):=pe_var hN hv hd hcd
end
theorem ite2 {c A B:Prop} [Decidable c] (h1:c→A) (h2:¬ c→B):if c then A else B:=by
  by_cases h:c
  · rw [if_pos h]
    exact h1 h
  · rw [if_neg h]
    exact h2 h
def Same (H H':Hp):Prop:=∀ b o,H b=some o→H' b=some o
theorem Same.refl (H:Hp):Same H H:=fun _ _ h=>h
theorem Same.trans {H H1 H2:Hp} (a:Same H H1) (b:Same H1 H2):Same H H2:=fun c o h=>b c o (a c o h)
theorem Same.free {H H':Hp} (e:Same H H') {l:Addr} (h:H' l=Option.none):H l=Option.none:=by
  cases q:H l with
  | none=>rfl
  | some o =>
    rw [e l o q] at h
    cases h
theorem Same.seq {K:PySem.W.Frag} {H H':Hp} {a:Addr} {xs:List V} (e:Same H H') (h:SqL K H a xs):SqL K H' a xs:=by
  rcases h with (h | ⟨o,h⟩) | h
  · exact .inl (.inl (e _ _ h))
  · exact .inl (.inr ⟨o,e _ _ h⟩)
  · exact .inr h
end L2
set_option maxHeartbeats 4000000
namespace L2
open PySem PySem.Spec PyProof.Rows
theorem elc {α:Type} {P:List α→Prop} {n:Nat} (h:∀ x r,r.length=n→P (x :: r)):∀ us:List α,us.length=n+1→P us
  | [],e=>absurd e (by simp)
  | x :: r,e=>h x r (by simpa using e)
theorem el0 {α:Type} {P:List α→Prop} (h:P []):∀ us:List α,us.length = 0→P us
  | [],_=>h
  | _ :: _,e=>absurd e (by simp)
theorem el1 {α:Type} {P:List α→Prop} (h:∀ x0,P [x0]):∀ us:List α,us.length = 1→P us:=elc fun x r e=>el0 (P:=fun r=>P (x :: r)) (h x) r e
theorem el2 {α:Type} {P:List α→Prop} (h:∀ x0 x1,P [x0,x1]):∀ us:List α,us.length = 2→P us:=elc fun x r e=>el1 (P:=fun r=>P (x :: r)) (h x) r e
theorem el3 {α:Type} {P:List α→Prop} (h:∀ x0 x1 x2,P [x0,x1,x2]):∀ us:List α,us.length = 3→P us:=elc fun x r e=>el2 (P:=fun r=>P (x :: r)) (h x) r e
theorem el4 {α:Type} {P:List α→Prop} (h:∀ x0 x1 x2 x3,P [x0,x1,x2,x3]):∀ us:List α,us.length = 4→P us:=elc fun x r e=>el3 (P:=fun r=>P (x :: r)) (h x) r e
theorem el5 {α:Type} {P:List α→Prop} (h:∀ x0 x1 x2 x3 x4,P [x0,x1,x2,x3,x4]):∀ us:List α,us.length = 5→P us:=elc fun x r e=>el4 (P:=fun r=>P (x :: r)) (h x) r e
end L2
namespace Sw
def dv (a b:Int):Int:=(Int.gcd a b:Nat)
theorem dv_nn (a b:Int):0≤dv a b:=Int.natCast_nonneg _
theorem dv_l (a b:Int):dv a b ∣ a:=Int.gcd_dvd_left a b
theorem dv_r (a b:Int):dv a b ∣ b:=Int.gcd_dvd_right a b
theorem dv_comm (a b:Int):dv a b=dv b a:=by unfold dv; rw [Int.gcd_comm]
theorem dv_negl (a b:Int):dv (-a) b=dv a b:=by unfold dv; rw [Int.neg_gcd]
theorem dv_negr (a b:Int):dv a (-b)=dv a b:=by unfold dv; rw [Int.gcd_neg]
theorem dv_zero (a:Int) (h:0≤a):dv a 0=a:=by
  unfold dv; rw [Int.gcd_zero_right]; omega
theorem dv_eq0 {a b:Int} (h:dv a b = 0):a = 0∧b = 0:=by
  unfold dv at h
  exact Int.gcd_eq_zero_iff.mp (by omega)
theorem dv_pos {a b:Int} (h:b≠0):0<dv a b:=by
  have:=dv_nn a b
  rcases Int.lt_or_eq_of_le this with q | q
  · exact q
  · exact absurd (dv_eq0 q.symm).2 h
theorem dv_dvd {a b c:Int} (h1:c ∣ a) (h2:c ∣ b):c ∣ dv a b:=Int.dvd_coe_gcd h1 h2
theorem dv_ext {a b c d:Int} (h:∀ x:Int,(x ∣ a∧x ∣ b)↔(x ∣ c∧x ∣ d)):dv a b=dv c d:=by
  have h1:dv a b ∣ dv c d:=dv_dvd ((h _).mp ⟨dv_l a b,dv_r a b⟩).1 ((h _).mp ⟨dv_l a b,dv_r a b⟩).2
  have h2:dv c d ∣ dv a b:=dv_dvd ((h _).mpr ⟨dv_l c d,dv_r c d⟩).1 ((h _).mpr ⟨dv_l c d,dv_r c d⟩).2
  exact Int.dvd_antisymm (dv_nn _ _) (dv_nn _ _) h1 h2
theorem dv_step (a b:Int):dv b (a % b)=dv a b:=by
  refine dv_ext fun x=>⟨fun ⟨h1,h2⟩=>⟨?_,h1⟩,fun ⟨h1,h2⟩=>⟨h2,?_⟩⟩
  · have e:=Int.mul_ediv_add_emod a b
    rw [← e]
    exact Int.dvd_add (Int.dvd_trans h1 (Int.dvd_mul_right b _)) h2
  · rw [Int.emod_def]
    exact Int.dvd_sub h1 (Int.dvd_trans h2 (Int.dvd_mul_right b _))
theorem dv_abs (a b:Int):dv (if a<0 then -a else a) (if b<0 then -b else b)=dv a b:=by
  split <;> split <;> simp only [dv_negl,dv_negr]
theorem dv_scale (g a b:Int) (h:0≤g):dv (g*a) (g*b)=g*dv a b:=by
  unfold dv; rw [Int.gcd_mul_left]
  have:((g.natAbs*a.gcd b:Nat):Int)=(g.natAbs:Int)*(a.gcd b:Nat):=by simp
  rw [this]; congr 1; omega
theorem dv_quot {a b:Int} (h:dv a b≠0):dv (a / dv a b) (b / dv a b) = 1:=by
  have hp:0<dv a b:=by have:=dv_nn a b; omega
  have e1:a=dv a b*(a / dv a b):=(Int.mul_ediv_cancel' (dv_l a b)).symm
  have e2:b=dv a b*(b / dv a b):=(Int.mul_ediv_cancel' (dv_r a b)).symm
  have e:dv a b=dv a b*dv (a / dv a b) (b / dv a b):=by
    have:=dv_scale (dv a b) (a / dv a b) (b / dv a b) (Int.le_of_lt hp)
    rw [← e1,← e2] at this
    exact this
  have e':dv a b*1=dv a b*dv (a / dv a b) (b / dv a b):=by rw [Int.mul_one]; exact e
  exact (Int.eq_of_mul_eq_mul_left (by omega) e').symm
structure Fr (n d:Int):Prop where
  pos:0<d
  low:dv n d = 1
theorem cop_dvd {n d x:Int} (h:dv n d = 1) (q:d ∣ n*x):d ∣ x:=by
  have h':Nat.Coprime d.natAbs n.natAbs:=by
    unfold dv at h
    have:Int.gcd n d = 1:=by omega
    unfold Nat.Coprime
    rw [Nat.gcd_comm]; exact this
  have q':d.natAbs ∣ n.natAbs*x.natAbs:=by rw [← Int.natAbs_mul]; exact Int.natAbs_dvd_natAbs.mpr q
  exact Int.natAbs_dvd_natAbs.mp (h'.dvd_of_dvd_mul_left q')
theorem Fr.uniq {n d m e:Int} (h:Fr n d) (k:Fr m e) (q:n*e=m*d):n=m∧d=e:=by
  have h1:d ∣ e:=cop_dvd h.low ⟨m,by rw [q,Int.mul_comm]⟩
  have h2:e ∣ d:=cop_dvd k.low ⟨n,by rw [← q,Int.mul_comm]⟩
  have e1:d=e:=Int.dvd_antisymm (Int.le_of_lt h.pos) (Int.le_of_lt k.pos) h1 h2
  subst e1
  have:=h.pos
  exact ⟨Int.eq_of_mul_eq_mul_right (by omega) q,rfl⟩
def rN (t b:Int):Int:=if b<0 then t / (-(dv t b)) else t / dv t b
def rD (t b:Int):Int:=if b<0 then b / (-(dv t b)) else b / dv t b
theorem rN_mul {t b:Int}:rN t b*(if b<0 then -(dv t b) else dv t b)=t:=by
  unfold rN
  split
  · exact Int.ediv_mul_cancel (Int.neg_dvd.mpr (dv_l t b))
  · exact Int.ediv_mul_cancel (dv_l t b)
theorem rD_mul {t b:Int}:rD t b*(if b<0 then -(dv t b) else dv t b)=b:=by
  unfold rD
  split
  · exact Int.ediv_mul_cancel (Int.neg_dvd.mpr (dv_r t b))
  · exact Int.ediv_mul_cancel (dv_r t b)
theorem rat_cross {t b:Int} (h:b≠0):rN t b*b=rD t b*t:=by
  have e1:=rN_mul (t:=t) (b:=b)
  have e2:=rD_mul (t:=t) (b:=b)
  generalize (if b<0 then -(dv t b) else dv t b)=c at e1 e2
  calc rN t b*b=rN t b*(rD t b*c):=by rw [e2]
    _=rD t b*(rN t b*c):=by rw [← Int.mul_assoc,← Int.mul_assoc,Int.mul_comm (rN t b)]
    _=rD t b*t:=by rw [e1]
theorem rat_fr {t b:Int} (h:b≠0):Fr (rN t b) (rD t b):=by
  have hp:=dv_pos (a:=t) h
  refine ⟨?_,?_⟩
  · unfold rD
    by_cases hb:b<0
    · rw [if_pos hb,Int.ediv_neg]
      obtain ⟨k,hk⟩:=dv_r t b
      have:b / dv t b=k:=Int.ediv_eq_of_eq_mul_right (by omega) hk
      rw [this]
      rcases Int.lt_or_le k 0 with q | q
      · omega
      · have:=Int.mul_nonneg (Int.le_of_lt hp) q; omega
    · rw [if_neg hb]
      obtain ⟨k,hk⟩:=dv_r t b
      have:b / dv t b=k:=Int.ediv_eq_of_eq_mul_right (by omega) hk
      rw [this]
      rcases Int.lt_or_le 0 k with q | q
      · exact q
      · have:=Int.mul_nonneg_of_nonpos_of_nonpos (a:=-(dv t b)) (b:=k) (by omega) q
        rw [Int.neg_mul] at this
        omega
  · have q:=dv_quot (a:=t) (b:=b) (by omega)
    unfold rN rD
    by_cases hb:b<0
    · rw [if_pos hb,if_pos hb,Int.ediv_neg,Int.ediv_neg,dv_negl,dv_negr]; exact q
    · rw [if_neg hb,if_neg hb]; exact q
def Sz (n:Nat) (x:Int):Prop:=x.natAbs<2 ^ n
theorem Sz.mono {m n:Nat} {x:Int} (h:Sz m x) (hm:m≤n):Sz n x:=Nat.lt_of_lt_of_le h (Nat.pow_le_pow_right (by decide) hm)
theorem Sz.mul {m n:Nat} {x y:Int} (h:Sz m x) (k:Sz n y):Sz (m+n) (x*y):=by
  unfold Sz at *
  rw [Int.natAbs_mul,Nat.pow_add]
  by_cases hy:y.natAbs = 0
  · rw [hy,Nat.mul_zero]; exact Nat.mul_pos (Nat.two_pow_pos m) (Nat.two_pow_pos n)
  · exact Nat.mul_lt_mul_of_lt_of_lt h k
theorem Sz.neg {n:Nat} {x:Int} (h:Sz n x):Sz n (-x):=by unfold Sz at *; omega
theorem Sz.le {n:Nat} {x y:Int} (h:Sz n y) (k:x.natAbs≤y.natAbs):Sz n x:=Nat.lt_of_le_of_lt k h
theorem Sz.zero (n:Nat):Sz n 0:=Nat.two_pow_pos n
theorem Sz.dvd {n:Nat} {x y:Int} (h:Sz n y) (d:x ∣ y) (hy:y≠0):Sz n x:=by
  refine h.le ?_
  exact Nat.le_of_dvd (by omega) (Int.natAbs_dvd_natAbs.mpr d)
end Sw
namespace Sw
theorem Sz.lit {x:Int} (h:x.natAbs<1606938044258990275541962092341162602522202993782792835301376):Sz 5000 x:=by
  have e:(2:Nat) ^ 200 = 1606938044258990275541962092341162602522202993782792835301376:=by decide
  exact Nat.lt_of_lt_of_le (by rw [e]; exact h) (Nat.pow_le_pow_right (by decide) (by decide:200≤5000))
end Sw
namespace Sw
theorem Sz.r60 {x:Int} (h1:-1000000000000000000000000000000000000000000000000000000000000<x) (h2:x<1000000000000000000000000000000000000000000000000000000000000):Sz 200 x:=by
  have e:(2:Nat) ^ 200 = 1606938044258990275541962092341162602522202993782792835301376:=by decide
  unfold Sz; rw [e]; omega
end Sw
namespace Sw
theorem Sz.r18 {x:Int} (h1:-100000000000000000000<x) (h2:x<100000000000000000000):Sz 70 x:=by
  have e:(2:Nat) ^ 70 = 1180591620717411303424:=by decide
  unfold Sz; rw [e]; omega
theorem Sz.one (n:Nat):Sz (n+1) 1:=by
  unfold Sz
  exact Nat.lt_of_lt_of_le (by decide:Int.natAbs 1<2 ^ 1) (Nat.pow_le_pow_right (by decide) (by omega))
end Sw
namespace L2
open PySem PySem.Spec PyProof.Rows
theorem bits_of_sz {n:Nat} {x:Int} (h:Sw.Sz n x):Builtin.Int.intBits x≤n:=by
  unfold Builtin.Int.intBits
  split
  · exact Nat.zero_le _
  · rename_i hx
    have hx':x≠0:=by simpa using hx
    have:x.natAbs.log2<n:=(Nat.log2_lt (by omega)).mpr h
    omega
def CMulL (i j:Int):Prop:=Sw.Sz 5000 i∧Sw.Sz 5000 j
def CDivL (i j:Int):Prop:=0<j∧Sw.Sz 5000 j
def CDivS (i j:Int):Prop:=j≠0∧Sw.Sz 5000 j
theorem pylong_of {i j:Int} (h0:j≠0) (h:Sw.Sz 5000 j):Builtin.divisionGoesByPylong i j=false:=by
  refine PyProof.noPylong_of_log2 ?_
  have:j.natAbs.log2<5000:=(Nat.log2_lt (by omega)).mpr h
  omega
section
variable {X:Cx}
theorem op_mulL:OpR X (binaryOp .Mult) (rI CMulL fun i j=>.int (i*j)):=opI fun _ _ _ _ _ _ _ hc q =>
  mul_int q (IntMulOk.of_bits (Nat.le_trans (bits_of_sz hc.1) (by decide)) (Nat.le_trans (bits_of_sz hc.2) (by decide)))
theorem op_fdivL:OpR X (binaryOp .FloorDiv) (rI CDivL fun i j=>.int (i / j)):=opI fun i j _ _ _ _ _ hc q=>by
  have h1:(0:Int)<j:=hc.1
  exact floordiv_int (by omega) (by rw [Int.fdiv_eq_ediv_of_nonneg i (by omega)]; exact q) (.inl (pylong_of (by omega) hc.2))
theorem op_fdivS:OpR X (binaryOp .FloorDiv) (rI CDivS fun i j=>.int (i.fdiv j)):=opI fun _ _ _ _ _ _ _ hc q=>floordiv_int hc.1 q (.inl (pylong_of hc.1 hc.2))
structure Def (P:Program) (w:World) (K:PySem.W.Frag) (mg:Str→Option Value) (base:Heap) (CX:CXT) (k:Nat) (x:Str) (ps:List Str) (sp:Sp):Prop where
  ex:∃ (f:Addr) (fd:FuncData),FnOk P w K mg base CX k f fd ps sp∧Binds K fd ps []∧PySem.W.keepIn K (.ref f)=true∧mg x=some (.ref f)
structure Src (K:PySem.W.Frag) (mg:Str→Option Value) (x:Str) (st:Stmt) (ps:List Str):Prop where
  ex:∃ (f:Addr) (fd:FuncData),Fun K x x st f fd∧Binds K fd ps []∧mg x=some (.ref f)
end
end L2
namespace L2
theorem while_det {c:TT} {tb:TS} {D:Ends} {σ:St} {H:Hp} (Pv:St→Hp→Prop) (μ:St→Hp→Nat) (h0:Pv σ H)
    (hs:∀ σ H,Pv σ H→∃ b:Bool,(∀ Q:Bool→Hp→Prop,Q b H→c σ H Q)∧(b=true→tb { D with nx:=fun σ' H'=>Pv σ' H'∧μ σ' H' < μ σ H,ct:=fun σ' H'=>Pv σ' H'∧μ σ' H' < μ σ H,bk:=D.nx } σ H)∧(b=false→D.nx σ H)):tWhile c tb D σ H:=by
  refine ⟨fun m σ H=>m = μ σ H∧Pv σ H,⟨_,rfl,h0⟩,?_⟩
  rintro m σ H ⟨rfl,p⟩
  obtain ⟨b,hc,h1,h2⟩:=hs σ H p
  refine hc _ ?_
  cases b with
  | true=>exact ⟨_,fun σ' H' ⟨p',l⟩=>⟨_,l,rfl,p'⟩,h1 rfl⟩
  | false=>exact h2 rfl
end L2
namespace L2
open PySem PySem.Spec PyProof.Rows
def spLaw (K:PySem.W.Frag):Sp:=fun vs H Q _=>∃ (a:Addr) (ns:List Int),vs = [.ref a]∧SqL K H a (ns.map V.int)∧ns.length≤63∧∀ H',Q (.bl true) H'
end L2
namespace L2
open PySem PySem.Spec PyProof.Rows
def spInt1 (g:Int→Int):Sp:=fun vs H Q _=>∃ a,vs = [.int a]∧Q (.int (g a)) H
def spInt2 (g:Int→Int→Int):Sp:=fun vs H Q _=>∃ a b,vs = [.int a,.int b]∧Q (.int (g a b)) H
def cellI (ns:List Int) (k:Int):Int:=(ns[k.toNat]?).getD 0
def spCell (K:PySem.W.Frag):Sp:=fun vs H Q _=>∃ a ns k,vs = [.ref a,.int k]∧SqL K H a (ns.map V.int)∧0≤k∧Q (.int (cellI ns k)) H
theorem cellAt_get {ns:List Int} {k:Int} (h0:0≤k) (h:k<ns.length):atI (ns.map V.int) k=some (V.int (cellI ns k)):=by
  have e:((k.toNat:Nat):Int)=k:=by omega
  have hl:k.toNat<ns.length:=by omega
  have q:(ns.map V.int)[k.toNat]? = some (V.int (cellI ns k)):=by
    rw [List.getElem?_map]
    unfold cellI
    rw [List.getElem?_eq_getElem hl]
    rfl
  have:=atI_nat q
  rw [e] at this
  exact this
theorem cellAt_none {ns:List Int} {k:Int} (h0:0≤k) (h:¬ k<ns.length):cellI ns k = 0:=by
  unfold cellI
  rw [List.getElem?_eq_none (by omega)]
  rfl
def spWhole:Sp:=fun vs H Q _=>∃ n,vs = [.int n]∧Q (.bl true) H
end L2
namespace L2
theorem seq_step {t u:TS} {D:Ends} {σ:St} {H:Hp} (h:∀ R:St→Hp→Prop,(∀ σ H,u D σ H→R σ H)→t { D with nx:=R } σ H):tSeq t u D σ H:=h (u D) fun _ _ x=>x
end L2
namespace L2
open PySem PySem.Spec PyProof.Rows
theorem spCell_of {K:PySem.W.Frag} {H:Hp} {a:Addr} {ns:List Int} {k:Int} {Q:VK} {E:XK} (hS:SqL K H a (ns.map V.int)) (h0:0≤k) (q:Q (.int (cellI ns k)) H):spCell K [.ref a,.int k] H Q E:=⟨a,ns,k,rfl,hS,h0,q⟩
end L2
namespace L2
theorem cmulL_lit {a b:Int} (h1:a.natAbs<1606938044258990275541962092341162602522202993782792835301376) (h2:b.natAbs<1606938044258990275541962092341162602522202993782792835301376):CMulL a b:=⟨Sw.Sz.lit h1,Sw.Sz.lit h2⟩
theorem cdivL_lit {a b:Int} (h0:0<b) (h2:b.natAbs<1606938044258990275541962092341162602522202993782792835301376):CDivL a b:=⟨h0,Sw.Sz.lit h2⟩
end L2
namespace L2
open PySem
theorem line_lit {n:Nat} (h:n≤1000):n≤sizeLine:=Nat.le_trans h (by decide)
theorem line_lt {n:Nat} (h:n<1000):n<sizeLine:=Nat.lt_of_lt_of_le h (by decide)
end L2
namespace L2
open PySem
theorem ixT_at {K:PySem.W.Frag} {H:Hp} {p:Addr} {xs:List V} {i:Int} {v:V} {Q:VK} (hT:SqT K H p xs) (h:atI xs i=some v) (q:Q v H):rIxT K (.ref p) (.int i) H Q:=⟨p,xs,i,v,rfl,rfl,hT,h,q⟩
theorem ixL_at {K:PySem.W.Frag} {H:Hp} {p:Addr} {xs:List V} {i:Int} {v:V} {Q:VK} (hT:SqL K H p xs) (h:atI xs i=some v) (q:Q v H):rIxL K (.ref p) (.int i) H Q:=⟨p,xs,i,v,rfl,rfl,hT,h,q⟩
end L2
namespace L2
open PySem PySem.Spec PyProof.Rows
end L2
namespace L2
theorem iteN {c A B:Prop} [Decidable c] (hc:¬ c) (h:B):if c then A else B:=by rw [if_neg hc]; exact h
end L2
namespace L2
end L2
namespace L2
open PySem PySem.Spec PyProof.Rows
mutual
inductive Deep (K:PySem.W.Frag) (H:Hp):V→PyData→Prop
  | non:Deep K H .non .none
  | bl (b:Bool):Deep K H (.bl b) (.bool b)
  | int (i:Int):Deep K H (.int i) (.int i)
  | str (x:Str):Deep K H (.str x) (.str x)
  | tup {a:Addr} {xs:List V} {ds:List PyData}:SqT K H a xs→DeepAll K H xs ds→Deep K H (.ref a) (.tuple ds)
  | lst {a:Addr} {xs:List V} {ds:List PyData}:SqL K H a xs→DeepAll K H xs ds→Deep K H (.ref a) (.list ds)
inductive DeepAll (K:PySem.W.Frag) (H:Hp):List V→List PyData→Prop
  | nil:DeepAll K H [] []
  | cons {x:V} {d:PyData} {xs:List V} {ds:List PyData}:Deep K H x d→DeepAll K H xs ds→DeepAll K H (x :: xs) (d :: ds)
end
section
variable {X:Cx} {pins:List (Addr×Obj)} {σ:St} {H:Hp} {s:Shared}
mutual
theorem deep_reads (I:Inv X pins σ H s):∀ {x:V} {d:PyData} {u:Value},Deep X.K H x d→RelV x u→∃ as,Reads s.heap u d as
  | _,_,u,.non,r=>by cases (show u=Value.none from r); exact ⟨_,.none⟩
  | _,_,u,.bl b,r=>by cases (show u=Value.bool b from r); exact ⟨_,.bool b⟩
  | _,_,u,.int i,r=>by obtain ⟨t,rfl⟩:=(show ∃ t,u=Value.int i t from r); exact ⟨_,.int i t⟩
  | _,_,u,.str x,r=>by obtain ⟨t,rfl⟩:=(show ∃ t,u=Value.str x t from r); exact ⟨_,.str x t⟩
  | _,_,u,.tup (a:=a) q h,r=>by
    cases (show u=Value.ref a from r)
    obtain ⟨its,rv,⟨o,e,c,n,d⟩,hz⟩:=I.tuple q
    obtain ⟨as,ra⟩:=deep_readsAll I h rv
    exact ⟨as,reads_tuple_at e c d (by simpa using ra)⟩
  | _,_,u,.lst (a:=a) q h,r=>by
    cases (show u=Value.ref a from r)
    obtain ⟨its,rv,⟨o,n,e,c,_,d⟩,hz⟩:=I.list q
    obtain ⟨as,ra⟩:=deep_readsAll I h rv
    exact ⟨_,reads_list_at e c d (by simpa using ra)⟩
theorem deep_readsAll (I:Inv X pins σ H s):∀ {xs:List V} {ds:List PyData} {us:List Value},DeepAll X.K H xs ds→Vals xs us→∃ as,ReadsAll s.heap us ds as
  | _,_,_,.nil,.nil=>⟨_,.nil⟩
  | _,_,_,.cons d h,.cons r t=>by
    obtain ⟨as,q⟩:=deep_reads I d r
    obtain ⟨bs,p⟩:=deep_readsAll I h t
    exact ⟨_,.cons q p⟩
end
end
section
variable {X:Cx}
def rNeD (K:PySem.W.Frag):R2:=fun x y H Q=>∃ d e,Deep K H x d∧Deep K H y e∧PySem.SeqAt.shaped d=true∧PySem.SeqAt.shaped e=true∧Q (.bl (!PyData.eqv d e)) H
theorem op_neD (hu:X.A.units+64<cLine):OpR X (compareOp .NotEq) (rNeD X.K):=by
  intro pins s σ H x y v u Q I rx ry h
  obtain ⟨d,e,hd,he,sd,se,q⟩:=h
  obtain ⟨as,ra⟩:=deep_reads I hd rx
  obtain ⟨bs,rb⟩:=deep_reads I he ry
  exact ne_dataH ra rb sd se hu ⟨.bl _,H,I,rfl,q⟩
end
theorem same_new {H:Hp} {a:Addr} {o:HO} (h:H a=none):Same H (upd H a o):=fun b u e=>by rw [upd_ne (ne_of_none e h)]; exact e
end L2
namespace L2
open PySem PySem.Spec PyProof.Rows
def Ite (K:PySem.W.Frag) (a:Addr):It :=
  ⟨fun i H=>∃ xs x,SqL K H a xs∧xs[i]? = some x,
   fun i H y H'=>∃ p x,y = .ref p∧H p=none∧(∀ xs,SqL K H a xs→xs[i]? = some x)∧H'=upd H p (.tup [.int i,x]),
   fun i H=>∃ xs,SqL K H a xs∧xs.length≤i⟩
theorem turn_enum {P:Program} {w:World} {K:PySem.W.Frag} {elts:List Expr} {x1} {pos:Pos} (a e it:Addr) (hei:e≠it) :
    Turn P w K (.Tuple elts x1 pos) (Ite K a) [e,it] e (fun i h=>(∃ old,IsEnum h e it ((i:Nat):Int) old)∧h.IsListIter it a i) where
  mem:=by simp
  obj:=fun i h st b hb=>by
    obtain ⟨⟨old,he⟩,hit⟩:=st
    rcases List.mem_cons.mp hb with rfl | hb
    · exact ⟨_,he,fun v z=>by cases z⟩
    · have e:b=it:=by simpa using hb
      subst e
      obtain ⟨o,e,c,d⟩:=hit
      exact ⟨o,e,fun v z=>by rw [d] at z; cases z⟩
  keep:=fun i h h' st k=>by
    obtain ⟨⟨old,he⟩,hit⟩:=st
    exact ⟨⟨old,k e (by simp) _ he⟩,hit.at fun o q=>k it (by simp) o q⟩
  item:=by
    intro X hP hw hK hc i pins s σ H E I hf st hg
    subst hP hw hK
    obtain ⟨⟨old,he⟩,hit⟩:=st
    obtain ⟨xs,x,hq,hx⟩:=hg
    obtain ⟨its,rv,p,hz⟩:=I.list hq
    obtain ⟨u,hu,ru⟩:=rv.get hx
    obtain ⟨f0,f1,f2,f3,f4,f5⟩:=hf e (by simp)
    obtain ⟨g0,g1,g2,g3,g4,g5⟩:=hf it (by simp)
    have hes:e<s.heap.objs.size:=Heap.lt_size he
    have his:it<s.heap.objs.size:=by obtain ⟨o,q,_⟩:=id hit; exact Heap.lt_size q
    refine wpAny_pyNext_enum_item he hit p.isList (x:=u) (by simpa using hu) hei fun h1 heo hit1 ht1 hz1 hk1=>?_
    refine ⟨.ref s.heap.objs.size,rfl,wpAny_letOwnedTupleGo_enum heo fun h2 he2 hs2=>?_⟩
    have hs2':Heap.SameBut e h1 h2:=hs2
    have hit2:h2.IsListIter it a (i+1):=hit1.at fun o q=>(hs2'.2 it (Ne.symm hei)).trans q
    have fresh:H s.heap.objs.size=none:=I.hok.fresh (Nat.le_refl _)
    have htup:h2.get? s.heap.objs.size=some { cls:=.type "tuple", data:=.seq #[.int i s.toks,u] }:=(hs2'.2 _ (Nat.ne_of_gt hes)).trans ht1
    have nit:∀ b v,H b=some v→b≠e∧b≠it:=fun b v q=>⟨fun z=>(by rw [z,f0] at q; cases q),fun z=>(by rw [z,g0] at q; cases q)⟩
    have k2:∀ b o,b≠e→b≠it→s.heap.get? b=some o→h2.get? b=some o:=fun b o n1 n2 q=>(hs2'.2 b n1).trans (hk1 b o n1 n2 q)
    have up:∀ b o,H b=some o→(upd H s.heap.objs.size (.tup [.int i,x])) b=some o:=fun b o q=>by rw [upd_ne (ne_of_none q fresh)]; exact q
    have I2:Inv X pins σ (upd H s.heap.objs.size (.tup [.int i,x])) { s with heap:=h2,toks:=s.toks+1 }:=by
      refine I.step (g':=s.gens) (d':=s.drawn) (ch:=[e,it]) (fun b hb=>?_) (fun b o _ _ hc q _=>k2 b o (fun z=>hc (by simp [z])) (fun z=>hc (by simp [z])) q)
        (fun b o _ _ hc q _=>⟨o.slots,k2 b o (fun z=>hc (by simp [z])) (fun z=>hc (by simp [z])) q⟩) (fun b o _ q n=>by rw [upd_ne (Nat.ne_of_lt (Heap.lt_size q))]; exact n)
        (fun b o hc q=>?_) (fun b ys q=>up b _ q) (fun b ob v q=>up b _ q) (fun b ps q=>⟨#[],by rw [up b _ q]; simp⟩) (fun m hm=>?_) (fun b v q=>?_) I.bare
      · rcases List.mem_cons.mp hb with rfl | hb
        · exact ⟨f3,f1,f4,f5⟩
        · have z:b=it:=by simpa using hb
          subst z
          exact ⟨g3,g1,g4,g5⟩
      · exact ⟨o,k2 b o (fun z=>hc (by simp [z])) (fun z=>hc (by simp [z])) q⟩
      · obtain ⟨o,es,ep,ho,r⟩:=hm
        exact ⟨o,es,ep,k2 _ o (Ne.symm f1) (Ne.symm g1) ho,r⟩
      · by_cases hb:b=s.heap.objs.size
        · subst hb
          rw [upd_same] at q
          cases q
          exact ⟨by show 2≤sizeLine; decide,[.int i s.toks,u],.cons ⟨_,rfl⟩ (.cons ru .nil),_,htup,rfl,_,rfl⟩
        · rw [upd_ne hb] at q
          refine (I.hok b v q).stay (fun c v' hc q'=>?_) (fun c z=>up c _ z) fun c ys z=>up c _ z
          have hcn:c≠e∧c≠it:=by
            rcases hc with z | z
            · rw [z]; exact nit b v q
            · exact nit c _ z
          exact k2 c v' hcn.1 hcn.2 q'
    refine ⟨.ref s.heap.objs.size,_,I2,rfl,⟨s.heap.objs.size,x,rfl,fresh,fun ys hy=>by rw [I.list_inj hy hq]; exact hx,rfl⟩,⟨⟨u,by simpa using he2⟩,hit2⟩,fun b hb=>?_⟩
    rw [upd_ne]
    · exact (hf b hb).1
    · intro z
      rcases List.mem_cons.mp hb with y | y
      · rw [y] at z; exact absurd z (Nat.ne_of_lt hes)
      · have y:b=it:=by simpa using y
        rw [y] at z; exact absurd z (Nat.ne_of_lt his)
  done:=by
    intro X hP hw hK hc i pins s σ H E I hf st hg
    subst hP hw hK
    obtain ⟨⟨old,he⟩,hit⟩:=st
    obtain ⟨xs,hq,hx⟩:=hg
    obtain ⟨its,rv,p,hz⟩:=I.list hq
    obtain ⟨g0,g1,g2,g3,g4,g5⟩:=hf it (by simp)
    have hl:=rv.length
    exact wpAny_pyNext_enum_end (I.ok.hd hc) he hit p.isList (by simp; omega) fun h' eb=>⟨rfl,I.turned (t':=s.toks) (fun b o hb q=>eb b o hb q) g0 g1 g3 g4 g5⟩
  self:=fun _ _ _ _ _ st h=>by
    obtain ⟨⟨old,he⟩,_⟩:=st
    exact wpAny_pyIter_enum he h
section
variable {X:Cx}
def iEnum (K:PySem.W.Frag) (ta:TA):TI:=fun σ H R=>ta σ H fun vs H1=>∃ a,vs = [.ref a]∧(∃ xs,SqL K H1 a xs)∧R (Ite K a) H1
theorem pi_enum {l:Expr} {ta:TA} {p pos tpos:Pos} {elts:List Expr} {x1} (hg:Gl X "enumerate") (hm:X.mg "enumerate" = none) (ha:PA X [l] ta) (hs:starEach [l] X.env = [(false,eval l X.env)]:=by rfl) :
    PI X (.Tuple elts x1 tpos) (.Call (.Name "enumerate" p) [l] [] pos) (iEnum X.K ta):=by
  intro pins s σ H R I h
  refine Call_ (ld_blt I hg hm boot_enumerate (PyProof.Rows.callWith_type1 (thn (ha pos pins s σ H _ I h) fun us s1 ⟨vs,H1,I1,r1,q1⟩=>?_) hs rfl))
  obtain ⟨a,rfl,⟨xs,hq⟩,q⟩:=q1
  obtain ⟨u,rfl,r⟩:=Vals.one r1
  cases r
  obtain ⟨its,rv,p,hz⟩:=I1.list hq
  refine call_enumerate_list p.isList fun h' he hit hsz hk=>?_
  refine wpAny_pyIter_enum he ?_
  refine ⟨s1.heap.objs.size+1,[s1.heap.objs.size+1,s1.heap.objs.size],_,_,H1,rfl,I1.kept (t':=s1.toks) hk,turn_enum a _ _ (Nat.succ_ne_self _),⟨⟨_,he⟩,hit⟩,fun b hb=>?_,q⟩
  rcases List.mem_cons.mp hb with e | e
  · subst e; exact I1.fpOk (Nat.le_succ _) (I1.hok.fresh (Nat.le_succ _))
  · have e:b=s1.heap.objs.size:=by simpa using e
    subst e
    exact I1.fpOk (Nat.le_refl _) (I1.hok.fresh (Nat.le_refl _))
end
theorem for_enum {K:PySem.W.Frag} {a:Addr} {xs:List V} {g:TG} {tb:TS} {D:Ends} {σ:St} {H:Hp} (Pv:Nat→St→Hp→Prop) (h0:Pv 0 σ H) (hl:∀ i σ H,i≤xs.length→Pv i σ H→SqL K H a xs)
    (hs:∀ i x σ H p,xs[i]? = some x→Pv i σ H→H p=none→g (.ref p) σ (upd H p (.tup [.int i,x])) fun σ2 H2=>tb { D with nx:=Pv (i+1),ct:=Pv (i+1),bk:=D.nx } σ2 H2) (hd:∀ σ H,Pv xs.length σ H→D.nx σ H) :
    ∃ W:Nat→Nat→St→Hp→Prop,(∃ m,W 0 m σ H)∧∀ i m σ H,W i m σ H →
      ((Ite K a).stop i H∧D.nx σ H)∨((Ite K a).go i H∧∃ N:St→Hp→Prop,(∀ σ' H',N σ' H'→∃ m',m' < m∧W (i+1) m' σ' H')∧∀ x H',(Ite K a).yld i H x H'→g x σ H' fun σ2 H2=>tb { D with nx:=N,ct:=N,bk:=D.nx } σ2 H2):=by
  refine ⟨fun i m σ H=>m=xs.length-i∧i≤xs.length∧Pv i σ H,⟨xs.length,by simp,Nat.zero_le _,h0⟩,?_⟩
  rintro i m σ H ⟨rfl,hi,p⟩
  have q:=hl i σ H hi p
  by_cases hlt:i<xs.length
  · refine .inr ⟨⟨xs,xs[i],q,by simp [hlt]⟩,Pv (i+1),fun σ' H' p'=>⟨xs.length-(i+1),by omega,rfl,hlt,p'⟩,fun y H' z=>?_⟩
    obtain ⟨b,x,rfl,hb,hx,rfl⟩:=z
    exact hs i x σ H b (hx xs q) p hb
  · have e:i=xs.length:=by omega
    subst e
    exact .inl ⟨⟨xs,q,Nat.le_refl _⟩,hd σ H p⟩
section
variable {prog:Program} {w:World} {A:Around} {R:Result→Shared→Prop} {s:Shared}
theorem codeAny_compLoop_go {elt target iter:Expr} {ifs:List Expr} {scope:Scope} {pos:Pos} {it acc:Value} {env:Env} (I:Nat→Shared→Prop)
    (turn:∀ n s,I n s→wpAny (model prog w) A (pyNext it) (fun r s₁=>match r with
      | none=>R (.ok .next) s₁
      | some v=>wpAny (model prog w) A (letOwnedTupleGo target it v) (fun _ s₁'=>wpAny (model prog w) A (assign target env v) (fun _ s₂ =>
          wpAny (model prog w) A (forIn ifs true fun c r=>if r=true then do let ok ← isTrue c env (eval c env); pure (ForInStep.yield ok) else pure (ForInStep.yield r)) (fun ok s₃ =>
            if ok=true then wpAny (model prog w) A (eval elt env) (fun x s₄ =>
              wpAny (model prog w) A (call (.builtin "list.append") [acc,x]) (fun _ s₅=>∃ m,m<n∧I m s₅) (notedBy (model prog w) A env fun e s'=>R (.error e) s') s₄) (notedBy (model prog w) A env fun e s'=>R (.error e) s') s₃
            else ∃ m,m<n∧I m s₃) (notedBy (model prog w) A env fun e s'=>R (.error e) s') s₂) (notedBy (model prog w) A env fun e s'=>R (.error e) s') s₁') (notedBy (model prog w) A env fun e s'=>R (.error e) s') s₁) (notedBy (model prog w) A env fun e s'=>R (.error e) s') s)
    (n:Nat) (h:I n s) :
    codeAny (model prog w) A (.compLoop (.ListComp elt [⟨target,iter,ifs,0⟩] scope pos) 0 it acc env) R s:=by
  refine codeAny_loop rfl I (fun n s hI=>?_) n h
  show wpAny _ A ((compTurn (.ListComp elt [⟨target,iter,ifs,0⟩] scope pos) 0 it acc env).onRaise (fun x=>do noteFrame x env; theTreesLotGoes x)) _ _ s
  refine wpAny_noted ?_
  rw [compTurn_list]
  refine wpAny_bind (wpAny_standAt (wpAny_bind (wpAny_mono (turn n s hI) (fun r s₁ h₁=>?_) fun _ _ h'=>h')))
  cases r with
  | none=>exact wpAny_pure h₁
  | some v =>
    refine wpAny_bind (wpAny_mono h₁ (fun _ s₁' h₁'=>?_) fun _ _ h'=>h')
    refine wpAny_bind (wpAny_mono h₁' (fun _ s₂ h₂=>wpAny_bind (wpAny_mono h₂ (fun ok s₃ h₃=>?_) fun _ _ h'=>h')) fun _ _ h'=>h')
    cases ok with
    | false=>exact wpAny_pure ⟨rfl,h₃⟩
    | true =>
      exact wpAny_bind (wpAny_bind (wpAny_mono h₃ (fun x s₄ h₄=>wpAny_bind (wpAny_mono h₄ (fun _ s₅ h₅=>wpAny_pure (wpAny_pure ⟨rfl,h₅⟩)) fun _ _ h'=>h')) fun _ _ h'=>h'))
end
def cxComp (X:Cx) (scope:Scope) (cl:List (Str×Addr)) (N:List Str) (fp:List Addr) (s:Shared) (H:Hp):Cx :=
  { X with N:=N,s₀:=s,H₀:=H,env:=compEnvC scope cl s.heap.objs.size X.env,outer:=X.stack,stack:=X.stack,ex:=fp,fn:=fun _=>false,pn:=[],xe:=fun _ _=>False }
def FrOk (X:Cx) (sc:Scope):List (Str×Nat)→Prop
  | []=>True
  | p :: r=>(X.N[p.2]? = some p.1∧sc.names.lookup p.1=some .cell∧X.env.kindOf p.1=some .cell)∧FrOk X sc r
theorem FrOk.mem {X:Cx} {sc:Scope}:∀ {l:List (Str×Nat)},FrOk X sc l→∀ p∈l,X.N[p.2]? = some p.1∧sc.names.lookup p.1=some .cell∧X.env.kindOf p.1=some .cell
  | [],_,p,hp=>nomatch hp
  | q :: r,h,p,hp=>by
    rcases List.mem_cons.mp hp with e | hp
    · rw [e]; exact h.1
    · exact FrOk.mem h.2 p hp
def PIfs (X:Cx) (ifs:List Expr) (t:TT):Prop :=
  ∀ (pins:List (Addr×Obj)) (s:Shared) (σ:St) (H:Hp) (Q:Bool→Hp→Prop),Inv X pins σ H s→t σ H Q →
    wpAny (model X.prog X.w) X.A (forIn ifs true fun c r=>if r=true then do let ok ← isTrue c X.env (eval c X.env); pure (ForInStep.yield ok) else pure (ForInStep.yield r)) (TP X pins σ Q) X.xe s
def tYes:TT:=fun _ H Q=>Q true H
theorem pifs_nil {X:Cx}:PIfs X [] tYes:=fun _ _ _ H _ I h=>wpAny_tests_nil ⟨H,I,h⟩
theorem pifs_one {X:Cx} {c:Expr} {t:TT} (hc:PT X c t):PIfs X [c] t:=fun pins s σ H Q I h=>wpAny_tests_one (hc pins s σ H Q I h)
def tComp (nt:Nat) (fr:List (Str×Nat)) (wi:TI) (g:TG) (tc:TT) (te:TE):TE:=fun σ H Q=>wi σ H fun J H1=>∀ D,H1 D=none→∃ W:Nat→Nat→St→Hp→Prop,
  (∃ m,W 0 m (List.replicate nt none++fr.map fun p=>(σ[p.2]?).join) (upd H1 D (.lst [])))∧∀ i m τ H',W i m τ H' →
    (J.stop i H'∧Q (.ref D) H')∨(J.go i H'∧∃ N:St→Hp→Prop,(∀ τ' H'',N τ' H''→∃ m',m' < m∧W (i+1) m' τ' H'') ∧
      ∀ x H2,J.yld i H' x H2→g x τ H2 fun τ2 H3=>tc τ2 H3 fun b H4=>if b=true then te τ2 H4 fun y H5=>∃ ys,H5 D=some (.lst ys)∧ys.length<sizeLine∧N τ2 (upd H5 D (.lst (ys++[y]))) else N τ2 H4)
section
variable {X:Cx}
theorem cx_start {scope:Scope} {cl:List (Str×Addr)} {ts:List Str} {fr:List (Str×Nat)} {fp:List Addr} {pins:List (Addr×Obj)} {σ:St} {H:Hp} {s:Shared} {h':Heap} {m:Str→Option Value} {t':Nat} (I:Inv X pins σ H s)
    (hkind:scope.kind = .function) (hcl:∀ x c,cl.lookup x=some c→X.env.cells.lookup x=some c)
    (hhas:∀ x,((relabel scope X.env).names.lookup x=some .cell∨(relabel scope X.env).names.lookup x=some .free)→∃ c,cl.lookup x=some c) (hfr:FrOk X (relabel scope X.env) fr)
    (hfp:∀ b∈fp,FpOk X pins H b∧b<s.heap.objs.size) (hn:h'.Ns s.heap.objs.size m) (hk:∀ b o,s.heap.get? b=some o→h'.get? b=some o) :
    Inv (cxComp X scope cl (ts++fr.map (·.1)) fp s H) [] (List.replicate ts.length none++fr.map fun p=>(σ[p.2]?).join) H { s with heap:=h',toks:=t' }:=by
  have cellK:∀ c v,s.heap.IsCell c v→h'.IsCell c v:=fun c v ⟨o,ho,hd⟩=>⟨o,hk c o ho,hd⟩
  refine ⟨⟨I.ok.mod,hkind,I.ok.glob,I.ok.blt,Nat.le_refl _,fun x y c h1 h2=>I.ok.inj x y c (hcl x c h1) (hcl y c h2),hhas,fun x c h=>(by cases h),I.ok.hd,I.ok.frames,.inl rfl,fun b hb=>?_,I.bs,Nat.le_trans I.ok.bsz I.sz,fun b o e hb=>?_,fun b hb z=>?_,I.stack,I.stkFree⟩,
    rfl,I.bare,Un.kept hk,⟨m,hn,fun i x v e1 e2 e3=>?_⟩,fun x c e=>?_,I.hok.fresh (Nat.le_refl _),fun x c e=>I.freeC x c (hcl x c e),fun p hp=>absurd (show p∈([]:List (Addr×Obj)) from hp) (by simp),I.hok.kept hk,?_⟩
  · obtain ⟨f,lt⟩:=hfp b hb
    exact ⟨Nat.ne_of_lt lt,fun x c e=>f.2.2.2.2.1 x c (hcl x c e)⟩
  · obtain ⟨f,lt⟩:=hfp b hb
    rcases f.2.2.2.1 with z | z
    · exact I.ok.noex b o e z
    · exact absurd (Nat.lt_of_lt_of_le (Heap.lt_size e) (Nat.le_trans I.ok.bsz z)) (Nat.lt_irrefl _)
  · obtain ⟨f,lt⟩:=hfp b hb
    rcases List.mem_cons.mp (I.stkSub b z) with y | y
    · exact f.2.1 y
    · exact f.2.2.1 y
  · have hlen:(List.replicate ts.length (none:Option V)).length=ts.length:=by simp
    by_cases hi:i<ts.length
    · rw [List.getElem?_append_left (by rw [hlen]; exact hi),List.getElem?_replicate,if_pos hi] at e2
      cases e2
    · rw [List.getElem?_append_right (by rw [hlen]; omega),hlen,List.getElem?_map] at e2
      have e1':(ts++fr.map (·.1))[i]? = some x:=e1
      rw [List.getElem?_append_right (by omega),List.getElem?_map] at e1'
      cases ep:fr[i-ts.length]? with
      | none=>rw [ep] at e2; cases e2
      | some p =>
        rw [ep] at e1' e2
        have ex:p.1=x:=Option.some.inj e1'
        have ev:(σ[p.2]?).join=some v:=Option.some.inj e2
        obtain ⟨a1,a2,a3⟩:=hfr.mem p (List.mem_of_getElem? ep)
        have ev':σ[p.2]? = some (some v):=by
          cases q:σ[p.2]? with
          | none=>rw [q] at ev; cases ev
          | some o=>rw [q] at ev; cases o with
            | none=>cases ev
            | some v'=>cases ev; rfl
        obtain ⟨m',hn',hl'⟩:=I.loc
        obtain ⟨u,ru,lk⟩:=hl' p.2 p.1 v a1 ev' (.inr (.inl a3))
        subst ex
        refine ⟨u,ru,?_⟩
        rcases lk with ⟨z,_⟩ | ⟨_,c,ec,z⟩
        · rw [z] at a3; cases a3
        · obtain ⟨c',ec'⟩:=hhas p.1 (.inl a2)
          have ecc:c'=c:=Option.some.inj ((hcl _ _ ec').symm.trans ec)
          exact .inr ⟨.inl a2,c',ec',(by rw [ecc]; exact cellK _ _ z)⟩
  · obtain ⟨v,z⟩:=I.cell x c (hcl x c e)
    exact ⟨v,cellK _ _ z⟩
  · show _=(ts++fr.map (·.1)).length
    simp
theorem pe_comp {elt target iter:Expr} {ifs:List Expr} {scope:Scope} {pos:Pos} {cl:List (Str×Addr)} {ts:List Str} {fr:List (Str×Nat)} {wi:TI} {g:TG} {tc:TT} {te:TE} (hcalm:X.calm=true)
    (hclos:closureFor scope X.env=pure cl) (hcell:∀ y∈scope.names,y.2≠.cell) (hkind:scope.kind = .function) (hnames:∀ y∈scope.names,y.2 = .local→scope.names.lookup y.1=some .local)
    (hcl:∀ x c,cl.lookup x=some c→X.env.cells.lookup x=some c)
    (hhas:∀ x,((relabel scope X.env).names.lookup x=some .cell∨(relabel scope X.env).names.lookup x=some .free)→∃ c,cl.lookup x=some c) (hfr:FrOk X (relabel scope X.env) fr)
    (hi:PI X target iter wi) (hg:∀ fp s H,PG (cxComp X scope cl (ts++fr.map (·.1)) fp s H) target g) (hc:∀ fp s H,PIfs (cxComp X scope cl (ts++fr.map (·.1)) fp s H) ifs tc)
    (he:∀ fp s H,PE (cxComp X scope cl (ts++fr.map (·.1)) fp s H) elt te) (hs:∀ x,foldedSetIterable iter X.env x=pure x:=by intro _; rfl) :
    PE X (.ListComp elt [⟨target,iter,ifs,0⟩] scope pos) (tComp ts.length fr wi g tc te):=by
  intro pins s σ H Q I h
  rw [eval_ListComp]
  refine wpAny_comprehension_free (use:=none) rfl hs hclos hkind hnames (thn (hi pins s σ H _ I h) fun xv s1 h1=>thn h1 fun itv s2 h2=>?_)
  obtain ⟨it,fp,tn,J,H2,rfl,I2,T,st2,f2,hR⟩:=h2
  have D0:H2 s2.heap.objs.size=none:=I2.hok.fresh (Nat.le_refl _)
  obtain ⟨W,⟨m0,w0⟩,turn⟩:=hR s2.heap.objs.size D0
  refine wpAny_newObj_type (wpAny_newFunctionEnv hcell (by intro y hy; simp at hy) (fun h₁ hns₁ hsb₁=>?_) hkind)
  dsimp only at hns₁ hsb₁ ⊢
  have I3:Inv X pins σ (upd H2 s2.heap.objs.size (.lst [])) { s2 with heap:=s2.heap.push { cls:=.type "list", dict:=none,data:=.seq ([]:List Value).toArray } } :=
    I2.laid (t':=s2.toks) (fun _ _ q=>Heap.get?_push_of_some _ q) (Nat.le_refl _) ⟨Nat.zero_le _,[],0,.nil,Heap.get?_push_size _ rfl⟩
  have kp3:∀ b o,s2.heap.get? b=some o→(s2.heap.push { cls:=.type "list", dict:=none,data:=.seq ([]:List Value).toArray }).get? b=some o:=fun b o q=>Heap.get?_push_of_some _ q
  have sz3:(s2.heap.push { cls:=.type "list", dict:=none,data:=.seq ([]:List Value).toArray }).objs.size=s2.heap.objs.size+1:=Heap.size_push ..
  generalize s2.heap.push { cls:=.type "list", dict:=none,data:=.seq ([]:List Value).toArray } = hp3 at hns₁ hsb₁ I3 kp3 sz3 ⊢
  have kp:∀ b o,hp3.get? b=some o→h₁.get? b=some o:=fun b o e=>hsb₁.extBut b o (Nat.ne_of_lt (Heap.lt_size e)) (Heap.get?_push_of_some _ e)
  have flt:∀ b∈fp,b<s2.heap.objs.size:=fun b hb=>by
    obtain ⟨o,e,_⟩:=T.obj _ _ st2 b hb
    exact Heap.lt_size e
  have fr3:∀ b∈fp,(upd H2 s2.heap.objs.size (.lst [])) b=none:=fun b hb=>by rw [upd_ne (Nat.ne_of_lt (flt b hb))]; exact (f2 b hb).1
  have f3:∀ b∈fp,FpOk X pins (upd H2 s2.heap.objs.size (.lst [])) b∧b<hp3.objs.size:=fun b hb=>⟨⟨fr3 b hb,(f2 b hb).2⟩,by rw [sz3]; exact Nat.lt_succ_of_lt (flt b hb)⟩
  have I4:=cx_start (ts:=ts) (t':=s2.toks+([]:List (Str×Value)).length) I3 hkind hcl hhas hfr f3 hns₁ kp
  have st4:tn 0 h₁:=T.keep _ _ _ st2 fun b hb o e=>kp b o (kp3 b o e)
  have loop:codeAny (model X.prog X.w) X.A (.compLoop (.ListComp elt [⟨target,iter,ifs,0⟩] scope pos) 0 (.ref it) (.ref s2.heap.objs.size) (compEnvC scope cl hp3.objs.size X.env))
      (compPost (model X.prog X.w) X.A X.xe none (EP X pins σ Q) (.ref s2.heap.objs.size) hp3.objs.size) { s2 with heap:=h₁,toks:=s2.toks+([]:List (Str×Value)).length }:=by
    refine codeAny_compLoop_go (fun n s'=>∃ i τ H',Inv (cxComp X scope cl (ts++fr.map (·.1)) fp { s2 with heap:=hp3 } (upd H2 s2.heap.objs.size (.lst []))) [] τ H' s'∧tn i s'.heap∧(∀ b∈fp,H' b=none)∧W i n τ H') ?_ m0 ⟨0,_,_,I4,st4,fr3,w0⟩
    rintro n s5 ⟨i,τ,H5,I5,st5,fr5,w5⟩
    have stat:∀ {H':Hp},(∀ b∈fp,H' b=none)→∀ b∈fp,FpOk (cxComp X scope cl (ts++fr.map (·.1)) fp { s2 with heap:=hp3 } (upd H2 s2.heap.objs.size (.lst []))) [] H' b :=
      fun hn b hb=>⟨hn b hb,(I5.ok.exf b hb).1,I5.ok.exfs b hb,.inl hb,(I5.ok.exf b hb).2,fun p hp=>absurd (show p∈([]:List (Addr×Obj)) from hp) (by simp)⟩
    rcases turn i n τ H5 w5 with ⟨stop,qn⟩ | ⟨go,Nn,hN,step⟩
    · refine thn (T.done (cxComp X scope cl (ts++fr.map (·.1)) fp { s2 with heap:=hp3 } (upd H2 s2.heap.objs.size (.lst []))) rfl rfl rfl hcalm i [] s5 τ H5 _ I5 (stat fr5) st5 stop) fun r s6 ⟨hr,I6⟩=>?_
      subst hr
      obtain ⟨m,hn,_⟩:=I6.loc
      refine ⟨m,hn,fun h' hs'=>⟨.ref s2.heap.objs.size,H5,?_,rfl,qn⟩⟩
      have neC:∀ b o,hp3.get? b=some o→b≠hp3.objs.size:=fun b o e=>Nat.ne_of_lt (Heap.lt_size e)
      have hs'':Heap.SameBut hp3.objs.size s6.heap h':=hs'
      refine I3.call' (s':={ s6 with heap:=h' }) (ch:=fp) I6.os ⟨fun b o e n hb hx=>?_,fun b o e n hb hx=>?_,I6.base.free,fun b o e hx=>?_,I6.base.tups,I6.base.frzs,I6.base.tbls⟩ (fun b ob e=>?_) I6.bare (fun b hb=>?_)
      · exact (hs''.2 b (neC b o e)).trans (I6.base.keep b o e n hb hx)
      · obtain ⟨sl,q⟩:=I6.base.slot b o e n hb hx
        exact ⟨sl,(hs''.2 b (neC b o e)).trans q⟩
      · obtain ⟨o',q⟩:=I6.base.there b o e hx
        exact ⟨o',(hs''.2 b (neC b o e)).trans q⟩
      · refine (I6.hok b ob e).stay (fun c v hc q=>(hs''.2 c ?_).trans q) (fun _ q=>q) fun _ _ q=>q
        intro z
        have fz:H5 hp3.objs.size=none:=I6.free
        rcases hc with y | y
        · rw [← y,z,fz] at e; cases e
        · rw [z,fz] at y; cases y
      · exact ⟨(f2 b hb).2.2.2.1,(f2 b hb).2.1,(f2 b hb).2.2.2.2.1,(f2 b hb).2.2.2.2.2⟩
    · refine thn (T.item (cxComp X scope cl (ts++fr.map (·.1)) fp { s2 with heap:=hp3 } (upd H2 s2.heap.objs.size (.lst []))) rfl rfl rfl hcalm i [] s5 τ H5 _ I5 (stat fr5) st5 go) fun r s6 ⟨u,hr,h6⟩=>?_
      subst hr
      refine thn h6 fun _ s7 ⟨x,H7,I7,r7,y7,st7,fr7⟩=>?_
      have I7':=I7.pinned (stat fr7) (T.obj _ _ st7)
      refine wpAny_mono (hg fp _ _ _ s7 τ H7 x u _ I7' r7 (step x H7 y7)) (fun _ s8 ⟨τ8,H8,I8,q8⟩=>?_) fun _ _ z=>False.elim z
      have again:∀ {τ9:St} {H9:Hp} {s9:Shared},Inv (cxComp X scope cl (ts++fr.map (·.1)) fp { s2 with heap:=hp3 } (upd H2 s2.heap.objs.size (.lst []))) ([]++pinsAt fp s7.heap) τ9 H9 s9→Nn τ9 H9 →
          ∃ m,m<n∧∃ i τ H',Inv (cxComp X scope cl (ts++fr.map (·.1)) fp { s2 with heap:=hp3 } (upd H2 s2.heap.objs.size (.lst []))) [] τ H' s9∧tn i s9.heap∧(∀ b∈fp,H' b=none)∧W i m τ H':=fun {τ9 H9 s9} I9 n9=>by
        obtain ⟨m',hm,w9⟩:=hN τ9 H9 n9
        refine ⟨m',hm,i+1,τ9,H9,I9.unpinned,T.keep _ _ _ st7 fun b hb o e=>(I9.pin (b,o) (List.mem_append_right _ (List.mem_append_right _ (mem_pinsAt hb e)))).1,fun b hb=>?_,w9⟩
        obtain ⟨o,e,d⟩:=T.obj _ _ st7 b hb
        exact (I9.pin (b,o) (List.mem_append_right _ (List.mem_append_right _ (mem_pinsAt hb e)))).2.1
      refine wpAny_mono (hc fp _ _ _ s8 τ8 H8 _ I8 q8) (fun ok s9 ⟨H9,I9,q9⟩=>?_) fun _ _ z=>False.elim z
      cases ok with
      | false=>exact again I9 q9
      | true =>
        refine wpAny_mono (he fp _ _ _ s9 τ8 H9 _ I9 q9) (fun y s10 ⟨v,H10,I10,rv,ys,hD,hl,qN⟩=>?_) fun _ _ z=>False.elim z
        refine wpAny_mono (mt_append (X:=cxComp X scope cl (ts++fr.map (·.1)) fp { s2 with heap:=hp3 } (upd H2 s2.heap.objs.size (.lst []))) _ s10 τ8 H10 (.ref s2.heap.objs.size) [v] (.ref s2.heap.objs.size) [y] (fun _ H=>Nn τ8 H) I10 rfl (.cons rv .nil) ⟨_,ys,v,rfl,rfl,hD,hl,qN⟩) (fun _ s11 ⟨_,H11,I11,_,q11⟩=>again I11 q11) fun _ _ z=>False.elim z
  exact codeAny_compStart_list loop (T.self X.A 0 _ _ _ st4 loop)
end
end L2
namespace L2
open PySem PySem.Spec PyProof.Rows
section
variable {X:Cx} {tg:Expr}
theorem ix_listK (K:PySem.W.Frag) (h:X.K=K):IxR X (rIxL K):=h ▸ ix_list
theorem ix_tupK (K:PySem.W.Frag) (h:X.K=K):IxR X (rIxT K):=h ▸ ix_tup
theorem sl_listK (K:PySem.W.Frag) (h:X.K=K):SlR X (rSlL K):=h ▸ sl_list
def rLen (K:PySem.W.Frag):List V→Hp→VK→Prop:=fun xs H Q=>∃ p ys,xs = [.ref p]∧(SqL K H p ys∨SqT K H p ys)∧Q (.int ys.length) H
theorem call_lenK (K:PySem.W.Frag) (h:X.K=K):CallR X (.builtin "len") (rLen K):=h ▸ call_len_seq
def rLst (K:PySem.W.Frag):List V→Hp→VK→Prop:=fun xs H Q=>∃ p ys,xs = [.ref p]∧(SqL K H p ys∨SqT K H p ys)∧∀ l,H l=none→Q (.ref l) (upd H l (.lst ys))
theorem call_listK (K:PySem.W.Frag) (h:X.K=K):CallR X (.type "list") (rLst K):=h ▸ call_list_of
theorem pg_tupK (K:PySem.W.Frag) (h:X.K=K) {es:List Expr} {k:Nat} {pos:Pos} {t:TGs} {n:Nat} (hc:X.calm=true) (hq:PGs X es t)
    (hn:(assignEach es X.env).length=n:=by rfl) (hst:(assignEach es X.env).findIdx? (·.1)=none:=by rfl):PG X (.Tuple es k pos) (gTup K n t):=h ▸ pg_tup hc hq hn hst
theorem pi_listK (K:PySem.W.Frag) (h:X.K=K) {l:Expr} {tl:TE} (hl:PE X l tl):PI X tg l (iList K tl):=h ▸ pi_list hl
theorem pi_enumK (K:PySem.W.Frag) (h:X.K=K) {l:Expr} {ta:TA} {p pos tpos:Pos} {elts:List Expr} {x1} (hg:Gl X "enumerate") (hm:X.mg "enumerate" = none) (ha:PA X [l] ta) (hs:starEach [l] X.env = [(false,eval l X.env)]:=by rfl) :
    PI X (.Tuple elts x1 tpos) (.Call (.Name "enumerate" p) [l] [] pos) (iEnum K ta):=h ▸ pi_enum hg hm ha hs
end
def ClOk (env:Env):List (Str×Addr)→Prop
  | []=>True
  | p :: r=>env.cells.lookup p.1=some p.2∧ClOk env r
theorem ClOk.get {env:Env}:∀ {cl:List (Str×Addr)},ClOk env cl→∀ x c,cl.lookup x=some c→env.cells.lookup x=some c
  | [],_,x,c,e=>by cases e
  | p :: r,h,x,c,e=>by
    obtain ⟨k,a⟩:=p
    rw [List.lookup_cons] at e
    by_cases q:x=k
    · subst q
      rw [beq_self_eq_true] at e
      cases e
      exact h.1
    · rw [beq_eq_false_iff_ne.mpr q] at e
      exact ClOk.get h.2 x c e
def clAll (ns:List (Str×NameKind)) (cl:List (Str×Addr)):Bool:=ns.all fun y=>match y.2 with
  | .cell=>(cl.lookup y.1).isSome
  | .free=>(cl.lookup y.1).isSome
  | _=>true
theorem clAll_get {ns:List (Str×NameKind)} {cl:List (Str×Addr)} (h:clAll ns cl=true) (x:Str) (q:ns.lookup x=some .cell∨ns.lookup x=some .free):∃ c,cl.lookup x=some c:=by
  unfold clAll at h
  rw [List.all_eq_true] at h
  rcases q with q | q
  · have:=h _ (PySem.mem_of_lookup q)
    exact Option.isSome_iff_exists.mp this
  · have:=h _ (PySem.mem_of_lookup q)
    exact Option.isSome_iff_exists.mp this
theorem pe_lc {X:Cx} {elt target iter:Expr} {ifs:List Expr} {scope:Scope} {pos:Pos} {cl:List (Str×Addr)} (ts:List Str) (fr:List (Str×Nat)) {wi:TI} {g:TG} {tc:TT} {te:TE} (hcalm:X.calm=true)
    (hclos:closureFor scope X.env=pure cl) (hcell:∀ y∈scope.names,y.2≠.cell) (hkind:scope.kind = .function) (hnames:∀ y∈scope.names,y.2 = .local→scope.names.lookup y.1=some .local)
    (hcl:ClOk X.env cl) (hhas:clAll (relabel scope X.env).names cl=true) (hfr:FrOk X (relabel scope X.env) fr)
    (hi:PI X target iter wi) (hg:∀ fp s H,PG (cxComp X scope cl (ts++fr.map (·.1)) fp s H) target g) (hc:∀ fp s H,PIfs (cxComp X scope cl (ts++fr.map (·.1)) fp s H) ifs tc)
    (he:∀ fp s H,PE (cxComp X scope cl (ts++fr.map (·.1)) fp s H) elt te) (hs:∀ x,foldedSetIterable iter X.env x=pure x:=by intro _; rfl) :
    PE X (.ListComp elt [⟨target,iter,ifs,0⟩] scope pos) (tComp ts.length fr wi g tc te) :=
  pe_comp hcalm hclos hcell hkind hnames hcl.get (fun x q=>clAll_get hhas x q) hfr hi hg hc he hs
end L2
namespace L2
open PySem PySem.Spec PyProof.Rows
def rSum (K:PySem.W.Frag):List V→Hp→VK→Prop:=fun xs H Q=>∃ (p:Addr) (ns:List Int),xs = [.ref p]∧SqL K H p (ns.map V.int)∧Q (.int ns.sum) H
section
variable {X:Cx}
theorem call_sumK (K:PySem.W.Frag) (h:X.K=K) (hc:X.calm=true):CallR X (.builtin "sum") (rSum K):=by
  subst h
  intro pins s σ H xs us Q I r h
  obtain ⟨p,ns,rfl,hq,q⟩:=h
  obtain ⟨u,rfl,ru⟩:=vals1 r
  cases (show u=Value.ref p from ru)
  obtain ⟨its,rv,hp,hz⟩:=I.list hq
  have hi:=intsAre_of rv
  obtain ⟨zs,e⟩:=hi.allInts.items
  have hl:=hp.isList
  rw [e] at hl
  refine sum_intListG (I.ok.hd hc) hl fun h' tk t' hk=>⟨.int ns.sum,H,I.kept (t':=tk) hk,⟨t',?_⟩,q⟩
  rw [preSum_eq,List.take_of_length_le (by simp)]
  have:=hi.numsOf
  rw [show its=its.toArray.toList from rfl,e,nums_intItems] at this
  rw [← this]
end
end L2
namespace L2
open PySem PySem.Spec PyProof.Rows
def CompG (J:It) (g:TG) (tc:TT) (te:TE) (D:Addr) (τ:St) (H:Hp) (Q:VK):Prop :=
  ∃ W:Nat→Nat→St→Hp→Prop,(∃ m,W 0 m τ H)∧∀ i m τ H',W i m τ H' →
    (J.stop i H'∧Q (.ref D) H')∨(J.go i H'∧∃ N:St→Hp→Prop,(∀ τ' H'',N τ' H''→∃ m',m' < m∧W (i+1) m' τ' H'') ∧
      ∀ x H2,J.yld i H' x H2→g x τ H2 fun τ2 H3=>tc τ2 H3 fun b H4=>if b=true then te τ2 H4 fun y H5=>∃ ys,H5 D=some (.lst ys)∧ys.length<sizeLine∧N τ2 (upd H5 D (.lst (ys++[y]))) else N τ2 H4)
theorem tComp_eq {nt:Nat} {fr:List (Str×Nat)} {wi:TI} {g:TG} {tc:TT} {te:TE} {σ:St} {H:Hp} {Q:VK} :
    tComp nt fr wi g tc te σ H Q=wi σ H fun J H1=>∀ D,H1 D=none→CompG J g tc te D (List.replicate nt none++fr.map fun p=>(σ[p.2]?).join) (upd H1 D (.lst [])) Q:=rfl
theorem comp_walk {K:PySem.W.Frag} {a:Addr} {xs:List V} {g:TG} {tc:TT} {te:TE} {D:Addr} {τ:St} {H:Hp} {Q:VK} (Pv:Nat→St→Hp→Prop) (h0:Pv 0 τ H) (hl:∀ i τ H,i≤xs.length→Pv i τ H→SqL K H a xs)
    (hs:∀ i x τ H,xs[i]? = some x→Pv i τ H→g x τ H fun τ2 H3=>tc τ2 H3 fun b H4=>if b=true then te τ2 H4 fun y H5=>∃ ys,H5 D=some (.lst ys)∧ys.length<sizeLine∧Pv (i+1) τ2 (upd H5 D (.lst (ys++[y]))) else Pv (i+1) τ2 H4)
    (hd:∀ τ H,Pv xs.length τ H→Q (.ref D) H) :
    CompG (Itl K a) g tc te D τ H Q:=by
  refine ⟨fun i m τ H=>m=xs.length-i∧i≤xs.length∧Pv i τ H,⟨xs.length,by simp,Nat.zero_le _,h0⟩,?_⟩
  rintro i m τ H ⟨rfl,hi,p⟩
  have q:=hl i τ H hi p
  by_cases hlt:i<xs.length
  · refine .inr ⟨⟨xs,xs[i],q,by simp [hlt]⟩,Pv (i+1),fun τ' H' p'=>⟨xs.length-(i+1),by omega,rfl,hlt,p'⟩,fun x H2 z=>?_⟩
    obtain ⟨rfl,hx⟩:=z
    exact hs i x τ H2 (hx xs q) p
  · have e:i=xs.length:=by omega
    subst e
    exact .inl ⟨⟨xs,q,Nat.le_refl _⟩,hd τ H p⟩
theorem take_snoc {α:Type} {xs:List α} {i:Nat} {x:α} (h:xs[i]? = some x):xs.take (i+1)=xs.take i++[x]:=by
  rw [List.take_add_one,h]; rfl
theorem comp_pure {K:PySem.W.Frag} {a:Addr} {xs:List V} {g:TG} {tc:TT} {te:TE} {D:Addr} {v0:Option V} {caps:St} {H:Hp} {Q:VK} (F:V→Option V) (hD:H D=none) (hS:SqL K H a xs) (hlen:xs.length≤1000)
    (hs:∀ x∈xs,∀ (v:Option V) (H':Hp) (C:V→St→Hp→Prop) (N:St→Hp→Prop),Same H H'→(∀ y,F x=some y→C y (some x :: caps) H')→(F x=none→N (some x :: caps) H') →
      g x (v :: caps) H' fun τ2 H3=>tc τ2 H3 fun b H4=>if b=true then te τ2 H4 fun y H5=>C y τ2 H5 else N τ2 H4)
    (hd:Q (.ref D) (upd H D (.lst (xs.filterMap F)))) :
    CompG (Itl K a) g tc te D (v0 :: caps) (upd H D (.lst [])) Q:=by
  refine comp_walk (xs:=xs) (fun i τ H'=>(∃ v,τ = v :: caps)∧H'=upd H D (.lst ((xs.take i).filterMap F))) ⟨⟨_,rfl⟩,by simp⟩ (fun i τ H' _ ⟨_,e⟩=>by rw [e]; exact (same_new hD).seq hS) ?_ ?_
  · rintro i x τ H' hx ⟨⟨v,rfl⟩,rfl⟩
    have hi:i<xs.length:=(List.getElem?_eq_some_iff.mp hx).1
    refine hs x (List.mem_of_getElem? hx) v _ (fun y τ2 H5=>∃ ys,H5 D=some (.lst ys)∧ys.length<sizeLine∧(∃ v,τ2=v :: caps)∧upd H5 D (.lst (ys++[y]))=upd H D (.lst ((xs.take (i+1)).filterMap F)))
      (fun τ2 H4=>(∃ v,τ2=v :: caps)∧H4=upd H D (.lst ((xs.take (i+1)).filterMap F))) (same_new hD) (fun y e=>?_) fun e=>?_
    · refine ⟨_,upd_same,line_lt ?_,⟨_,rfl⟩,?_⟩
      · have:=List.length_filterMap_le F (xs.take i)
        rw [List.length_take] at this
        omega
      · rw [upd_upd,take_snoc hx,List.filterMap_append]; simp [e]
    · refine ⟨⟨_,rfl⟩,?_⟩
      rw [take_snoc hx,List.filterMap_append]; simp [e]
  · rintro τ H' ⟨_,rfl⟩
    rw [List.take_length]; exact hd
abbrev Q4:=Int×Int×Int×Int
def q4 (q:Q4):List V:=[.int q.1,.int q.2.1,.int q.2.2.1,.int q.2.2.2]
def q4D (q:Q4):PyData:=.tuple [.int q.1,.int q.2.1,.int q.2.2.1,.int q.2.2.2]
abbrev Tups (H:Hp):List Addr→List Q4→Prop:=Paired fun p q=>H p=some (.tup (q4 q))
theorem Tups.len {H:Hp} {ps:List Addr} {qs:List Q4} (h:Tups H ps qs):ps.length=qs.length:=Paired.length h
theorem Tups.nil {H:Hp}:Tups H [] []:=Paired.nil
theorem Tups.same {H H':Hp} {ps:List Addr} {qs:List Q4} (h:Tups H ps qs) (e:Same H H'):Tups H' ps qs:=Paired.mapP h fun _ _ q=>e _ _ q
theorem Tups.keep {H H':Hp} {ps:List Addr} {qs:List Q4} (h:Tups H ps qs) (e:∀ p xs,H p=some (.tup xs)→H' p=some (.tup xs)):Tups H' ps qs:=Paired.mapP h fun _ _ q=>e _ _ q
theorem Tups.snoc {H:Hp} {t:Addr} {q:Q4} (ht:H t=some (.tup (q4 q))):∀ {ps:List Addr} {qs:List Q4},Tups H ps qs→Tups H (ps++[t]) (qs++[q])
  | _,_,Paired.nil=>.cons ht .nil
  | _,_,Paired.cons a b=>.cons a (Tups.snoc ht b)
theorem Tups.get {H:Hp}:∀ {ps:List Addr} {qs:List Q4} {i:Nat} {p:Addr},Tups H ps qs→ps[i]? = some p→∃ q,qs[i]? = some q∧H p=some (.tup (q4 q))
  | _,_,_,_,Paired.nil,e=>by simp at e
  | _,_,0,_,Paired.cons a _,e=>by simp at e; subst e; exact ⟨_,rfl,a⟩
  | _,_,i+1,_,Paired.cons _ b,e=>by
    obtain ⟨q,h1,h2⟩:=Tups.get (i:=i) b (by simpa using e)
    exact ⟨q,by simpa using h1,h2⟩
structure Row (H:Hp) (l:Addr) (ps:List Addr) (qs:List Q4):Prop where
  hl:H l=some (.lst (ps.map V.ref))
  r:Tups H ps qs
theorem Row.same {H H':Hp} {l:Addr} {ps:List Addr} {qs:List Q4} (R:Row H l ps qs) (e:Same H H'):Row H' l ps qs:=⟨e _ _ R.hl,R.r.same e⟩
theorem cutV_ints (ns:List Int) (lo hi:Option Int):∃ ms:List Int,cutV (ns.map V.int) lo hi=ms.map V.int∧ms.length≤ns.length:=by
  refine ⟨(ns.drop (HT.sIx (ns.map V.int).length 0 lo)).take (HT.sIx (ns.map V.int).length (ns.map V.int).length hi-HT.sIx (ns.map V.int).length 0 lo),?_,?_⟩
  · unfold cutV; rw [List.map_take,List.map_drop]
  · rw [List.length_take,List.length_drop]; omega
def spRow (K:PySem.W.Frag):Sp:=fun vs H Q _=>∃ (a:Addr) (ns:List Int) (few:Int),vs = [.ref a,.int few]∧SqL K H a (ns.map V.int)∧0<few∧ns.length≤63 ∧
  ∀ H' l ps qs,Same H H'→H l=none→H' l=some (.lst (ps.map V.ref))→Tups H' ps qs→qs.length≤63→Q (.ref l) H'
mutual
theorem eqv_refl:∀ d:PyData,d.canLay0=true→PyData.eqv d d=true
  | .none,_=>rfl
  | .bool b,_=>by simp [PyData.eqv]
  | .int i,_=>by simp [PyData.eqv]
  | .str x,_=>by simp [PyData.eqv]
  | .list xs,h=>by
    have h:PyData.canLayAll0 xs=true:=by simpa only [PyData.canLay0] using h
    simpa only [PyData.eqv] using eqvAll_refl xs h
  | .tuple xs,h=>by
    have h:PyData.canLayAll0 xs=true:=by simpa only [PyData.canLay0] using h
    simpa only [PyData.eqv] using eqvAll_refl xs h
  | .dict _,h=>by simp [PyData.canLay0] at h
theorem eqvAll_refl:∀ ds:List PyData,PyData.canLayAll0 ds=true→PyData.eqvAll ds ds=true
  | [],_=>rfl
  | d :: r,h=>by
    simp only [PyData.canLayAll0,Bool.and_eq_true] at h
    simp only [PyData.eqvAll,Bool.and_eq_true]
    exact ⟨eqv_refl d h.1,eqvAll_refl r h.2⟩
end
theorem canLay_all {α:Type} {f:α→PyData} (h:∀ a,(f a).canLay0=true):∀ l:List α,PyData.canLayAll0 (l.map f)=true
  | []=>rfl
  | a :: r=>by simp only [List.map_cons,PyData.canLayAll0,h a,canLay_all h r,Bool.and_self]
theorem depth_all {α:Type} {f:α→PyData} {n:Nat} (h:∀ a,(f a).depth≤n):∀ l:List α,PyData.depthAll (l.map f)≤n
  | []=>Nat.zero_le _
  | a :: r=>by
    have h1:=h a
    have h2:=depth_all h r
    simp only [List.map_cons,PyData.depthAll]
    omega
theorem shaped_list {α:Type} {f:α→PyData} {n:Nat} (h:∀ a,(f a).canLay0=true) (hd:∀ a,(f a).depth≤n) (hn:n<64) (l:List α):PySem.SeqAt.shaped (.list (l.map f))=true:=by
  unfold PySem.SeqAt.shaped
  rw [Bool.and_eq_true,decide_eq_true_eq]
  refine ⟨by simpa only [PyData.canLay0] using canLay_all h l,?_⟩
  have:=depth_all hd l
  simp only [PyData.depth]
  omega
end L2
namespace L2
open PySem PySem.Spec PyProof.Rows
end L2
namespace L2
open PySem PySem.Spec PyProof.Rows
section
variable {X:Cx}
theorem op_neDK (K:PySem.W.Frag) (h:X.K=K) (hu:X.A.units+64<cLine):OpR X (compareOp .NotEq) (rNeD K):=h ▸ op_neD hu
end
theorem ne_at {K:PySem.W.Frag} {H:Hp} {x y:V} {d e:PyData} {Q:VK} (hx:Deep K H x d) (hy:Deep K H y e) (sd:PySem.SeqAt.shaped d=true) (se:PySem.SeqAt.shaped e=true) (q:Q (.bl (!PyData.eqv d e)) H):rNeD K x y H Q:=⟨d,e,hx,hy,sd,se,q⟩
theorem lst_at {K:PySem.W.Frag} {H:Hp} {p:Addr} {ys:List V} {Q:VK} (h:SqL K H p ys) (q:∀ l,H l=none→Q (.ref l) (upd H l (.lst ys))):rLst K [.ref p] H Q:=⟨p,ys,rfl,.inl h,q⟩
theorem len_at {K:PySem.W.Frag} {H:Hp} {p:Addr} {ys:List V} {Q:VK} (h:SqL K H p ys) (q:Q (.int ys.length) H):rLen K [.ref p] H Q:=⟨p,ys,rfl,.inl h,q⟩
theorem slL_at {K:PySem.W.Frag} {H:Hp} {p:Addr} {xs:List V} {lo hi:Option Int} {Q:VK} (h:SqL K H p xs) (q:∀ l,H l=none→Q (.ref l) (upd H l (.lst (cutV xs lo hi)))):rSlL K (.ref p) lo hi H Q:=⟨p,xs,rfl,h,q⟩
theorem Row.copy {H:Hp} {l l':Addr} {ps:List Addr} {qs:List Q4} (R:Row H l ps qs) (h:H l'=none):Row (upd H l' (.lst (ps.map V.ref))) l' ps qs:=⟨upd_same,R.r.same (same_new h)⟩
end L2
namespace L2
open PySem PySem.Spec PyProof.Rows
section
variable {prog:Program} {w:World} {A:Around} {R:Result→Shared→Prop}
def MaxBuf (ns:List Int) (j:Nat) (buf:Array Value):Prop:=(j = 0∧buf = #[])∨∃ m t,buf = #[.int m t,.int m t]∧m∈ns.take j∧∀ n∈ns.take j,n≤m
def MaxRes (ns:List Int) (d v:Value):Prop:=(ns = []∧v=d)∨∃ m t,v = .int m t∧m∈ns∧∀ n∈ns,n≤m
theorem ints_get {ns:List Int} {its:List Value} (r:Vals (ns.map V.int) its) {j:Nat} {v:Value} (h:its.toArray[j]? = some v):∃ n t,ns[j]? = some n∧v = .int n t:=by
  have hj:j<its.length:=by
    have:=(Array.getElem?_eq_some_iff.mp h).1
    simpa using this
  have hl:=r.length
  rw [List.length_map] at hl
  have e:(ns.map V.int)[j]? = some (V.int ns[j]):=by simp [hl ▸ hj]
  obtain ⟨u,hu,t,ru⟩:=r.get e
  have:its[j]? = some v:=by simpa using h
  rw [this] at hu
  cases hu
  exact ⟨ns[j],t,by simp [hl ▸ hj],ru⟩
theorem max_loop {l it S:Addr} {ns:List Int} {its:List Value} {d:Value} (hh:A.handled=none) (hli:l≠it) (hSi:S≠it) (hSl:S≠l) (rv:Vals (ns.map V.int) its) :
    ∀ (k j:Nat) (s:Shared) (buf:Array Value) (c:Nat),its.length-j=k→j≤its.length→s.heap.IsListIter it l j→s.heap.IsList l its.toArray→MaxBuf ns j buf →
    s.heap.get? S=some { cls:=.type "list", dict:=none,data:=.seq buf c,slots:=#[] } →
    (∀ v h' tk,MaxRes ns d v→(∀ b o,b≠it→b≠S→s.heap.get? b=some o→h'.get? b=some o)→R (.ok (.ret v)) { s with heap:=h',toks:=tk }) →
    codeAny (model prog w) A (.builtin "max.loop" ⟨[.ref it,.none,.ref S],[("default", d)]⟩) R s:=by
  have hlen:ns.length=its.length:=by have:=rv.length; rwa [List.length_map] at this
  have nm:(toString "max" ++ toString ".loop" : String) = "max.loop" := by decide
  intro k
  induction k with
  | zero =>
    intro j s buf c hk hj hit hls hb hbuf fin
    have ej:j=its.length:=by omega
    refine codeAny_builtin F.entry_max_loop ?_
    rw [Around.under_plainId F.plain_max_loop _]
    show wpAny _ A.in1 (seqItems? (.ref S) >>= _) _ _ s
    refine wpAny_bind (wpAny_seqItems hbuf rfl ?_)
    show wpAny _ A.in1 (tryCatch (pyNext (.ref it)) _ >>= _) _ _ s
    refine wpAny_bind (wpAny_tryCatch (wpAny_pyNext_list_end (A:=A.in1) hh hit hls (by simp [ej]) fun h' ek=>?_))
    have hb':=ek S _ hSi hbuf
    rcases hb with ⟨e0,rfl⟩ | ⟨m,t,rfl,hm,hall⟩
    · refine wpAny_bind (wpAny_rule (wpAny_pure ?_))
      refine fin d h' s.toks (.inl ⟨List.length_eq_zero_iff.mp (by omega),rfl⟩) fun b o n1 _ e=>ek b o n1 e
    · show wpAny _ A.in1 (updateSeq S (fun _=>#[]) >>= _) _ _ _
      refine wpAny_bind (wpAny_updateSeq hb' rfl (wpAny_bind (wpAny_letGo (wpAny_pure ?_))))
      rw [List.take_of_length_le (by omega)] at hm hall
      exact fin _ _ s.toks (.inr ⟨m,t,rfl,hm,hall⟩) fun b o n1 n2 e=>(Heap.get?_update_other _ _ (Ne.symm n2)).trans (ek b o n1 e)
  | succ k ih =>
    intro j s buf c hk hj hit hls hb hbuf fin
    have hlt:j<its.length:=by omega
    refine codeAny_builtin F.entry_max_loop ?_
    rw [Around.under_plainId F.plain_max_loop _]
    show wpAny _ A.in1 (seqItems? (.ref S) >>= _) _ _ s
    refine wpAny_bind (wpAny_seqItems hbuf rfl ?_)
    show wpAny _ A.in1 (tryCatch (pyNext (.ref it)) _ >>= _) _ _ s
    have hv:its.toArray[j]? = some its[j]:=by simp [hlt]
    refine wpAny_bind (wpAny_tryCatch (wpAny_pyNext_list_item hit hls hv fun h' hit' hs'=>?_))
    obtain ⟨n,t,en,ev⟩:=ints_get rv hv
    rw [ev]
    have hb':=hs'.extBut S _ hSi hbuf
    have hls':h'.IsList l its.toArray:=hls.extBut hs'.extBut hli
    have step:∀ (m:Int) (tt:Tok) (s2:Shared) (c2:Nat),s2.heap.IsListIter it l (j+1)→s2.heap.IsList l its.toArray→s2.heap.get? S=some { cls:=.type "list", dict:=none,data:=.seq #[.int m tt,.int m tt] c2,slots:=#[] } →
        m∈ns.take (j+1)→(∀ z∈ns.take (j+1),z≤m)→(∀ b o,b≠it→b≠S→s.heap.get? b=some o→s2.heap.get? b=some o)→s2.gens=s.gens→s2.drawn=s.drawn→s2.os=s.os →
        codeAny (model prog w) A (.builtin "max.loop" ⟨[.ref it,.none,.ref S],[("default", d)]⟩) R s2:=fun m tt s2 c2 i1 i2 i3 i4 i5 i6 g1 g2 g3=>by
      refine ih (j+1) s2 _ c2 (by omega) hlt i1 i2 (.inr ⟨m,tt,rfl,i4,i5⟩) i3 fun v h'' tk'' r1 r2=>?_
      have:=fin v h'' tk'' r1 fun b o n1 n2 e=>r2 b o n1 n2 (i6 b o n1 n2 e)
      obtain ⟨q1,q2,q3,q4,q5⟩:=s2
      obtain ⟨p1,p2,p3,p4,p5⟩:=s
      cases g1; cases g2; cases g3
      exact this
    have etake:=take_snoc en
    have upd_keep:∀ (g:Obj→Obj) b o,b≠it→b≠S→s.heap.get? b=some o→(h'.update S g).get? b=some o:=fun g b o n1 n2 e=>(Heap.get?_update_other _ _ (Ne.symm n2)).trans (hs'.extBut b o n1 e)
    rcases hb with ⟨e0,rfl⟩ | ⟨m,t0,rfl,hm,hall⟩
    · show wpAny _ A.in1 (updateSeq S (fun _=>_) >>= _) _ _ _
      refine wpAny_bind (wpAny_updateSeq hb' rfl ?_)
      rw [nm]
      refine wpAny_pure ⟨plainId_quiet F.plain_max_loop _,step n t _ _ (hit'.at fun o e=>(Heap.get?_update_other _ _ hSi).trans e) (hls'.at fun o e=>(Heap.get?_update_other _ _ hSl).trans e) (Heap.get?_update_self _ hb' rfl) ?_ ?_ (upd_keep _) rfl rfl rfl⟩
      · rw [etake]; simp
      · rw [etake,e0]; simp
    · show wpAny _ A.in1 (tryCatch (holding [.int n t,.int n t] (richCompare .Gt (.int n t) (.int m t0) >>= _)) _ >>= _) _ _ _
      refine wpAny_bind (wpAny_tryCatch (wpAny_holding (wpAny_bind (richCompare_gives (op:=.Gt) (typeIs_int _ _ t) (typeIs_int _ _ t0) F.slot_int_gt F.entry_int_gt (F.args_int_gt_2 _ _) (gives_int_gt _ _ t t0) (fun x=>nomatch x) ?_))))
      refine wpAny_bind (wpAny_holding (wpAny_truthy_bool (wpAny_bind (wpAny_letGo (wpAny_pure ?_)))))
      by_cases hgt:n > m
      · simp only [hgt,decide_true,if_true]
        refine wpAny_bind (wpAny_updateSeq hb' rfl (wpAny_bind (wpAny_letGo ?_)))
        rw [nm]
        refine wpAny_pure ⟨plainId_quiet F.plain_max_loop _,step n t _ _ (hit'.at fun o e=>(Heap.get?_update_other _ _ hSi).trans e) (hls'.at fun o e=>(Heap.get?_update_other _ _ hSl).trans e) (Heap.get?_update_self _ hb' rfl) ?_ ?_ (upd_keep _) rfl rfl rfl⟩
        · rw [etake]; simp
        · rw [etake]
          intro z hz
          rcases List.mem_append.mp hz with hz | hz
          · have:=hall z hz; omega
          · have:z=n:=by simpa using hz
            omega
      · simp only [hgt,decide_false,Bool.false_eq_true,if_false]
        refine wpAny_bind (wpAny_letGo ?_)
        rw [nm]
        refine wpAny_pure ⟨plainId_quiet F.plain_max_loop _,step m t0 _ c hit' hls' hb' ?_ ?_ (fun b o n1 _ e=>hs'.extBut b o n1 e) rfl rfl rfl⟩
        · rw [etake]; exact List.mem_append_left _ hm
        · rw [etake]
          intro z hz
          rcases List.mem_append.mp hz with hz | hz
          · exact hall z hz
          · have:z=n:=by simpa using hz
            omega
theorem args_maxd (a d:Value):argsOk "max" ⟨[a],[("default", d)]⟩:=by unfold argsOk; kernel_rfl
theorem call_maxd {E:Value→Shared→Prop} {s:Shared} {l:Addr} {ns:List Int} {its:List Value} {d:Value} {Q:Value→Shared→Prop} (hh:A.handled=none) (hl:s.heap.IsList l its.toArray) (rv:Vals (ns.map V.int) its)
    (h:∀ v h' tk,MaxRes ns d v→(∀ b o,s.heap.get? b=some o→h'.get? b=some o)→Q v { s with heap:=h',toks:=tk }) :
    wpAny (model prog w) A (call (.builtin "max") [.ref l] [("default", d)]) Q E s:=by
  have nm:(toString "max" ++ toString ".loop" : String) = "max.loop" := by decide
  refine wpAny_call (codeAny_call_builtin F.plain_max F.entry_max ?_)
  have ca:checkBuiltinCall "max" ⟨[.ref l],[("default", d)]⟩ = pure ():=by
    simp only [checkBuiltinCall,F.kind_max]
    cases hsig:Manifest.signature? "max" with
    | none=>rfl
    | some sig =>
      have ha:=args_maxd (.ref l) d
      simp only [argsOk,hsig] at ha
      exact ha
  rw [ca]
  refine wpAny_pure ?_
  show wpAny _ A.in1 (Builtin.Builtins.bindParams "max" ["key", "default"] 0 ⟨[],[("default", d)]⟩ >>= _) _ _ s
  refine wpAny_bind (wpAny_of_eq (show Builtin.Builtins.bindParams "max" ["key", "default"] 0 ⟨[],[("default", d)]⟩ = pure [none,some d] from rfl) ?_)
  refine wpAny_bind (wpAny_pure ?_)
  have hlt:l<s.heap.objs.size:=by obtain ⟨_,e,_⟩:=id hl; exact Heap.lt_size e
  refine wpAny_bind (wpAny_pyIter_list hl ?_)
  refine wpAny_bind (wpAny_newObj_type ?_)
  rw [nm]
  have kp:∀ (x y:Obj) b o,s.heap.get? b=some o→((s.heap.push x).push y).get? b=some o:=fun x y b o e=>Heap.get?_push_of_some _ (Heap.get?_push_of_some _ e)
  refine wpAny_pure ⟨plainId_quiet F.plain_max_loop _,?_⟩
  refine max_loop (it:=s.heap.objs.size) (S:=(s.heap.push _).objs.size) hh (Nat.ne_of_lt hlt) (by rw [Heap.size_push]; exact Nat.succ_ne_self _) (by rw [Heap.size_push]; exact Nat.ne_of_gt (Nat.lt_succ_of_lt hlt)) rv its.length 0 _ #[] 0 rfl (Nat.zero_le _)
    ⟨_,Heap.get?_push_of_some _ (Heap.get?_push_size _ rfl),rfl,rfl⟩ (hl.at fun o e=>kp _ _ _ _ e) (.inl ⟨rfl,rfl⟩) (Heap.get?_push_size _ rfl) fun v h' tk r1 r2=>?_
  refine h v h' tk r1 fun b o e=>r2 b o (Nat.ne_of_lt (Heap.lt_size e)) (Nat.ne_of_lt ?_) (kp _ _ _ _ e)
  rw [Heap.size_push]; exact Nat.lt_succ_of_lt (Heap.lt_size e)
end
def tMaxD (K:PySem.W.Frag) (t:TA) (td:TE):TE:=fun σ H Q=>t σ H fun xs H1=>td σ H1 fun y H2=>∃ (p:Addr) (ns:List Int) (d:Int),xs = [.ref p]∧y = .int d∧SqL K H2 p (ns.map V.int) ∧
  ∀ m,(ns = []→m=d)→(ns≠[]→m∈ns∧∀ n∈ns,n≤m)→Q (.int m) H2
theorem pe_maxD {X:Cx} (K:PySem.W.Frag) (hK:X.K=K) (hc:X.calm=true) {l d:Expr} {t:TA} {td:TE} {p pos kpos:Pos} (hg:Gl X "max") (hm:X.mg "max" = none) (hl:PA X [l] t) (hd:PE X d td)
    (he:starEach [l] X.env = [(false,eval l X.env)]:=by rfl) :
    PE X (.Call (.Name "max" p) [l] [⟨some "default", d,kpos⟩] pos) (tMaxD K t td):=by
  subst hK
  intro pins s σ H Q I h
  refine wpAny_Call_Name_kw (ld_blt I hg hm boot_max ?_)
  refine callWith_kw (he:=by rw [he]; rfl) (hplain:=by rw [he]; rfl) ?_
  refine thn (hl pos pins s σ H _ I h) fun us s1 ⟨xs,H1,I1,r1,q1⟩=>?_
  refine kws_cons (thn (hd pins s1 σ H1 _ I1 q1) fun y s2 ⟨yv,H2,I2,r2,q2⟩=>kws_nil ?_)
  obtain ⟨a,ns,dd,rfl,rfl,hq,fin⟩:=q2
  obtain ⟨u,rfl,ru⟩:=vals1 r1
  cases (show u=Value.ref a from ru)
  obtain ⟨t2,rfl⟩:=(show ∃ t,y=Value.int dd t from r2)
  obtain ⟨its,rv,hp,hz⟩:=I2.list hq
  refine call_maxd (I2.ok.hd hc) hp.isList rv fun v h' tk r k=>?_
  rcases r with ⟨e,rfl⟩ | ⟨m,t3,rfl,e1,e2⟩
  · exact ⟨.int dd,H2,I2.kept (t':=tk) k,⟨_,rfl⟩,fin dd (fun _=>rfl) fun z=>absurd e z⟩
  · exact ⟨.int m,H2,I2.kept (t':=tk) k,⟨_,rfl⟩,fin m (fun z=>by rw [z] at e1; cases e1) fun _=>⟨e1,e2⟩⟩
end L2
namespace L2
open PySem PySem.Spec PyProof.Rows
def XTr (B:Heap) (e:Addr) (h:Heap) (vs:Array Value):Option Value→Prop
  | none=>vs[1]? = some Value.none
  | some f=>∃ T oT ts,vs[1]? = some (.ref T)∧B.get? T=none∧T≠e∧h.get? T=some oT∧oT.data = .fields ts∧ts[3]? = some f
structure XAt (B:Heap) (e:Addr) (cls:Value) (dct:Option Addr) (fl:Option Value) (h:Heap):Prop where
  stay:B.StaysIn h
  new:B.get? e=none
  ex:∃ oe vs,h.get? e=some oe∧oe.cls=cls∧oe.dict=dct∧oe.data = .fields vs∧1<vs.size∧XTr B e h vs fl
section
variable {M:Model} {A:Around} {E:Value→Shared→Prop} {s:Shared} {B:Heap} {env:Env} {outer:List Env} {L e:Addr} {cls:Value} {dct:Option Addr}
end
end L2
namespace L2
open PySem PySem.Spec PyProof.Rows
abbrev bmV:List Value:=[.type "ValueError", .type "Exception", .type "BaseException", .type "object"]
structure XC (K:PySem.W.Frag) (C:Addr):Prop where
  hd:PySem.W.hasDictIn K C=true
  ga:PySem.W.findIn K (.ref C) "__getattribute__" = some (some (.builtin "BaseException.__getattribute__"))
  gn:PySem.W.findIn K (.ref C) "__getattr__" = some none
  sa:PySem.W.findIn K (.ref C) "__setattr__" = some (some (.builtin "object.__setattr__"))
  cl:PySem.W.findIn K (.ref C) "__class__" = some (some (.builtin "object.__class__"))
  kg:PySem.W.specialIn K (.builtin "object.__class__") "__get__" = some (some (.builtin "getset_descriptor.__get__"))
  kt:PySem.W.takesIn K (.builtin "object.__class__")=some true
  be:PySem.W.mroIn K C (.type "BaseException")=some true
  ob:PySem.W.mroIn K C (.type "object")=some true
  ex:∃ nm q N bs bm hdct sn sub ab col dd k0 k1 k2 k3 k5,K.lookup C=some (excClassObj nm q C N bs bm hdct sn sub ab col dd k0 k1 k2 k3 k5 "ValueError.__new__")∧PySem.W.tailIn K bmV bm=true
section
variable {prog:Program} {w:World} {A:Around} {E:Value→Shared→Prop} {s:Shared} {K:PySem.W.Frag} {x C:Addr} {ox:Obj} {od:Option Obj}
end
end L2
namespace L2
open PySem PySem.Spec PyProof.Rows
def XOb (e C:Addr) (dct:Option Addr) (fr:Bool) (h:Heap):Prop:=∃ oe vs,h.get? e=some oe∧oe.cls = .ref C∧oe.dict=dct∧oe.data = .fields vs∧1<vs.size∧(fr=true→vs[1]? = some Value.none)
def excO (e C:Addr) (dct:Option Addr) (fr:Bool):HO:=.ext (XOb e C dct fr)
section
variable {P:Program} {w:World} {H:Hp} {h:Heap}
end
structure Fly (P:Program) (w:World) (B:Heap) (l:List Env) (e C:Addr) (dct:Option Addr) (H:Hp) (h:Heap):Prop where
  at_:∃ fl,(fl=none∨fl=some Value.none)∧XAt B e (.ref C) dct fl h
  ff:h.FunFrames B l
  hok:HOk P w H h
  he:H e=some (excO e C dct false)
  cov:∀ a o,H a=some o→a≠e→∃ ob,B.get? a=some ob
def CXX (P:Program) (w:World):CXT:=fun outer H s E e s'=>∃ B ea C dct H',e = .ref ea∧s'.os=s.os∧AllBare s'.gens∧Fly P w B outer ea C dct H' s'.heap∧Un (frs outer) [] H H' s.heap s'.heap ∧
  (∀ b o,s.heap.get? b=some o→H b=none→b ∉ frs outer→B.get? b=some o)∧E (.ref ea) dct H'
section
variable {X:Cx} {pins:List (Addr×Obj)} {σ:St} {H H':Hp} {s:Shared} {h':Heap}
end
end L2
namespace L2
open PySem PySem.Spec PyProof.Rows
abbrev XH:=Value→Option Addr→St→Hp→Prop
def PassesX (CX:CXT) (X:Cx) (Ek:XH):Prop:=∀ (pins:List (Addr×Obj)) (σ:St) (H:Hp) (s:Shared) (e:Value) (s':Shared),Inv X pins σ H s→CX X.stack H s (fun v d H'=>Ek v d σ H') e s'→X.xe e s'
abbrev EX0:XH:=fun _ _ _ _=>False
theorem passN {P:Program} {w:World} {X:Cx}:PassesX (CXX P w) X EX0:=fun _ _ _ _ _ _ _ ⟨_,_,_,_,_,_,_,_,_,_,_,h⟩=>h.elim
section
variable {X:Cx} {pins:List (Addr×Obj)} {σ:St} {H H':Hp} {s s':Shared} {B h':Heap} {e C:Addr} {dct:Option Addr} {fl:Option Value}
end
section
variable {P:Program} {w:World} {K:PySem.W.Frag} {mg:Str→Option Value} {base:Heap} {N:List Str} {qual:Str} {sc:Scope} {f:Addr} {cd:Value} {A:Around} {outer:List Env} {s₀:Shared} {H₀:Hp} {E:XK}
end
section
variable {P:Program} {w:World} {X:Cx} {pins pins':List (Addr×Obj)} {Hk:XH} {σ:St} {H:Hp} {s:Shared}
end
section
variable {X:Cx} {pins:List (Addr×Obj)} {σ:St} {H:Hp} {s:Shared} {e:Addr}
end
def tCallX (sp:Sp) (Ek:XH) (t:TA):TE:=fun σ H Q=>t σ H fun vs H1=>sp vs H1 Q (fun v d H'=>Ek v d σ H')
section
variable {X:Cx} {CX:CXT} {k:Nat} {x:Str} {ps:List Str} {sp:Sp} {Ek:XH} {p pos:Pos} {e:Expr} {es:List Expr} {t:TA}
theorem pe_callX (D:Def X.prog X.w X.K X.mg X.base CX k x ps sp) (hr:Room k X.A) (hg:Gl X x) (hx:PassesX CX X Ek) (ha:PA X (e :: es) t)
    (hdb:(x == ("__debug__" : Str))=false:=by decide) (he:starEach (e :: es) X.env=(false,eval e X.env) :: starEach es X.env:=by rfl) (hpl:(backTo pos (starEach es X.env)).any (·.1)=false:=by rfl) :
    PE X (.Call (.Name x p) (e :: es) [] pos) (tCallX sp Ek t):=by
  obtain ⟨f,fd,F,hb,hk,hm⟩:=D.ex
  intro pins s σ H Q I h
  refine wpAny_Call_Name_kw (ld_glob I hg hm ?_ hdb)
  refine PySem.W.callWith_K (h₀:=X.base) I.ok.mod.kin hk (thn (ha pos pins s σ H _ I h) fun us s1 ⟨vs,H1,I1,r,q⟩=>⟨I1.kIn,?_⟩) he hpl
  have hl:(us++[]).length=ps.length:=by rw [List.append_nil,← r.length]; exact F.len _ _ _ _ q
  have hbb:=hb s1 us I1.kIn hl
  rw [List.append_nil] at hbb
  refine wpAny_call (codeAny_mono (F.run X.A X.stack s1 H1 ⟨us,[]⟩ us vs Q _ hr I1.env0 hbb r q) fun r s' hq=>?_)
  cases r with
  | error e=>exact hx pins σ H1 s1 e s' I1 hq
  | ok fl =>
    cases fl with
    | ret u=>exact I1.after hq
    | next=>exact False.elim hq
    | brk=>exact False.elim hq
    | cont=>exact False.elim hq
end
theorem Src.okN {P:Program} {w:World} {K:PySem.W.Frag} {mg:Str→Option Value} {base:Heap} {CX:CXT} {x:Str} {st:Stmt} {N ps:List Str} {k:Nat} {sp:Sp} (F:Src K mg x st ps) (S:FnScope N ps (defScope st)) (len:∀ vs H Q E,sp vs H Q E→vs.length=ps.length)
    (hbody:∀ (f:Addr) (cdv:Value) (A:Around) (outer:List Env) (s:Shared) (H:Hp) (vs:List V) (Q:VK) (E:XK),Room k (A.deeper (envOfC x (defScope st) s.heap.objs.size f cdv))→sp vs H Q E →
      ∃ t,PSs (cxOf CX P w K mg base N x (defScope st) f cdv A outer s H E).nox (defBody st) t∧t { nx:=fun _ H'=>Q .non H',rt:=Q } (start N vs) H):Def P w K mg base CX (k+1) x ps sp:=by
  obtain ⟨f,fd,F,b,m⟩:=F.ex
  obtain ⟨oc,od,kV,doc,pm,an,cdv,ct,osl,rfl,lk,hcd⟩:=F.ex
  exact ⟨f,_,fn_of lk hcd S len fun A outer s H vs Q E hr hsp=>by
    obtain ⟨t,h,q⟩:=hbody f cdv A outer s H vs Q E hr hsp
    exact ⟨t,h.nox,q⟩,b,F.kp,m⟩
def tXmk (C:Addr) (t:TA):TE:=fun σ H Q=>t σ H fun vs H1=>vs.length≤1000∧∀ e,H1 e=none→Q (.ref e) (upd H1 e (excO e C none true))
def tRaise (K:PySem.W.Frag) (Ek:XH) (te:TE):TS:=fun _ σ H=>te σ H fun v H1=>∃ e C dct,v = .ref e∧H1 e=some (excO e C dct true)∧XC K C∧Ek (.ref e) dct σ (upd H1 e (excO e C dct false))
section
variable {X:Cx} {C:Addr} {x:Str} {p pos:Pos} {e:Expr} {es:List Expr} {t:TA}
end
section
variable {prog:Program} {w:World} {A:Around} {E:Value→Shared→Prop} {s:Shared} {K:PySem.W.Frag} {e C C':Addr}
end
def hkOf (K:PySem.W.Frag) (C':Addr) (th:Addr→TS) (D:Ends):XH:=fun v d σ H=>∃ e C,v = .ref e∧H e=some (excO e C d false)∧PySem.W.subIn K (.ref C) (.ref C')=some true∧th e D σ H
def tTry (K:PySem.W.Frag) (C':Addr) (tb:XH→TS) (th:TS):TS:=fun D σ H=>tb (hkOf K C' (fun _=>th) D) D σ H
def tTryAs (K:PySem.W.Frag) (C':Addr) (i:Nat) (tb:XH→TS) (th:TS):TS:=fun D σ H =>
  tb (hkOf K C' (fun e D σ H=>th { nx:=fun σ H=>D.nx (σ.set i none) H,rt:=D.rt,bk:=fun σ H=>D.bk (σ.set i none) H,ct:=fun σ H=>D.ct (σ.set i none) H } (σ.set i (some (.ref e))) H) D) D σ H
section
variable {P:Program} {w:World} {X:Cx} {C':Addr} {x:Str} {np hpos pos:Pos} {body suite:List Stmt} {b0:Stmt} {tb:XH→TS} {th:TS}
end
end L2
namespace L2
open PySem PySem.Spec PyProof.Rows
section
variable {X:Cx}
end
end L2
namespace L2
open PySem PySem.Spec PyProof.Rows
section
variable {K:PySem.W.Frag} {C C':Addr}
end
end L2
namespace L2
open PySem PySem.Spec PyProof.Rows
end L2
namespace L2
open PySem PySem.Spec PyProof.Rows
abbrev TupsF {α:Type} (enc:α→List V) (H:Hp):List Addr→List α→Prop:=Paired fun p q=>H p=some (.tup (enc q))
section
variable {α:Type} {enc:α→List V} {H H':Hp} {ps:List Addr} {qs:List α}
theorem tupsF_len (h:TupsF enc H ps qs):ps.length=qs.length:=Paired.length h
theorem tupsF_same (h:TupsF enc H ps qs) (e:Same H H'):TupsF enc H' ps qs:=Paired.mapP h fun _ _ q=>e _ _ q
theorem tupsF_keep (h:TupsF enc H ps qs) (e:∀ p xs,H p=some (.tup xs)→H' p=some (.tup xs)):TupsF enc H' ps qs:=Paired.mapP h fun _ _ q=>e _ _ q
theorem tupsF_snoc {t:Addr} {q:α} (ht:H t=some (.tup (enc q))):∀ {ps:List Addr} {qs:List α},TupsF enc H ps qs→TupsF enc H (ps++[t]) (qs++[q])
  | _,_,Paired.nil=>.cons ht .nil
  | _,_,Paired.cons a b=>.cons a (tupsF_snoc ht b)
theorem tupsF_app {ps':List Addr} {qs':List α} (h':TupsF enc H ps' qs'):∀ {ps:List Addr} {qs:List α},TupsF enc H ps qs→TupsF enc H (ps++ps') (qs++qs')
  | _,_,Paired.nil=>h'
  | _,_,Paired.cons a b=>.cons a (tupsF_app h' b)
theorem tupsF_get:∀ {ps:List Addr} {qs:List α} {i:Nat} {p:Addr},TupsF enc H ps qs→ps[i]? = some p→∃ q,qs[i]? = some q∧H p=some (.tup (enc q))
  | _,_,_,_,Paired.nil,e=>by simp at e
  | _,_,0,_,Paired.cons a _,e=>by simp at e; subst e; exact ⟨_,rfl,a⟩
  | _,_,i+1,_,Paired.cons _ b,e=>by
    obtain ⟨q,h1,h2⟩:=tupsF_get (i:=i) b (by simpa using e)
    exact ⟨q,by simpa using h1,h2⟩
structure Lst (enc:α→List V) (H:Hp) (l:Addr) (ps:List Addr) (qs:List α):Prop where
  hl:H l=some (.lst (ps.map V.ref))
  r:TupsF enc H ps qs
end
abbrev F2:=Int×Int
def f2 (q:F2):List V:=[.int q.1,.int q.2]
end L2
namespace Sw
open L2
def nrm (q:F2):F2:=(rN q.1 q.2,rD q.1 q.2)
theorem nrm_fr {q:F2} (h:q.2≠0):Fr (nrm q).1 (nrm q).2:=rat_fr h
theorem nrm_cross {q:F2} (h:q.2≠0):(nrm q).1*q.2=(nrm q).2*q.1:=rat_cross h
end Sw
namespace L2
open PySem PySem.Spec PyProof.Rows
theorem app_at {H:Hp} {l:Addr} {xs:List V} {y:V} {Q:VK} (h:H l=some (.lst xs)) (hz:xs.length<1000) (q:Q .non (upd H l (.lst (xs++[y])))):rAppend (.ref l) [y] H Q:=⟨l,xs,y,rfl,rfl,h,line_lt hz,q⟩
theorem tyL_at {K:PySem.W.Frag} {H:Hp} {l:Addr} {xs:List V} (h:H l=some (.lst xs)):tyV K "list" (.ref l) H:=.inl ⟨rfl,_,.of h⟩
end L2
namespace L2
open PySem PySem.Spec PyProof.Rows
def tCallN (sp:Sp) (t:TA):TE:=fun σ H Q=>t σ H fun vs H1=>sp vs H1 Q E0
section
variable {P:Program} {w:World} {X:Cx} {k:Nat} {x:Str} {ps:List Str} {sp:Sp} {p pos:Pos} {e:Expr} {es:List Expr} {t:TA}
end
end L2
namespace L2
open PySem PySem.Spec PyProof.Rows
end L2
namespace L2
open PySem PySem.Spec PyProof.Rows
end L2
namespace L2
open PySem PySem.Spec PyProof.Rows
section
variable {X:Cx} {o value:Expr} {f:Str} {pos pos':Pos} {ta tv:TE}
end
def tXmk1 (C:Addr) (sp:Sp) (t:TA):TE:=fun σ H Q=>t σ H fun vs H1=>vs.length≤1000∧∀ e,H1 e=none→sp (.ref e :: vs) (upd H1 e (excO e C none true)) (fun v H2=>v = .non∧Q (.ref e) H2) E0
end L2
namespace L2
open PySem PySem.Spec PyProof.Rows
end L2
namespace L2
open PySem PySem.Spec PyProof.Rows
section
variable {X:Cx}
end
end L2
namespace Sw
open L2
def Fine (i:Nat) (b:Int) (q:Q4):Prop:=i<60∧0≤q.1∧q.1≤1000000000000∧0≤q.2.1∧q.2.1≤11∧1≤q.2.2.1∧q.2.2.1≤1000000∧1≤q.2.2.2∧q.2.2.2≤1000000∧b≤q.1
instance (i:Nat) (b:Int) (q:Q4):Decidable (Fine i b q):=by unfold Fine; infer_instance
end Sw
namespace L2
open PySem PySem.Spec PyProof.Rows
def BindsV (K:PySem.W.Frag) (fd:FuncData) (ps:List Str) (dvs:List V):Prop:=∃ ds,Vals dvs ds∧Binds K fd ps ds
theorem BindsV.nil {K:PySem.W.Frag} {fd:FuncData} {ps:List Str} (h:Binds K fd ps []):BindsV K fd ps []:=⟨[],.nil,h⟩
structure FunE (K:PySem.W.Frag) (x qual:Str) (st:Stmt) (f:Addr) (fd:FuncData):Prop where
  ex:∃ (oc:Value) (od:Option Addr) (dV kV doc pm:Value) (an:Option Addr) (cdv ct:Value) (osl:Array (Option Value)),
    fd=PySem.W.fnOf x qual (defArgs st) (defBody st) (defScope st) dV kV doc pm an cdv ct∧K.lookup f=some ⟨oc,od,.func fd,osl⟩∧PySem.W.codeIn K cdv qual=true
theorem funE_mk {K:PySem.W.Frag} {x qual:Str} {st:Stmt} {f:Addr} {oc:Value} {od an:Option Addr} {osl:Array (Option Value)} {dV kV doc pm cdv ct:Value} (l:K.lookup f=some ⟨oc,od,.func (PySem.W.fnOf x qual (defArgs st) (defBody st) (defScope st) dV kV doc pm an cdv ct),osl⟩)
    (c:PySem.W.codeIn K cdv qual=true):FunE K x qual st f (PySem.W.fnOf x qual (defArgs st) (defBody st) (defScope st) dV kV doc pm an cdv ct):=⟨⟨oc,od,dV,kV,doc,pm,an,cdv,ct,osl,rfl,l,c⟩⟩
theorem binds_dflt {K:PySem.W.Frag} {fd:FuncData} {ps:List Str} {ds:List Value} {T:Addr} {oc:Value} {od:Option Addr} {n:Nat} {osl:Array (Option Value)} {items:Array Value} (hd:fd.defaults = .ref T) (lk:K.lookup T=some ⟨oc,od,.seq items n,osl⟩)
    (h:∀ us:List Value,(us++ds).length=ps.length→∃ k:Option (Array Value)→Sem (List (Str×Value)),bindArgs fd ⟨us,[]⟩ = seqItems? fd.defaults >>= k∧k (some items)=pure (ps.zip (us++ds))):Binds K fd ps ds:=fun s us kx hl=>by
  obtain ⟨k,h1,h2⟩:=h us hl
  exact BindsTo.of_defaults hd (kx _ _ lk) rfl h1 h2
structure MethD (P:Program) (w:World) (K:PySem.W.Frag) (mg:Str→Option Value) (base:Heap) (CX:CXT) (k:Nat) (C:Addr) (m:Str) (ps:List Str) (dss:List (List V)) (sp:Sp):Prop where
  ex:∃ (f:Addr) (fd:FuncData),FnOk P w K mg base CX k f fd ps sp∧Meth K C m f∧∀ dvs∈dss,BindsV K fd ps dvs
structure MkD (P:Program) (w:World) (K:PySem.W.Frag) (mg:Str→Option Value) (base:Heap) (CX:CXT) (k:Nat) (C:Addr) (ps:List Str) (dss:List (List V)) (sp:Sp):Prop where
  ex:∃ (f:Addr) (fd:FuncData),FnOk P w K mg base CX k f fd ps sp∧Mk K C f∧∀ dvs∈dss,BindsV K fd ps dvs
structure SrcM (K:PySem.W.Frag) (C:Addr) (m qual:Str) (st:Stmt) (ps:List Str) (dss:List (List V)):Prop where
  ex:∃ (f:Addr) (fd:FuncData),FunE K m qual st f fd∧Meth K C m f∧∀ dvs∈dss,BindsV K fd ps dvs
structure SrcK (K:PySem.W.Frag) (C:Addr) (qual:Str) (st:Stmt) (ps:List Str) (dss:List (List V)):Prop where
  ex:∃ (f:Addr) (fd:FuncData),FunE K "__init__" qual st f fd∧Mk K C f∧∀ dvs∈dss,BindsV K fd ps dvs
section
variable {P:Program} {w:World} {K:PySem.W.Frag} {mg:Str→Option Value} {base:Heap} {CX:CXT} {C:Addr} {m qual:Str} {st:Stmt} {N ps:List Str} {dss:List (List V)} {k:Nat} {sp:Sp}
theorem SrcM.okN (F:SrcM K C m qual st ps dss) (S:FnScope N ps (defScope st)) (len:∀ vs H Q E,sp vs H Q E→vs.length=ps.length)
    (hbody:∀ (f:Addr) (cdv:Value) (A:Around) (outer:List Env) (s:Shared) (H:Hp) (vs:List V) (Q:VK) (E:XK),Room k (A.deeper (envOfC qual (defScope st) s.heap.objs.size f cdv))→sp vs H Q E →
      ∃ t,PSs (cxOf CX P w K mg base N qual (defScope st) f cdv A outer s H E).nox (defBody st) t∧t { nx:=fun _ H'=>Q .non H',rt:=Q } (start N vs) H):MethD P w K mg base CX (k+1) C m ps dss sp:=by
  obtain ⟨f,fd,F,me,b⟩:=F.ex
  obtain ⟨oc,od,dV,kV,doc,pm,an,cdv,ct,osl,rfl,lk,hcd⟩:=F.ex
  exact ⟨f,_,fn_of lk hcd S len fun A outer s H vs Q E hr hsp=>by
    obtain ⟨t,h,q⟩:=hbody f cdv A outer s H vs Q E hr hsp
    exact ⟨t,h.nox,q⟩,me,b⟩
theorem SrcK.okN (F:SrcK K C qual st ps dss) (S:FnScope N ps (defScope st)) (len:∀ vs H Q E,sp vs H Q E→vs.length=ps.length)
    (hbody:∀ (f:Addr) (cdv:Value) (A:Around) (outer:List Env) (s:Shared) (H:Hp) (vs:List V) (Q:VK) (E:XK),Room k (A.deeper (envOfC qual (defScope st) s.heap.objs.size f cdv))→sp vs H Q E →
      ∃ t,PSs (cxOf CX P w K mg base N qual (defScope st) f cdv A outer s H E).nox (defBody st) t∧t { nx:=fun _ H'=>Q .non H',rt:=Q } (start N vs) H):MkD P w K mg base CX (k+1) C ps dss sp:=by
  obtain ⟨f,fd,F,me,b⟩:=F.ex
  obtain ⟨oc,od,dV,kV,doc,pm,an,cdv,ct,osl,rfl,lk,hcd⟩:=F.ex
  exact ⟨f,_,fn_of lk hcd S len fun A outer s H vs Q E hr hsp=>by
    obtain ⟨t,h,q⟩:=hbody f cdv A outer s H vs Q E hr hsp
    exact ⟨t,h.nox,q⟩,me,b⟩
end
def tMethX (C:Addr) (m:Str) (sp:Sp) (dvs:List V) (Ek:XH) (ta:TE) (t:TA):TE:=fun σ H Q=>ta σ H fun x H1=>∃ a dx fs,x = .ref a∧H1 a=some (.ins C dx fs)∧fs.lookup m=none ∧
  t σ H1 fun vs H2=>sp (x :: (vs++dvs)) H2 Q (fun v d H'=>Ek v d σ H')
def tMakeX (C:Addr) (sp:Sp) (dvs:List V) (Ek:XH) (t:TA):TE:=fun σ H Q=>t σ H fun vs H1=>∀ x dx,H1 x=none→H1 dx=none→dx≠x →
  sp (.ref x :: (vs++dvs)) (upd (upd H1 dx (.own x)) x (.ins C dx [])) (fun v H2=>v = .non∧Q (.ref x) H2) (fun v d H'=>Ek v d σ H')
section
variable {X:Cx} {CX:CXT} {k:Nat} {f C:Addr} {fd:FuncData} {ps:List Str} {sp:Sp} {dvs:List V} {dss:List (List V)} {Ek:XH} {x m:Str} {p pos apos:Pos} {e o:Expr} {es:List Expr} {ta:TE} {t:TA}
theorem run_fnX {pins:List (Addr×Obj)} {σ:St} {H:Hp} {s:Shared} {Q:VK} {us:List Value} {vs:List V} (F:FnOk X.prog X.w X.K X.mg X.base CX k f fd ps sp) (hr:Room k X.A) (hb:BindsV X.K fd ps dvs) (hx:PassesX CX X Ek)
    (I:Inv X pins σ H s) (r:Vals vs us) (h:sp (vs++dvs) H Q (fun v d H'=>Ek v d σ H')):wpAny (model X.prog X.w) X.A (call (.ref f) us) (EP X pins σ Q) X.xe s:=by
  obtain ⟨ds,hd,hb⟩:=hb
  have r2:Vals (vs++dvs) (us++ds):=r.append hd
  have hl:(us++ds).length=ps.length:=by rw [← r2.length]; exact F.len _ _ _ _ h
  refine wpAny_call (codeAny_mono (F.run X.A X.stack s H ⟨us,[]⟩ (us++ds) (vs++dvs) Q _ hr I.env0 (hb s us I.kIn hl) r2 h) fun r s' hq=>?_)
  cases r with
  | error e=>exact hx pins σ H s e s' I hq
  | ok fl =>
    cases fl with
    | ret u=>exact I.after hq
    | next=>exact False.elim hq
    | brk=>exact False.elim hq
    | cont=>exact False.elim hq
theorem pe_methX {pl:Sem Bool} (D:MethD X.prog X.w X.K X.mg X.base CX k C m ps dss sp) (hin:dvs∈dss) (c:Cls X.K C) (hr:Room k X.A) (hx:PassesX CX X Ek) (he:PE X o ta) (ha:PA X (e :: es) t)
    (hst:starEach (e :: es) X.env=(false,eval e X.env) :: starEach es X.env:=by rfl) (hpl:(backTo pos (starEach es X.env)).any (·.1)=false:=by rfl)
    (ht:eval (.Call (.Attribute o m apos) (e :: es) [] pos) X.env=(do
      let ov ← eval o X.env
      standAt apos.atName
      let (f,first) ← holding [ov] (getMethod ov m pl)
      callWith pos f first (backTo pos (starEach (e :: es) X.env)) (backToKw pos (keywordEach [] X.env))):=by rfl) :
    PE X (.Call (.Attribute o m apos) (e :: es) [] pos) (tMethX C m sp dvs Ek ta t):=by
  obtain ⟨f,fd,F,hm,hb⟩:=D.ex
  intro pins s σ H Q I h
  refine PySem.W.methodCall_KW (pl:=pl) (thn (he pins s σ H _ I h) fun u s1 ⟨x,H1,I1,rx,a,dx,fs,ex,ea,l,q⟩=>?_) ht
  subst ex
  obtain rfl:u=Value.ref a:=rx
  refine getmeth_ok I1 ea c hm l ?_
  refine PySem.W.callWith_K (first:=[.ref a]) (h₀:=X.base) I.ok.mod.kin hm.kp (thn (ha pos pins s1 σ H1 _ I1 q) fun us s2 ⟨vs,H2,I2,r,q2⟩=>⟨I2.kIn,?_⟩) hst hpl
  exact run_fnX (us:=.ref a :: us) (vs:=.ref a :: vs) F hr (hb _ hin) hx I2 (.cons rfl r) q2
theorem pe_methX0 {pl:Sem Bool} (D:MethD X.prog X.w X.K X.mg X.base CX k C m ps dss sp) (hin:dvs∈dss) (c:Cls X.K C) (hr:Room k X.A) (hx:PassesX CX X Ek) (he:PE X o ta)
    (ht:eval (.Call (.Attribute o m apos) [] [] pos) X.env=(do
      let ov ← eval o X.env
      standAt apos.atName
      let (f,first) ← holding [ov] (getMethod ov m pl)
      callWith pos f first (backTo pos (starEach [] X.env)) (backToKw pos (keywordEach [] X.env))):=by rfl) :
    PE X (.Call (.Attribute o m apos) [] [] pos) (tMethX C m sp dvs Ek ta tNil):=by
  obtain ⟨f,fd,F,hm,hb⟩:=D.ex
  intro pins s σ H Q I h
  refine PySem.W.methodCall_KW (pl:=pl) (thn (he pins s σ H _ I h) fun u s1 ⟨x,H1,I1,rx,a,dx,fs,ex,ea,l,q⟩=>?_) ht
  subst ex
  obtain rfl:u=Value.ref a:=rx
  refine getmeth_ok I1 ea c hm l ?_
  exact PySem.W.callWith_K0 (first:=[.ref a]) I1.kIn hm.kp (run_fnX (us:=[.ref a]) (vs:=[.ref a]) F hr (hb _ hin) hx I1 (.cons rfl .nil) q)
theorem run_makeX {pins:List (Addr×Obj)} {σ:St} {H:Hp} {s:Shared} {Q:VK} {us:List Value} {vs:List V} (M:Mk X.K C f) (F:FnOk X.prog X.w X.K X.mg X.base CX k f fd ps sp) (hr:Room (k+1) X.A) (hb:BindsV X.K fd ps dvs)
    (hx:PassesX CX X Ek) (I:Inv X pins σ H s) (r:Vals vs us)
    (h:∀ x dx,H x=none→H dx=none→dx≠x→sp (.ref x :: (vs++dvs)) (upd (upd H dx (.own x)) x (.ins C dx [])) (fun v H2=>v = .non∧Q (.ref x) H2) (fun v d H'=>Ek v d σ H')) :
    wpAny (model X.prog X.w) X.A (call (.ref C) us) (EP X pins σ Q) X.xe s:=by
  obtain ⟨ds,hd,hb⟩:=hb
  have hq:=h (s.heap.objs.size+1) s.heap.objs.size (I.hok.fresh (Nat.le_succ _)) (I.hok.fresh (Nat.le_refl _)) (Nat.ne_of_lt (Nat.lt_succ_self _))
  have I2:=Inv.made (C:=C) I
  have r2:Vals (V.ref (s.heap.objs.size+1) :: (vs++dvs)) (Value.ref (s.heap.objs.size+1) :: (us++ds)):=.cons rfl (r.append hd)
  have hl:(Value.ref (s.heap.objs.size+1) :: us++ds).length=ps.length:=by
    have e:=r2.length
    rw [F.len _ _ _ _ hq] at e
    exact e.symm
  refine wpAny_call (make_map (f:=f) I.kIn M.makes M.init (beq_iff_eq.mp M.fn) (codeAny_mono (F.run _ X.stack _ _ ⟨Value.ref (s.heap.objs.size+1) :: us,[]⟩ (Value.ref (s.heap.objs.size+1) :: (us++ds)) _ _ _ (hr.make C us [])
    (I2.env0.make C us []) (hb _ (Value.ref (s.heap.objs.size+1) :: us) I2.kIn hl) r2 hq) fun r s' hq'=>?_))
  cases r with
  | error e=>exact hx pins σ _ _ e s' I2 hq'
  | ok fl =>
    cases fl with
    | ret u =>
      obtain ⟨v,H',I3,rv,ev,q3⟩:=I2.after hq'
      subst ev
      exact ⟨rv,⟨V.ref (s.heap.objs.size+1),H',I3,rfl,q3⟩⟩
    | next=>exact False.elim hq'
    | brk=>exact False.elim hq'
    | cont=>exact False.elim hq'
theorem pe_makeX0 (D:MkD X.prog X.w X.K X.mg X.base CX k C ps dss sp) (hin:dvs∈dss) (hr:Room (k+1) X.A) (hx:PassesX CX X Ek) (hg:Gl X x) (hm:X.mg x=some (.ref C))
    (hdb:(x == ("__debug__" : Str))=false:=by decide):PE X (.Call (.Name x p) [] [] pos) (tMakeX C sp dvs Ek tNil):=by
  obtain ⟨f,fd,F,M,hb⟩:=D.ex
  intro pins s σ H Q I h
  refine wpAny_Call_Name_kw (ld_glob I hg hm ?_ hdb)
  exact PySem.W.callWith_K0 I.kIn M.kp (run_makeX (us:=[]) M F hr (hb _ hin) hx I .nil h)
end
section
variable {X:Cx}
end
end L2
namespace L2
open PySem PySem.Spec PyProof.Rows
def Itrs (lo c:Int) (n:Nat):It:=⟨fun i _=>i<n,fun i H x H'=>H'=H∧x = .int (lo+i*c),fun i _=>n≤i⟩
structure RngOk (i j c:Int) (n:Nat):Prop where
  nz:c≠0
  np:Builtin.divisionGoesByPylong (j-i) c=false
  sm:Builtin.Range.small i j c=true
  eq:(n:Int)=Builtin.Range.rangeSize i j c
def iRng3 (ta:TA):TI:=fun σ H R=>ta σ H fun vs H1=>∃ i j c n,vs = [.int i,.int j,.int c]∧RngOk i j c n∧R (Itrs i c n) H1
section
variable {X:Cx} {tg:Expr}
end
theorem for_step {wi:TI} {g:TG} {tb:TS} {D:Ends} {σ:St} {H:Hp} (h:∀ Z:It→Hp→Prop,(∀ J H1,(∃ W:Nat→Nat→St→Hp→Prop,(∃ m,W 0 m σ H1)∧∀ i m σ H,W i m σ H →
  (J.stop i H∧D.nx σ H)∨(J.go i H∧∃ N:St→Hp→Prop,(∀ σ' H',N σ' H'→∃ m',m' < m∧W (i+1) m' σ' H')∧∀ x H',J.yld i H x H'→g x σ H' fun σ2 H2=>tb { D with nx:=N,ct:=N,bk:=D.nx } σ2 H2))→Z J H1)→wi σ H Z):tFor wi g tb D σ H:=h _ fun _ _ x=>x
section
variable {X:Cx}
end
end L2
namespace Sw
theorem q_cast_ne {d:Int} (h:d≠0):(d:Rat)≠0:=by
  intro z
  exact h (Rat.intCast_inj.mp (by rw [z]; rfl))
theorem q_cast_pos {d:Int} (h:0<d):(0:Rat)<(d:Rat):=by
  have:((0:Int):Rat)<(d:Rat):=Rat.intCast_lt_intCast.mpr h
  exact this
theorem q_self (q:Rat):(q.num:Rat) / ((q.den:Int):Rat)=q:=by
  rw [← Rat.divInt_eq_div]; exact Rat.num_divInt_den q
theorem q_den_pos (q:Rat):0<(q.den:Int):=by
  have:=q.den_nz
  omega
theorem q_den_ne (q:Rat):(q.den:Int)≠0:=by
  have:=q.den_nz
  omega
theorem q_num (q:Rat):(q.num:Rat)=q*((q.den:Int):Rat):=by
  have h:=q_self q
  have d:=q_cast_ne (q_den_ne q)
  grind
theorem q_low (q:Rat):dv q.num q.den = 1:=by
  unfold dv
  have:=q.reduced
  unfold Nat.Coprime at this
  show ((Nat.gcd q.num.natAbs (q.den:Int).natAbs:Nat):Int) = 1
  rw [Int.natAbs_natCast,this]
  rfl
theorem q_fr (q:Rat):Fr q.num q.den:=⟨q_den_pos q,q_low q⟩
theorem fr_q {n d:Int} (f:Fr n d):((n:Rat) / (d:Rat)).num=n∧((((n:Rat) / (d:Rat)).den:Nat):Int)=d:=by
  have hd:d≠0:=by have:=f.pos; omega
  refine Fr.uniq (q_fr _) f ?_
  have h:=q_num ((n:Rat) / (d:Rat))
  generalize hq:(n:Rat) / (d:Rat)=q at h ⊢
  have e:(n:Rat)=q*d:=by have:=q_cast_ne hd; grind
  have:((q.num*d:Int):Rat)=((n*(q.den:Int):Int):Rat):=by
    rw [Rat.intCast_mul,Rat.intCast_mul]
    grind
  exact Rat.intCast_inj.mp this
theorem q_cross {q:Rat} {n d:Int} (hd:d≠0) (h:q=(n:Rat) / (d:Rat)):q.num*d=(q.den:Int)*n:=by
  have h1:=q_cast_ne hd
  have:((q.num*d:Int):Rat)=(((q.den:Int)*n:Int):Rat):=by
    rw [Rat.intCast_mul,Rat.intCast_mul,q_num]
    grind
  exact Rat.intCast_inj.mp this
theorem q_lt {a b:Rat}:a.num*(b.den:Int)<b.num*(a.den:Int)↔a<b:=(Rat.lt_iff a b).symm
structure SzQ (z:Nat) (q:Rat):Prop where
  n:Sz z q.num
  d:Sz z (q.den:Int)
theorem SzQ.mono {m n:Nat} {q:Rat} (h:SzQ m q) (k:m≤n):SzQ n q:=⟨h.n.mono k,h.d.mono k⟩
theorem cop_dvd' {n d x:Int} (h:dv n d = 1) (q:n ∣ d*x):n ∣ x:=cop_dvd (by rw [dv_comm]; exact h) q
theorem SzQ.of {z:Nat} {q:Rat} {n d:Int} (hd:d≠0) (h:q=(n:Rat) / (d:Rat)) (s1:Sz z n) (s2:Sz z d):SzQ z q:=by
  have c:=q_cross hd h
  refine ⟨?_,?_⟩
  · by_cases hn:n = 0
    · subst hn
      rw [Int.mul_zero] at c
      have:q.num = 0:=by
        rcases Int.mul_eq_zero.mp c with z | z
        · exact z
        · exact absurd z hd
      rw [this]; exact Sz.zero z
    · exact s1.dvd (cop_dvd' (q_low q) ⟨d,c.symm⟩) hn
  · exact s2.dvd (cop_dvd (q_low q) ⟨n,c⟩) hd
theorem SzQ.int {z:Nat} {n:Int} (h:Sz (z+1) n):SzQ (z+1) (n:Rat):=⟨by rw [Rat.num_intCast]; exact h,by rw [Rat.den_intCast]; exact Sz.one z⟩
theorem add_q (a b:Rat):((a.num*(b.den:Int)+b.num*(a.den:Int):Int):Rat) / (((a.den:Int)*(b.den:Int):Int):Rat)=a+b:=by
  rw [Rat.intCast_add,Rat.intCast_mul,Rat.intCast_mul,Rat.intCast_mul,q_num a,q_num b]
  have h1:=q_cast_ne (q_den_ne a)
  have h2:=q_cast_ne (q_den_ne b)
  grind
theorem sub_q (a b:Rat):((a.num*(b.den:Int)-b.num*(a.den:Int):Int):Rat) / (((a.den:Int)*(b.den:Int):Int):Rat)=a-b:=by
  rw [Rat.intCast_sub,Rat.intCast_mul,Rat.intCast_mul,Rat.intCast_mul,q_num a,q_num b]
  have h1:=q_cast_ne (q_den_ne a)
  have h2:=q_cast_ne (q_den_ne b)
  grind
theorem mul_q (a b:Rat):((a.num*b.num:Int):Rat) / (((a.den:Int)*(b.den:Int):Int):Rat)=a*b:=by
  rw [Rat.intCast_mul,Rat.intCast_mul,q_num a,q_num b]
  have h1:=q_cast_ne (q_den_ne a)
  have h2:=q_cast_ne (q_den_ne b)
  grind
theorem div_q (a b:Rat) (hb:b.num≠0):((a.num*(b.den:Int):Int):Rat) / (((a.den:Int)*b.num:Int):Rat)=a / b:=by
  rw [Rat.intCast_mul,Rat.intCast_mul,q_num a,q_num b]
  have h1:=q_cast_ne (q_den_ne a)
  have h2:=q_cast_ne (q_den_ne b)
  have h3:=q_cast_ne hb
  rw [q_num b] at h3
  grind
theorem SzQ.div {m n:Nat} {a b:Rat} (hb:b.num≠0) (h:SzQ m a) (k:SzQ n b):SzQ (m+n) (a / b) :=
  .of (Int.mul_ne_zero (q_den_ne a) hb) (div_q a b hb).symm (h.n.mul k.d) (h.d.mul k.n)
theorem q_num_ne {q:Rat} (h:q≠0):q.num≠0:=by
  intro z
  have:=q_num q
  rw [z] at this
  have d:=q_cast_ne (q_den_ne q)
  apply h
  have:(0:Rat)=q*((q.den:Int):Rat):=this
  grind
end Sw
namespace L2
def fq (q:Rat):List V:=[.int q.num,.int (q.den:Int)]
theorem fq_nrm {t b:Int} (hb:b≠0):f2 (Sw.nrm (t,b))=fq ((t:Rat) / (b:Rat)):=by
  have f:=Sw.nrm_fr (q:=(t,b)) hb
  have c:=Sw.nrm_cross (q:=(t,b)) hb
  have e:((Sw.nrm (t,b)).1:Rat) / ((Sw.nrm (t,b)).2:Rat)=(t:Rat) / (b:Rat):=by
    have h1:=Sw.q_cast_ne hb
    have h2:(((Sw.nrm (t,b)).2:Int):Rat)≠0:=Sw.q_cast_ne (by have:=f.pos; omega)
    have c':(((Sw.nrm (t,b)).1*b:Int):Rat)=(((Sw.nrm (t,b)).2*t:Int):Rat):=by rw [c]
    rw [Rat.intCast_mul,Rat.intCast_mul] at c'
    grind
  have g:=Sw.fr_q f
  rw [e] at g
  unfold f2 fq
  rw [g.1,g.2]
theorem fq_int (n:Int):[V.int n,V.int 1] = fq (n:Rat):=by
  unfold fq
  rw [Rat.num_intCast,Rat.den_intCast]
  rfl
end L2
namespace Sw
theorem SzQ.min {z:Nat} {a b:Rat} (ha:SzQ z a) (hb:SzQ z b):SzQ z (min a b):=by
  rw [Rat.min_def]
  split
  · exact ha
  · exact hb
end Sw
namespace L2
open PySem PySem.Spec PyProof.Rows
def But (p:Addr) (H H':Hp):Prop:=∀ b o,b≠p→H b=some o→H' b=some o
theorem but_upd {p:Addr} {H:Hp} {o:HO}:But p H (upd H p o):=fun b u n e=>by rw [upd_ne n]; exact e
theorem putF_len:∀ {fs:List (Str×V)} {f:Str} {v w:V},fs.lookup f=some w→(putF f v fs).length=fs.length
  | [],f,v,w,h=>by cases h
  | (g,x) :: r,f,v,w,h=>by
    unfold putF
    by_cases e:g=f
    · rw [if_pos e]; rfl
    · rw [if_neg e]
      have hb:(f == g)=false:=beq_eq_false_iff_ne.mpr fun z=>e z.symm
      simp only [List.lookup,hb] at h
      show (putF f v r).length+1=r.length+1
      rw [putF_len h]
theorem putF_len':∀ {fs:List (Str×V)} {f:Str} {v:V},(putF f v fs).length≤fs.length+1
  | [],f,v=>Nat.le_refl _
  | (g,x) :: r,f,v=>by
    unfold putF
    by_cases e:g=f
    · rw [if_pos e]; exact Nat.le_succ _
    · rw [if_neg e]
      show (putF f v r).length+1≤r.length+1+1
      have:=putF_len' (fs:=r) (f:=f) (v:=v)
      omega
end L2
namespace L2
open PySem PySem.Spec PyProof.Rows
def rFld (K:PySem.W.Frag) (f:Str) (x:V) (H:Hp) (Q:VK):Prop:=∃ a C dx fs v,x = .ref a∧H a=some (.ins C dx fs)∧Cls K C∧NoAttr K C f∧fs.lookup f=some v∧Q v H
theorem tFld_eq {K:PySem.W.Frag} {ta:TE} {f:Str} {σ:St} {H:Hp} {Q:VK}:tFld K ta f σ H Q=ta σ H fun x H1=>rFld K f x H1 Q:=rfl
theorem fldR_at {K:PySem.W.Frag} {f:Str} {a C dx:Addr} {fs:List (Str×V)} {v:V} {H:Hp} {Q:VK} (h:H a=some (.ins C dx fs)) (c:Cls K C) (n:NoAttr K C f) (l:fs.lookup f=some v) (q:Q v H):rFld K f (.ref a) H Q:=⟨a,C,dx,fs,v,rfl,h,c,n,l,q⟩
def rSet (K:PySem.W.Frag) (f:Str) (y x:V) (H:Hp) (Z:Hp→Prop):Prop:=∃ a C dx fs,x = .ref a∧H a=some (.ins C dx fs)∧Cls K C∧NoAttr K C f∧fs.length<1000∧Z (upd H a (.ins C dx (putF f y fs)))
theorem sFld_eq {K:PySem.W.Frag} {ta tv:TE} {f:Str} {D:Ends} {σ:St} {H:Hp}:sFld K ta tv f D σ H=tv σ H fun y H1=>ta σ H1 fun x H2=>rSet K f y x H2 (D.nx σ):=rfl
theorem set_at {K:PySem.W.Frag} {f:Str} {y:V} {a C dx:Addr} {fs:List (Str×V)} {H:Hp} {Z:Hp→Prop} (h:H a=some (.ins C dx fs)) (c:Cls K C) (n:NoAttr K C f) (l:fs.length<1000) (q:Z (upd H a (.ins C dx (putF f y fs)))):rSet K f y (.ref a) H Z:=⟨a,C,dx,fs,rfl,h,c,n,l,q⟩
def rMeth (C:Addr) (m:Str) (x:V) (H:Hp) (Z:Prop):Prop:=∃ a dx fs,x = .ref a∧H a=some (.ins C dx fs)∧fs.lookup m=none∧Z
theorem tMethX_eq {C:Addr} {m:Str} {sp:Sp} {dvs:List V} {Ek:XH} {ta:TE} {t:TA} {σ:St} {H:Hp} {Q:VK} :
    tMethX C m sp dvs Ek ta t σ H Q=ta σ H fun x H1=>rMeth C m x H1 (t σ H1 fun vs H2=>sp (x :: (vs++dvs)) H2 Q (fun v d H'=>Ek v d σ H')):=by
  unfold tMethX rMeth
  rfl
theorem meth_at {C:Addr} {m:Str} {a dx:Addr} {fs:List (Str×V)} {H:Hp} {Z:Prop} (h:H a=some (.ins C dx fs)) (l:fs.lookup m=none) (z:Z):rMeth C m (.ref a) H Z:=⟨a,dx,fs,rfl,h,l,z⟩
theorem same_make {H:Hp} {x dx C:Addr} (h1:H x=none) (h2:H dx=none):Same H (upd (upd H dx (.own x)) x (.ins C dx [])):=fun b o e=>by
  rw [upd_ne (ne_of_none e h1),upd_ne (ne_of_none e h2)]
  exact e
theorem But.same {x:Addr} {H H1 H':Hp} (b:But x H1 H') (s:Same H H1) (h:H x=none):Same H H':=fun c o e=>b c o (ne_of_none e h) (s c o e)
theorem at_int {H:Hp} {p:Addr} {n:Int}:upd H p (.tup [.int n,.int 1]) p=some (.tup (fq (n:Rat))):=by rw [upd_same,fq_int]
end L2
namespace L2
open PySem PySem.Spec PyProof.Rows
theorem nx_step {t:TS} {D:Ends} {σ:St} {H:Hp} (h:∀ R:St→Hp→Prop,(∀ σ H,D.nx σ H→R σ H)→t { D with nx:=R } σ H):t D σ H:=h D.nx fun _ _ x=>x
theorem fq_deep {K:PySem.W.Frag} {H:Hp} {p:Addr} {q:Rat} (h:H p=some (.tup (fq q))):Deep K H (.ref p) (.tuple [.int q.num,.int (q.den:Int)]):=.tup (.of h) (.cons (.int _) (.cons (.int _) .nil))
end L2
namespace L2
open PySem PySem.Spec PyProof.Rows
end L2
namespace Sw
end Sw
namespace L2
open PySem PySem.Spec PyProof.Rows
end L2
namespace L2
open PySem PySem.Spec PyProof.Rows
section
variable {κ:Type} [DecidableEq κ]
def valV (kvs:List (κ×V)) (k:κ):Option V:=(kvs.find? fun kv=>decide (kv.1=k)).map (·.2)
def putK (kvs:List (κ×V)) (k:κ) (v:V):List (κ×V) :=
  if (kvs.any fun kv=>decide (kv.1=k))=true then kvs.map (fun kv=>if kv.1=k then (kv.1,v) else kv) else kvs++[(k,v)]
theorem valV_pos {p:κ×V} {r:List (κ×V)} {k:κ} (e:p.1=k):valV (p :: r) k=some p.2:=by simp [valV,List.find?_cons,e]
theorem valV_neg {p:κ×V} {r:List (κ×V)} {k:κ} (e:¬ p.1=k):valV (p :: r) k=valV r k:=by simp [valV,List.find?_cons,e]
theorem valV_any (k:κ):∀ kvs:List (κ×V),(kvs.any fun kv=>decide (kv.1=k))=(valV kvs k).isSome
  | []=>rfl
  | p :: r=>by
    rw [List.any_cons]
    by_cases e:p.1=k
    · simp only [valV_pos e,decide_eq_true e,Bool.true_or,Option.isSome_some]
    · rw [valV_neg e,decide_eq_false e,Bool.false_or]; exact valV_any k r
theorem valV_map (k j:κ) (y:V):∀ kvs:List (κ×V),valV (kvs.map fun kv=>if kv.1=k then (kv.1,y) else kv) j=(valV kvs j).map fun x=>if j=k then y else x
  | []=>rfl
  | p :: r=>by
    have ih:=valV_map k j y r
    rw [List.map_cons]
    by_cases h:p.1=k
    · rw [if_pos h]
      by_cases e:p.1=j
      · rw [valV_pos (p:=(p.1,y)) e,valV_pos e,Option.map_some,if_pos (e.symm.trans h)]
      · rw [valV_neg (p:=(p.1,y)) e,valV_neg e,ih]
    · rw [if_neg h]
      by_cases e:p.1=j
      · rw [valV_pos (p:=p) e,valV_pos e,Option.map_some,if_neg (fun z=>h (e.trans z))]
      · rw [valV_neg (p:=p) e,valV_neg e,ih]
theorem valV_snoc (k j:κ) (y:V):∀ kvs:List (κ×V),valV kvs k=none→valV (kvs++[(k,y)]) j=if j=k then some y else valV kvs j
  | [],_=>by
    by_cases e:k=j
    · rw [if_pos e.symm]; exact valV_pos (p:=(k,y)) e
    · rw [if_neg (fun z=>e z.symm)]; exact valV_neg (p:=(k,y)) e
  | p :: r,hn=>by
    rw [List.cons_append]
    have hk:¬ p.1=k:=fun z=>by rw [valV_pos z] at hn; cases hn
    rw [valV_neg hk] at hn
    have ih:=valV_snoc k j y r hn
    by_cases e:p.1=j
    · rw [valV_pos e,valV_pos e,if_neg (fun z=>hk (e.trans z))]
    · rw [valV_neg e,valV_neg e,ih]
theorem valV_put (kvs:List (κ×V)) (k j:κ) (y:V):valV (putK kvs k y) j=if j=k then some y else valV kvs j:=by
  unfold putK
  by_cases a:(kvs.any fun kv=>decide (kv.1=k))=true
  · rw [if_pos a,valV_map]
    rw [valV_any] at a
    by_cases e:j=k
    · obtain ⟨x,hx⟩:=Option.isSome_iff_exists.mp a
      rw [if_pos e,e,hx,Option.map_some,if_pos rfl]
    · rw [if_neg e]
      cases valV kvs j with
      | none=>rfl
      | some x=>rw [Option.map_some,if_neg e]
  · rw [if_neg a]
    refine valV_snoc k j y kvs ?_
    rw [valV_any] at a
    cases q:valV kvs k with
    | none=>rfl
    | some x=>rw [q] at a; exact (a rfl).elim
theorem length_putK (kvs:List (κ×V)) (k:κ) (v:V):(putK kvs k v).length≤kvs.length+1:=by
  unfold putK
  split
  · rw [List.length_map]; omega
  · rw [List.length_append,List.length_cons,List.length_nil]; omega
theorem RelO.isSome_eq {o:Option V} {u:Option Value} (r:RelO o u):o.isSome=u.isSome:=by
  cases o with
  | none=>cases u with
    | none=>rfl
    | some _=>exact (show False from r).elim
  | some _=>cases u with
    | none=>exact (show False from r).elim
    | some _=>rfl
theorem RelO.getD {o:Option V} {u:Option Value} {d:V} {d':Value} (r:RelO o u) (rd:RelV d d'):RelV (o.getD d) (u.getD d'):=by
  cases o with
  | none=>cases u with
    | none=>exact rd
    | some _=>exact (show False from r).elim
  | some _=>cases u with
    | none=>exact (show False from r).elim
    | some _=>exact r
theorem KV.val {kvs:List (κ×V)} {vs:List (κ×Value)} (r:KV kvs vs) (k:κ):RelO (valV kvs k) (valueAt vs k):=by
  unfold KV at r
  induction r with
  | nil=>exact True.intro
  | @cons p q ps qs h t ih =>
    obtain ⟨h1,h2⟩:=h
    by_cases e:p.1=k
    · have e':q.1=k:=h1.symm.trans e
      have b:valueAt (q :: qs) k=some q.2:=by simp [valueAt,List.find?_cons,e']
      rw [valV_pos e,b]; exact h2
    · have e':¬ q.1=k:=fun z=>e (h1.trans z)
      have b:valueAt (q :: qs) k=valueAt qs k:=by simp [valueAt,List.find?_cons,e']
      rw [valV_neg e,b]; exact ih
theorem KV.any {kvs:List (κ×V)} {vs:List (κ×Value)} (r:KV kvs vs) (k:κ):(kvs.any fun kv=>decide (kv.1=k))=vs.any fun kv=>decide (kv.1=k):=by
  unfold KV at r
  induction r with
  | nil=>rfl
  | cons h t ih=>rw [List.any_cons,List.any_cons,ih,h.1]
theorem KV.repl {kvs:List (κ×V)} {vs:List (κ×Value)} (r:KV kvs vs) (k:κ) {y:V} {u:Value} (ry:RelV y u) :
    KV (kvs.map fun kv=>if kv.1=k then (kv.1,y) else kv) (vs.map fun kv=>if kv.1=k then (kv.1,u) else kv):=by
  unfold KV at r ⊢
  induction r with
  | nil=>exact .nil
  | @cons p q ps qs h t ih =>
    rw [List.map_cons,List.map_cons]
    refine .cons ?_ ih
    obtain ⟨h1,h2⟩:=h
    by_cases e:p.1=k
    · rw [if_pos e,if_pos (h1.symm.trans e)]; exact ⟨h1,ry⟩
    · rw [if_neg e,if_neg (fun z=>e (h1.trans z))]; exact ⟨h1,h2⟩
theorem KV.put {kvs:List (κ×V)} {vs:List (κ×Value)} (r:KV kvs vs) (k:κ) {y:V} {u:Value} (ry:RelV y u):KV (putK kvs k y) (stored vs k u):=by
  unfold putK stored
  rw [r.any k]
  by_cases e:(vs.any fun kv=>decide (kv.1=k))=true
  · rw [if_pos e,if_pos e]; exact r.repl k ry
  · rw [if_neg e,if_neg e]; exact Paired.snoc r ⟨rfl,ry⟩
theorem KV.length {kvs:List (κ×V)} {vs:List (κ×Value)} (r:KV kvs vs):kvs.length=vs.length:=Paired.length r
end
theorem kV_is {P:Program} {w:World} {k:Key} {u:Value} (r:RelV (kV k) u):(mixKind P w).is k u=true:=by
  cases k with
  | inl i=>obtain ⟨t,e⟩:=(show ∃ t,u=Value.int i t from r); subst e; exact mixKind_int P w i t
  | inr x=>obtain ⟨t,e⟩:=(show ∃ t,u=Value.str x t from r); subst e; exact mixKind_str P w x t
theorem items_are {P:Program} {w:World}:∀ {ks:List Key} {us:List Value},Vals (ks.map kV) us→ItemsAre (mixKind P w) ks us
  | [],_,r=>by rw [List.map_nil] at r; cases r; exact .nil
  | k :: ks,_,r=>by
    rw [List.map_cons] at r
    cases r with
    | cons h t=>exact .cons (kV_is h) (items_are t)
abbrev KT (H:Hp):List (List Key×V)→List (List Key×Addr×Value)→Prop:=Paired fun p q=>p.1=q.1∧H q.2.1=some (.tup (p.1.map kV))∧RelV p.2 q.2.2
theorem KT.val {H:Hp} {kvs:List (List Key×V)} {xs:List (List Key×Addr×Value)} (r:KT H kvs xs) (k:List Key):RelO (valV kvs k) ((atKey xs k).map (·.2)):=by
  induction r with
  | nil=>exact True.intro
  | @cons p q ps qs h t ih =>
    obtain ⟨h1,_,h2⟩:=h
    by_cases e:p.1=k
    · have e':q.1=k:=h1.symm.trans e
      have b:atKey (q :: qs) k=some q.2:=by simp [atKey,List.find?_cons,e']
      rw [valV_pos e,b]; exact h2
    · have e':¬ q.1=k:=fun z=>e (h1.trans z)
      have b:atKey (q :: qs) k=atKey qs k:=by simp [atKey,List.find?_cons,e']
      rw [valV_neg e,b]; exact ih
theorem KT.repl {H:Hp} {kvs:List (List Key×V)} {xs:List (List Key×Addr×Value)} (r:KT H kvs xs) (k:List Key) {y:V} {u:Value} (ry:RelV y u) :
    KT H (kvs.map fun kv=>if kv.1=k then (kv.1,y) else kv) (xs.map (putAt k u)):=by
  induction r with
  | nil=>exact .nil
  | @cons p q ps qs h t ih =>
    rw [List.map_cons,List.map_cons]
    refine .cons ?_ ih
    obtain ⟨h1,h2,h3⟩:=h
    unfold putAt
    by_cases e:p.1=k
    · rw [if_pos e,if_pos (h1.symm.trans e)]; exact ⟨h1,h2,ry⟩
    · rw [if_neg e,if_neg (fun z=>e (h1.trans z))]; exact ⟨h1,h2,h3⟩
theorem KT.put {H:Hp} {kvs:List (List Key×V)} {xs:List (List Key×Addr×Value)} (r:KT H kvs xs) (k:List Key) {b:Addr} {y:V} {u:Value} (hb:H b=some (.tup (k.map kV))) (ry:RelV y u) :
    KT H (putK kvs k y) (storedH xs k b u):=by
  have e:(kvs.any fun kv=>decide (kv.1=k))=(atKey xs k).isSome:=by
    rw [valV_any,(r.val k).isSome_eq,Option.isSome_map]
  unfold putK storedH
  rw [e]
  by_cases q:(atKey xs k).isSome=true
  · rw [if_pos q,if_pos q]; exact r.repl k ry
  · rw [if_neg q,if_neg q]; exact Paired.snoc r ⟨rfl,hb,ry⟩
theorem KT.keeps {H H':Hp} {kvs:List (List Key×V)} {xs:List (List Key×Addr×Value)} (r:KT H kvs xs) (ht:∀ b ys,H b=some (.tup ys)→H' b=some (.tup ys)):KT H' kvs xs :=
  Paired.mapP r fun _ _ z=>⟨z.1,ht _ _ z.2.1,z.2.2⟩
section
variable {P:Program} {w:World} {H:Hp} {h:Heap} {a:Addr}
theorem rd_of {u:HO} (ok:HOk P w H h) (e:Rd H a u):ObjOk P w H h a u:=e.ok ok
theorem dk_rd {kvs:List (Key×V)} (ok:HOk P w H h) (e:Rd H a (.dK kvs)):kvs.length≤sizeLine∧(a == sysModules)=false∧∃ vs,KV kvs vs∧h.DictOf (mixKind P w) a vs :=
  show ObjOk P w H h a (.dK kvs) from rd_of ok e
theorem dk_of {kvs:List (Key×V)} (ok:HOk P w H h) (e:H a=some (.dK kvs)):kvs.length≤sizeLine∧(a == sysModules)=false∧∃ vs,KV kvs vs∧h.DictOf (mixKind P w) a vs:=dk_rd ok (.inl e)
theorem key_of {ks:List Key} (ok:HOk P w H h) (e:H a=some (.tup (ks.map kV))):(tupleKind (mixKind P w)).is h ks a:=by
  obtain ⟨_,its,r,o,h1,h2,n,h3⟩:=(show ObjOk P w H h a (.tup (ks.map kV)) from ok a _ e)
  exact ⟨o,its.toArray,n,h1,h2,h3,by simpa using items_are r⟩
theorem dt_rd {kvs:List (List Key×V)} (ok:HOk P w H h) (e:Rd H a (.dT kvs)):kvs.length≤sizeLine∧(a == sysModules)=false ∧
    ∃ xs,KT H kvs xs∧h.DictOfH (tupleKind (mixKind P w)) a xs:=by
  obtain ⟨z,y,xs,r,o,es,ep,h1,h2,h3,h4,h5⟩:=(show ObjOk P w H h a (.dT kvs) from rd_of ok e)
  refine ⟨z,y,xs,r,o,es,ep,h1,h2,h3,h4,fun x hx=>?_,h5⟩
  have all:∀ {l:List (List Key×V)} {m:List (List Key×Addr×Value)},KT H l m→∀ x∈m,(tupleKind (mixKind P w)).is h x.1 x.2.1:=by
    intro l m q
    induction q with
    | nil=>intro x hx; exact nomatch hx
    | @cons p q ps qs hq t ih =>
      intro x hx
      rcases List.mem_cons.mp hx with e | hx
      · subst e
        exact key_of ok (by rw [← hq.1]; exact hq.2.1)
      · exact ih x hx
  exact all r x hx
theorem dt_of {kvs:List (List Key×V)} (ok:HOk P w H h) (e:H a=some (.dT kvs)):kvs.length≤sizeLine∧(a == sysModules)=false ∧
    ∃ xs,KT H kvs xs∧h.DictOfH (tupleKind (mixKind P w)) a xs:=dt_rd ok (.inl e)
end
def DGet (H:Hp) (a:Addr) (y:V) (r:Option V):Prop :=
  (∃ kvs k,Rd H a (.dK kvs)∧y=kV k∧r=valV kvs k)∨∃ kvs k b,Rd H a (.dT kvs)∧y = .ref b∧H b=some (.tup (k.map kV))∧r=valV kvs k
def DPut (H:Hp) (a:Addr) (y v:V) (H':Hp):Prop :=
  (∃ kvs k,H a=some (.dK kvs)∧y=kV k∧kvs.length<sizeLine∧H'=upd H a (.dK (putK kvs k v))) ∨
  ∃ kvs k b,H a=some (.dT kvs)∧y = .ref b∧H b=some (.tup (k.map kV))∧kvs.length<sizeLine∧H'=upd H a (.dT (putK kvs k v))
theorem DGet.k {H:Hp} {a:Addr} {kvs:List (Key×V)} {k:Key} (e:H a=some (.dK kvs)):DGet H a (kV k) (valV kvs k):=.inl ⟨kvs,k,.inl e,rfl,rfl⟩
theorem DPut.k {H:Hp} {a:Addr} {kvs:List (Key×V)} {k:Key} {v:V} (e:H a=some (.dK kvs)) (hl:kvs.length<sizeLine):DPut H a (kV k) v (upd H a (.dK (putK kvs k v))):=.inl ⟨kvs,k,e,rfl,hl,rfl⟩
section
variable {X:Cx} {pins:List (Addr×Obj)} {σ:St} {H:Hp} {s:Shared} {a:Addr} {y v:V} {u r:Value} {o:Option V} {A:Around} {E:Value→Shared→Prop}
theorem Inv.big (I:Inv X pins σ H s):sysModules<s.heap.objs.size:=by
  have h:mainGlobals<s.heap.objs.size:=(I.mod.glob.keeps I.bk).lt
  exact Nat.lt_trans (by decide) h
theorem d_write {h':Heap} {t':Nat} {ob:HO} (I:Inv X pins σ H s) (mu:Mut (H a)) (hs:Heap.SameBut a s.heap h') (he:∃ q,h'.get? a=some q) (new:ObjOk X.prog X.w (upd H a ob) h' a ob) :
    Inv X pins σ (upd H a ob) { s with heap:=h',toks:=t' } :=
  I.write (x:=a) (e:=a) mu (.inl rfl) (fun b q hb z=>(hs.2 b hb).trans z) he new
theorem dk_new {P:Program} {w:World} {H':Hp} {h':Heap} {kvs:List (Key×V)} {vs:List (Key×Value)} (z:kvs.length≤sizeLine) (hd:(a == sysModules)=false) (rel:KV kvs vs) (dd:h'.DictOf (mixKind P w) a vs) :
    ObjOk P w H' h' a (.dK kvs):=⟨z,hd,vs,rel,dd⟩
theorem d_setItem {H':Hp} {Q:Unit→Shared→Prop} (hu:A.units+1<cLine) (I:Inv X pins σ H s) (g:DPut H a y v H') (ry:RelV y u) (rv:RelV v r) (h:∀ s',Inv X pins σ H' s'→Q () s') :
    wpAny (model X.prog X.w) A (setItem (.ref a) u r) Q E s:=by
  rcases g with ⟨kvs,k,e,ey,l,eH⟩ | ⟨kvs,k,b,e,ey,eb,l,eH⟩
  · subst ey eH
    obtain ⟨z,hd,vs,rel,dd⟩:=dk_of I.hok e
    have hz:vs.length≤sizeLine:=by rw [← rel.length]; exact z
    have hl:(putK kvs k v).length≤sizeLine:=by have:=length_putK kvs k v; omega
    refine wpAny_setItem_pairs (hsz:=hz) (kV_is ry) dd fun h' dd' hs=>h _ ?_
    have he:∃ q,h'.get? a=some q:=let ⟨q,_,_,hq,_⟩:=dd'; ⟨q,hq⟩
    exact d_write I (by rw [e]; exact True.intro) hs he (dk_new hl hd (rel.put k rv) dd')
  · subst ey eH
    cases (show u=Value.ref b from ry)
    obtain ⟨z,hd,xs,rel,dd⟩:=dt_of I.hok e
    have hz:xs.length≤sizeLine:=by rw [← Paired.length rel]; exact z
    have hl:(putK kvs k v).length≤sizeLine:=by have:=length_putK kvs k v; omega
    refine wpAny_setItem_heap (hsz:=hz) (tupleKind_room_in1 hu) (key_of I.hok eb) dd fun h' dd' hs=>h _ ?_
    obtain ⟨q,es,ep,hq,h2,h3,h4,_,h5⟩:=dd'
    refine d_write I (by rw [e]; exact True.intro) hs ⟨q,hq⟩ ⟨hl,hd,_,(rel.put k eb rv).keeps fun c ys ec=>?_,q,es,ep,hq,h2,h3,h4,h5⟩
    rw [upd_ne (ne_of ec e (fun z=>nomatch z))]
    exact ec
end
section
variable {X:Cx} {pins:List (Addr×Obj)} {σ:St} {H:Hp} {s:Shared} {a:Addr} {kvs:List (Key×V)} {k:Key} {u:Value} {A:Around} {E:Value→Shared→Prop}
end
def tDGet (td ty:TE):TE:=fun σ H Q=>td σ H fun x H1=>ty σ H1 fun y H2=>∃ a v,x = .ref a∧DGet H2 a y (some v)∧Q v H2
def tDIn (ty td:TE):TE:=fun σ H Q=>ty σ H fun y H1=>td σ H1 fun x H2=>∃ a o,x = .ref a∧DGet H2 a y o∧Q (.bl o.isSome) H2
def tDNotIn (ty td:TE):TE:=fun σ H Q=>ty σ H fun y H1=>td σ H1 fun x H2=>∃ a o,x = .ref a∧DGet H2 a y o∧Q (.bl (!o.isSome)) H2
def sDPut (td ty tv:TE):TS:=fun D σ H=>tv σ H fun v H1=>td σ H1 fun x H2=>ty σ H2 fun y H3=>∃ a H4,x = .ref a∧DPut H3 a y v H4∧D.nx σ H4
section
variable {X:Cx} {o i e value:Expr} {pos pos' tpos:Pos} {td ty tv:TE}
theorem ps_dput (hu:X.A.units+1<cLine) (ho:PE X o td) (hi:PE X i ty) (hv:PE X value tv) (hs:swapsWith value (some (.Subscript o i pos')) pos.line X.env=pure false) :
    PS X (.Assign [.Subscript o i pos'] value pos) (sDPut td ty tv):=by
  intro pins s σ H D I h
  refine wpAny_Assign_Subscript (thn (hv pins s σ H _ I h) fun r s1 ⟨v,H1,I1,rv,q1⟩=>thn (ho pins s1 σ H1 _ I1 q1) fun u s2 ⟨x,H2,I2,rx,q2⟩=>thn (hi pins s2 σ H2 _ I2 q2) fun iv s3 ⟨y,H3,I3,ry,a,H4,ex,g,q3⟩=>?_) hs
  subst ex
  obtain rfl:u=Value.ref a:=rx
  exact d_setItem hu I3 g ry rv fun s4 I4=>⟨σ,H4,I4,q3⟩
end
theorem dk_empty {P:Program} {w:World} {H:Hp} (h:Heap) (hb:sysModules<h.objs.size):ObjOk P w H (h.push { cls:=.type "dict", data:=.dict #[] }) h.objs.size (.dK []) :=
  ⟨Nat.zero_le _,beq_eq_false_iff_ne.mpr (Ne.symm (Nat.ne_of_lt hb)),[],.nil,Heap.DictOf.new h⟩
def tDNewK:TE:=fun _ H Q=>∀ p,H p=none→Q (.ref p) (upd H p (.dK []))
section
variable {X:Cx} {pos:Pos}
theorem pe_dnewK:PE X (.Dict [] [] pos) tDNewK:=fun pins s σ H Q I h =>
  wpAny_Dict_empty ⟨.ref s.heap.objs.size,_,I.laid (a:=s.heap.objs.size) (o:=.dK []) (t':=s.toks) (fun _ _ q=>Heap.get?_push_of_some _ q) (Nat.le_refl _) (dk_empty s.heap I.big),rfl,h _ (I.hok.fresh (Nat.le_refl _))⟩
end
structure M1 (X:Cx) (o:Expr) (m:Str) (apos:Pos) (e:Expr) (cpos:Pos):Prop where
  base:attributeBase o m X.env (eval o X.env)=eval o X.env
  few:((backTo cpos (starEach [e] X.env)).all (fun x=>!x.1) && (backToKw cpos (keywordEach [] X.env)).all (fun x=>x.1.isSome)
    && decide (([e]:List Expr).length+([]:List Keyword).length+(if ([]:List Keyword).isEmpty then 0 else 1)<30))=true
  line:(apos.endLine == cpos.line)=true
  trees:backTo cpos (starEach [e] X.env) = [(false,eval e X.env)]
structure M2 (X:Cx) (o:Expr) (m:Str) (apos:Pos) (e f:Expr) (cpos:Pos):Prop where
  base:attributeBase o m X.env (eval o X.env)=eval o X.env
  few:((backTo cpos (starEach [e,f] X.env)).all (fun x=>!x.1) && (backToKw cpos (keywordEach [] X.env)).all (fun x=>x.1.isSome)
    && decide (([e,f]:List Expr).length+([]:List Keyword).length+(if ([]:List Keyword).isEmpty then 0 else 1)<30))=true
  line:(apos.endLine == cpos.line)=true
  trees:backTo cpos (starEach [e,f] X.env) = [(false,eval e X.env),(false,eval f X.env)]
def IsD (H:Hp) (a:Addr):Prop:=(∃ kvs,Rd H a (.dK kvs))∨∃ kvs,Rd H a (.dT kvs)
theorem isD_at {X:Cx} {pins:List (Addr×Obj)} {σ:St} {H:Hp} {s:Shared} {a:Addr} (I:Inv X pins σ H s) (d:IsD H a) :
    s.TypeIs (.ref a) "dict" ∧ (∀ b,Value.ref a = .ref b→∃ ob,s.heap.get? b=some ob∧ob.dict=none)∧(a == sysModules)=false:=by
  rcases d with ⟨kvs,e⟩ | ⟨kvs,e⟩
  · obtain ⟨_,hd,vs,_,dd⟩:=dk_rd I.hok e
    refine ⟨dd.typeIs,fun b q=>?_,hd⟩
    cases q
    obtain ⟨ob,_,_,h1,h2,_⟩:=dd
    exact ⟨ob,h1,h2.2.1⟩
  · obtain ⟨_,hd,xs,_,dd⟩:=dt_rd I.hok e
    refine ⟨dd.typeIs,fun b q=>?_,hd⟩
    cases q
    obtain ⟨ob,_,_,h1,h2,_⟩:=dd
    exact ⟨ob,h1,h2.2.1⟩
section
variable {X:Cx} {pins:List (Addr×Obj)} {σ:St} {H:Hp} {s:Shared} {a:Addr} {y d:V} {u r:Value} {o:Option V} {A:Around} {E:Value→Shared→Prop}
theorem d_get2 {Q:Value→Shared→Prop} (hu:A.units+1<cLine) (I:Inv X pins σ H s) (g:DGet H a y o) (ry:RelV y u) (rd:RelV d r) (h:∀ w' s',Inv X pins σ H s'→RelV (o.getD d) w'→Q w' s') :
    wpAny (model X.prog X.w) A (call (.builtin "dict.get") [.ref a,u,r]) Q E s:=by
  rcases g with ⟨kvs,k,e,ey,l⟩ | ⟨kvs,k,b,e,ey,eb,l⟩
  · subst ey
    obtain ⟨z,hd,vs,rel,dd⟩:=dk_rd I.hok e
    refine call_meetsIn PySem.F.slot_dict_get dd.typeIs PySem.F.entry_dict_get (PySem.F.args_dict_get_3 _ _ _) (meets_dict_get_default (mixKind X.prog X.w) a (kV_is ry) hd r) ⟨_,dd.mapOf,h _ _ (I.tok _) ?_⟩
    rw [l]
    exact (rel.val k).getD rd
  · subst ey
    cases (show u=Value.ref b from ry)
    obtain ⟨z,hd,xs,rel,dd⟩:=dt_rd I.hok e
    refine call_meetsIn PySem.F.slot_dict_get dd.typeIs PySem.F.entry_dict_get (PySem.F.args_dict_get_3 _ _ _) (meetsH_dict_get_default (tupleKind (mixKind X.prog X.w)) a b hd r) ⟨tupleKind_room_in1 hu,k,xs,key_of I.hok eb,dd,h _ _ (I.tok _) ?_⟩
    rw [l]
    exact (rel.val k).getD rd
end
def tDGet1 (td ty:TE):TE:=fun σ H Q=>td σ H fun x H1=>∃ a,x = .ref a∧IsD H1 a∧ty σ H1 fun y H2=>∃ o,DGet H2 a y o∧Q (o.getD .non) H2
def tDGet2 (td ty tx:TE):TE:=fun σ H Q=>td σ H fun x H1=>∃ a,x = .ref a∧IsD H1 a∧ty σ H1 fun y H2=>tx σ H2 fun z H3=>∃ o,DGet H3 a y o∧Q (o.getD z) H3
section
variable {X:Cx} {o e f:Expr} {apos cpos:Pos} {td ty tx:TE}
theorem pe_dget2 (hu:X.A.units+1<cLine) (ho:PE X o td) (he:PE X e ty) (hf:PE X f tx) (m:M2 X o "get" apos e f cpos):PE X (.Call (.Attribute o "get" apos) [e,f] [] cpos) (tDGet2 td ty tx):=by
  intro pins s σ H Q I h
  refine wpAny_Call_method m.base m.few m.line PySem.F.plainAttrs_dict PySem.F.slot_dict_get PySem.F.type_dict_get (thn (ho pins s σ H _ I h) fun u s1 ⟨x,H1,I1,rx,a,ex,d,q1⟩=>?_)
  subst ex
  obtain rfl:u=Value.ref a:=rx
  obtain ⟨t1,t2,_⟩:=isD_at I1 d
  refine ⟨t1,t2,?_⟩
  rw [m.trees]
  refine Calls.callWith_builtin rfl (Calls.evalArgs_plain (Calls.spliced_cons (thn (he pins s1 σ H1 _ I1 q1) fun iv s2 ⟨y,H2,I2,ry,q2⟩ =>
    Calls.spliced_cons (thn (hf pins s2 σ H2 _ I2 q2) fun fv s3 ⟨z,H3,I3,rz,ov,g,q3⟩=>Calls.spliced_nil ?_))))
  exact d_get2 hu I3 g ry rz fun w' s4 I4 rw'=>⟨_,H3,I4,rw',q3⟩
end
section
variable {X:Cx} {pins:List (Addr×Obj)} {σ:St} {H:Hp} {s:Shared} {a:Addr} {kvs:List (Key×V)} {A:Around} {E:Value→Shared→Prop}
end
section
variable {X:Cx} {pins:List (Addr×Obj)} {σ:St} {H:Hp} {s:Shared} {a:Addr} {y:V} {u:Value} {A:Around} {E:Value→Shared→Prop}
end
end L2
namespace L2
open PySem PySem.Spec PyProof.Rows
section
variable {X:Cx}
end
section
variable {κ:Type} [DecidableEq κ]
end
end L2
namespace L2
open PySem PySem.Spec PyProof.Rows
def tTru (K:PySem.W.Frag) (ta:TE):TT:=fun σ H Q=>ta σ H fun x H1=>∃ k,TruV K x H1 k∧Q k H1
theorem pt_truthK {X:Cx} (K:PySem.W.Frag) (h:X.K=K) {a:Expr} {ta:TE} (ha:PE X a ta) (he:∀ whole,isTrue a X.env whole=(do let v ← whole; standAt a.pos; holding [v] (truthy v)):=by intro _; rfl):PT X a (tTru K ta):=h ▸ pt_truth ha he
theorem truL {K:PySem.W.Frag} {H:Hp} {p:Addr} {xs:List V} (h:SqL K H p xs):TruV K (.ref p) H (!xs.isEmpty):=.inl ⟨xs,h,rfl⟩
end L2
namespace Sw
abbrev T3:=Rat×Rat×Int
def isHd (m:Rat) (u:T3):Bool:=!decide (m<u.1) && decide (m<u.2.1)
def hds (us:List T3) (m:Rat):List T3:=us.filter (isHd m)
def sumS (hs:List T3):Int:=(hs.map fun u=>u.2.2).sum
def minL:List Rat→Rat
  | []=>0
  | q :: r=>(q :: r).foldl min q
def fstE (hs:List T3):Rat:=minL (hs.map fun u=>u.2.1)
theorem foldl_min_mem:∀ (l:List Rat) (d:Rat),l.foldl min d=d∨l.foldl min d∈l
  | [],d=>.inl rfl
  | q :: r,d=>by
    rcases foldl_min_mem r (min d q) with h | h
    · rw [List.foldl_cons,h,Rat.min_def]
      split
      · exact .inl rfl
      · exact .inr (by simp)
    · exact .inr (by rw [List.foldl_cons]; exact List.mem_cons_of_mem _ h)
theorem minL_mem {l:List Rat} (h:l≠[]):minL l∈l:=by
  cases l with
  | nil=>exact absurd rfl h
  | cons q r =>
    show (q :: r).foldl min q∈q :: r
    rcases foldl_min_mem (q :: r) q with e | e
    · rw [e]; simp
    · exact e
theorem fstE_mem {hs:List T3} (h:hs≠[]):∃ u∈hs,fstE hs=u.2.1:=by
  have:=minL_mem (l:=hs.map fun u=>u.2.1) (by simpa using h)
  obtain ⟨u,hu,e⟩:=List.mem_map.mp this
  exact ⟨u,hu,e.symm⟩
theorem hds_mem {us:List T3} {m:Rat} {u:T3} (h:u∈hds us m):u∈us∧m<u.2.1:=by
  obtain ⟨h1,h2⟩:=List.mem_filter.mp h
  unfold isHd at h2
  simp only [Bool.and_eq_true,Bool.not_eq_true',decide_eq_true_eq] at h2
  exact ⟨h1,h2.2⟩
theorem fstE_gt {us:List T3} {m:Rat} (h:hds us m≠[]):m<fstE (hds us m):=by
  obtain ⟨u,hu,e⟩:=fstE_mem h
  rw [e]; exact (hds_mem hu).2
def ahead (us:List T3) (m:Rat):Nat:=(us.filter fun u=>decide (m<u.2.1)).length
theorem filter_len_lt {α:Type} {p q:α→Bool}:∀ {l:List α},(∀ x∈l,q x=true→p x=true)→(∃ x∈l,p x=true∧q x=false)→(l.filter q).length<(l.filter p).length
  | [],_,⟨x,hx,_⟩=>absurd hx (by simp)
  | y :: r,h,⟨x,hx,h1,h2⟩=>by
    have le:∀ {l:List α},(∀ x∈l,q x=true→p x=true)→(l.filter q).length≤(l.filter p).length:=fun {l}=>by
      induction l with
      | nil=>intro _; exact Nat.le_refl _
      | cons z t ih =>
        intro hh
        have ih:=ih fun x hx=>hh x (List.mem_cons_of_mem _ hx)
        have hz:=hh z (by simp)
        rw [List.filter_cons,List.filter_cons]
        cases e1:q z <;> cases e2:p z <;> simp_all <;> omega
    rcases List.mem_cons.mp hx with e | e
    · subst e
      have:=le (l:=r) fun x hx=>h x (List.mem_cons_of_mem _ hx)
      rw [List.filter_cons,List.filter_cons,h1,h2]
      simp; omega
    · have ih:=filter_len_lt (l:=r) (fun x hx=>h x (List.mem_cons_of_mem _ hx)) ⟨x,e,h1,h2⟩
      have hy:=h y (by simp)
      rw [List.filter_cons,List.filter_cons]
      cases e1:q y <;> cases e2:p y <;> simp_all <;> omega
theorem ahead_lt {us:List T3} {m:Rat} (h:hds us m≠[]):ahead us (fstE (hds us m))<ahead us m:=by
  have gt:=fstE_gt h
  obtain ⟨u,hu,e⟩:=fstE_mem h
  obtain ⟨h1,h2⟩:=hds_mem hu
  refine filter_len_lt (fun x _ hx=>?_) ⟨u,h1,decide_eq_true h2,?_⟩
  · simp only [decide_eq_true_eq] at hx ⊢
    grind
  · rw [e]; simp only [decide_eq_false_iff_not]; grind
def markF (us:List T3) (t:Rat):Nat→Rat→Rat→Rat
  | 0,_,re=>re
  | n+1,mo,re =>
    if hds us re = [] then re
    else if t<mo+(fstE (hds us re)-re)*(sumS (hds us re):Rat) then re+(t-mo) / (sumS (hds us re):Rat)
    else markF us t n (mo+(fstE (hds us re)-re)*(sumS (hds us re):Rat)) (fstE (hds us re))
def markAt (us:List T3) (latest:Int) (reached:Rat) (t:Int):Rat:=markF us (t:Rat) (us.length+1) (latest:Rat) reached
theorem ahead_le (us:List T3) (m:Rat):ahead us m≤us.length:=List.length_filter_le _ _
def Grd (D:Int) (q:Rat):Prop:=∃ n:Int,q=(n:Rat) / (D:Rat)
theorem Grd.int {D:Int} (hD:D≠0) (n:Int):Grd D (n:Rat):=⟨n*D,by have:=q_cast_ne hD; rw [Rat.intCast_mul]; grind⟩
theorem Grd.add {D:Int} {a b:Rat} (h:Grd D a) (k:Grd D b):Grd D (a+b):=by
  obtain ⟨n,rfl⟩:=h
  obtain ⟨m,rfl⟩:=k
  exact ⟨n+m,by rw [Rat.intCast_add]; grind⟩
theorem Grd.sub {D:Int} {a b:Rat} (h:Grd D a) (k:Grd D b):Grd D (a-b):=by
  obtain ⟨n,rfl⟩:=h
  obtain ⟨m,rfl⟩:=k
  exact ⟨n-m,by rw [Rat.intCast_sub]; grind⟩
theorem Grd.muli {D:Int} {a:Rat} (h:Grd D a) (k:Int):Grd D (a*(k:Rat)):=by
  obtain ⟨n,rfl⟩:=h
  exact ⟨n*k,by rw [Rat.intCast_mul]; grind⟩
theorem Grd.divi {D:Int} {a:Rat} (hD:D≠0) (h:Grd D a) {k:Int} (hk:k≠0):Grd (D*k) (a / (k:Rat)):=by
  obtain ⟨n,rfl⟩:=h
  have h1:=q_cast_ne hD
  have h2:=q_cast_ne hk
  exact ⟨n,by rw [Rat.intCast_mul]; grind⟩
theorem Grd.more {D:Int} {a:Rat} (hD:D≠0) (h:Grd D a) {k:Int} (hk:k≠0):Grd (D*k) a:=by
  obtain ⟨n,rfl⟩:=h
  have h1:=q_cast_ne hD
  have h2:=q_cast_ne hk
  exact ⟨n*k,by rw [Rat.intCast_mul,Rat.intCast_mul]; grind⟩
theorem Grd.sz {D M:Int} {a b:Nat} {q:Rat} (h:Grd D q) (hD:0<D) (zD:Sz a D) (zM:Sz b M) (h1:-(M:Rat)≤q) (h2:q≤(M:Rat)) (hb:1≤b):SzQ (a+b) q:=by
  obtain ⟨n,rfl⟩:=h
  have dp:=q_cast_pos hD
  have dn:=q_cast_ne (show D≠0 by omega)
  refine .of (by omega) rfl ((zD.mul zM).le ?_) (zD.mono (by omega))
  have e:(n:Rat) / (D:Rat)*(D:Rat)=(n:Rat):=by grind
  have u:(n:Rat)≤((M*D:Int):Rat):=by
    rw [← e,Rat.intCast_mul]
    exact Rat.mul_le_mul_of_nonneg_right h2 (by grind)
  have l:((-(M*D):Int):Rat)≤(n:Rat):=by
    rw [← e,Rat.intCast_neg,Rat.intCast_mul,show -((M:Rat)*(D:Rat)) = -(M:Rat)*(D:Rat) by grind]
    exact Rat.mul_le_mul_of_nonneg_right h1 (by grind)
  have u':=Rat.intCast_le_intCast.mp u
  have l':=Rat.intCast_le_intCast.mp l
  rw [Int.mul_comm D M]
  omega
end Sw
namespace L2
open PySem PySem.Spec PyProof.Rows
theorem while_m {c:TT} {tb:TS} {D:Ends} {σ:St} {H:Hp} (W:Nat→St→Hp→Prop) {m0:Nat} (h0:W m0 σ H)
    (hs:∀ m σ H,W m σ H→∃ b:Bool,(∀ Q:Bool→Hp→Prop,Q b H→c σ H Q)∧(b=true→tb { D with nx:=fun σ' H'=>∃ m',m' < m∧W m' σ' H',ct:=fun σ' H'=>∃ m',m' < m∧W m' σ' H',bk:=D.nx } σ H)∧(b=false→D.nx σ H)):tWhile c tb D σ H:=by
  refine ⟨W,⟨_,h0⟩,fun m σ H p=>?_⟩
  obtain ⟨b,hc,h1,h2⟩:=hs m σ H p
  refine hc _ ?_
  cases b with
  | true=>exact ⟨_,fun σ' H' z=>z,h1 rfl⟩
  | false=>exact h2 rfl
def TagAt (H:Hp) (p:Addr) (u:Sw.T3):Prop:=∃ pb pe,H p=some (.tup [.ref pb,.ref pe,.int u.2.2])∧H pb=some (.tup (fq u.1))∧H pe=some (.tup (fq u.2.1))
abbrev TagsAt (H:Hp) (ps:List Addr) (us:List Sw.T3):Prop:=Paired (TagAt H) ps us
theorem TagAt.keep {H H':Hp} {p:Addr} {u:Sw.T3} (h:TagAt H p u) (e:∀ p xs,H p=some (.tup xs)→H' p=some (.tup xs)):TagAt H' p u:=by
  obtain ⟨pb,pe,h1,h2,h3⟩:=h
  exact ⟨pb,pe,e _ _ h1,e _ _ h2,e _ _ h3⟩
theorem tags_keep {H H':Hp} {ps:List Addr} {us:List Sw.T3} (h:TagsAt H ps us) (e:∀ p xs,H p=some (.tup xs)→H' p=some (.tup xs)):TagsAt H' ps us:=Paired.mapP h fun _ _ q=>q.keep e
theorem tags_same {H H':Hp} {ps:List Addr} {us:List Sw.T3} (h:TagsAt H ps us) (e:Same H H'):TagsAt H' ps us:=tags_keep h fun _ _ q=>e _ _ q
theorem tags_len {H:Hp} {ps:List Addr} {us:List Sw.T3} (h:TagsAt H ps us):ps.length=us.length:=Paired.length h
theorem paired_snoc {α β:Type} {F:α→β→Prop} {a:α} {b:β} (h:F a b):∀ {l₁:List α} {l₂:List β},Paired F l₁ l₂→Paired F (l₁++[a]) (l₂++[b])
  | _,_,Paired.nil=>.cons h .nil
  | _,_,Paired.cons x y=>.cons x (paired_snoc h y)
theorem paired_get {α β:Type} {F:α→β→Prop}:∀ {l₁:List α} {l₂:List β} {i:Nat} {a:α},Paired F l₁ l₂→l₁[i]? = some a→∃ b,l₂[i]? = some b∧F a b
  | _,_,_,_,Paired.nil,e=>by simp at e
  | _,_,0,_,Paired.cons x _,e=>by simp at e; subst e; exact ⟨_,rfl,x⟩
  | _,_,i+1,_,Paired.cons _ y,e=>by
    obtain ⟨b,h1,h2⟩:=paired_get (i:=i) y (by simpa using e)
    exact ⟨b,by simpa using h1,h2⟩
theorem take_succ_of {α:Type} {l:List α} {i:Nat} {x:α} (h:l[i]? = some x):l.take (i+1)=l.take i++[x]:=by
  rw [List.take_add_one,h]; rfl
structure TagOk (D B:Int) (u:Sw.T3):Prop where
  b:Sw.Grd D u.1
  e:Sw.Grd D u.2.1
  b0:0≤u.1
  be:u.1≤u.2.1
  eB:u.2.1≤(B:Rat)
  s1:1≤u.2.2
  s2:u.2.2≤1000000
theorem sumS_ok {D B:Int}:∀ {hs:List Sw.T3},(∀ u∈hs,TagOk D B u)→hs≠[]→1≤Sw.sumS hs∧Sw.sumS hs≤hs.length*1000000
  | [],_,h=>absurd rfl h
  | [u],h,_=>by
    have t:=h u (by simp)
    have a:=t.s1
    have b:=t.s2
    unfold Sw.sumS
    simp
    omega
  | u :: v :: r,h,_=>by
    have t:=h u (by simp)
    have a:=t.s1
    have b:=t.s2
    have ih:=sumS_ok (hs:=v :: r) (fun x hx=>h x (List.mem_cons_of_mem _ hx)) (by simp)
    have e:Sw.sumS (u :: v :: r)=u.2.2+Sw.sumS (v :: r):=by unfold Sw.sumS; simp
    rw [e]
    simp only [List.length_cons] at ih ⊢
    omega
structure GB (D B:Int):Prop where
  D0:0<D
  Dz:Sw.Sz 1500 D
  B0:0≤B
  B1:B≤10000000000
theorem GB.sz {D B M:Int} {q:Rat} (g:GB D B) (h:Sw.Grd D q) (h1:-(M:Rat)≤q) (h2:q≤(M:Rat)) (m1:-100000000000000000000<M) (m2:M<100000000000000000000):Sw.SzQ 1570 q :=
  h.sz g.D0 g.Dz (Sw.Sz.r18 m1 m2) h1 h2 (by decide)
theorem GB.szB {D B:Int} {q:Rat} (g:GB D B) (h:Sw.Grd D q) (h1:0≤q) (h2:q≤(B:Rat)):Sw.SzQ 1570 q:=by
  have b0:=g.B0
  have b1:=g.B1
  have:(0:Rat)≤(B:Rat):=by grind
  exact g.sz h (by grind) h2 (by omega) (by omega)
structure FT (fs:List (Str×V)) (lat:Int) (pr pu pe:Addr):Prop where
  lat:fs.lookup ("latest" : Str)=some (.int lat)
  rch:fs.lookup ("reached" : Str)=some (.ref pr)
  unf:fs.lookup ("unflowed" : Str)=some (.ref pu)
  lst:fs.lookup ("last_ends" : Str)=some (.ref pe)
  no:∀ m:Str,¬ m = "latest" → ¬ m = "reached" → ¬ m = "unflowed" → ¬ m = "last_ends" → fs.lookup m=none
  len:fs.length<900
structure TdM (C:Addr) (H:Hp) (p:Addr) (lat:Int) (re:Rat) (us:List Sw.T3):Prop where
  ex:∃ dx fs pr pu pe ps,H p=some (.ins C dx fs)∧FT fs lat pr pu pe∧H pr=some (.tup (fq re))∧H pu=some (.lst (ps.map V.ref))∧TagsAt H ps us
structure TideOk (D B lat:Int) (re:Rat) (us:List Sw.T3):Prop where
  gb:GB D B
  gre:Sw.Grd D re
  re0:0≤re
  reB:re≤(B:Rat)
  tus:∀ u∈us,TagOk D B u
  len:us.length≤100
  l0:0≤lat
  l1:lat<1000000000000000
theorem TideOk.zr {D B lat:Int} {re:Rat} {us:List Sw.T3} (o:TideOk D B lat re us):Sw.SzQ 1570 re:=o.gb.szB o.gre o.re0 o.reB
theorem TideOk.zu {D B lat:Int} {re:Rat} {us:List Sw.T3} (o:TideOk D B lat re us) (u:Sw.T3) (h:u∈us):Sw.SzQ 5000 u.1∧Sw.SzQ 5000 u.2.1:=by
  have t:=o.tus u h
  have be:=t.be
  have b0:=t.b0
  have eB:=t.eB
  exact ⟨(o.gb.szB t.b b0 (by grind)).mono (by decide),(o.gb.szB t.e (by grind) eB).mono (by decide)⟩
theorem TideOk.lat0 {D B lat:Int} {re:Rat} {us:List Sw.T3} (o:TideOk D B lat re us):(0:Rat)≤(lat:Rat):=by
  have:((0:Int):Rat)≤(lat:Rat):=Rat.intCast_le_intCast.mpr o.l0
  exact this
end L2
namespace L2
open PySem PySem.Spec PyProof.Rows
theorem n_latest_reached:¬ (("latest" : Str) = "reached"):=by decide +kernel
theorem n_latest_unflowed:¬ (("latest" : Str) = "unflowed"):=by decide +kernel
theorem n_latest_last_ends:¬ (("latest" : Str) = "last_ends"):=by decide +kernel
theorem n_reached_latest:¬ (("reached" : Str) = "latest"):=by decide +kernel
theorem n_reached_unflowed:¬ (("reached" : Str) = "unflowed"):=by decide +kernel
theorem n_reached_last_ends:¬ (("reached" : Str) = "last_ends"):=by decide +kernel
theorem n_unflowed_latest:¬ (("unflowed" : Str) = "latest"):=by decide +kernel
theorem n_unflowed_reached:¬ (("unflowed" : Str) = "reached"):=by decide +kernel
theorem n_unflowed_last_ends:¬ (("unflowed" : Str) = "last_ends"):=by decide +kernel
theorem n_last_ends_latest:¬ (("last_ends" : Str) = "latest"):=by decide +kernel
theorem n_last_ends_reached:¬ (("last_ends" : Str) = "reached"):=by decide +kernel
theorem n_last_ends_unflowed:¬ (("last_ends" : Str) = "unflowed"):=by decide +kernel
theorem FT.put_lat {fs:List (Str×V)} {lat:Int} {pr pu pe:Addr} {l':Int} (h:FT fs lat pr pu pe):FT (putF "latest" (.int l') fs) l' pr pu pe:=by
  refine ⟨?_,?_,?_,?_,fun m h1 h2 h3 h4=>?_,?_⟩
  · rw [lookup_putF,if_pos rfl]
  · rw [lookup_putF,if_neg n_reached_latest]; exact h.rch
  · rw [lookup_putF,if_neg n_unflowed_latest]; exact h.unf
  · rw [lookup_putF,if_neg n_last_ends_latest]; exact h.lst
  · rw [lookup_putF,if_neg h1]; exact h.no m h1 h2 h3 h4
  · rw [putF_len h.lat]; exact h.len
theorem FT.put_rch {fs:List (Str×V)} {lat:Int} {pr pu pe:Addr} {r':Addr} (h:FT fs lat pr pu pe):FT (putF "reached" (.ref r') fs) lat r' pu pe:=by
  refine ⟨?_,?_,?_,?_,fun m h1 h2 h3 h4=>?_,?_⟩
  · rw [lookup_putF,if_neg n_latest_reached]; exact h.lat
  · rw [lookup_putF,if_pos rfl]
  · rw [lookup_putF,if_neg n_unflowed_reached]; exact h.unf
  · rw [lookup_putF,if_neg n_last_ends_reached]; exact h.lst
  · rw [lookup_putF,if_neg h2]; exact h.no m h1 h2 h3 h4
  · rw [putF_len h.rch]; exact h.len
theorem FT.put_unf {fs:List (Str×V)} {lat:Int} {pr pu pe:Addr} {u':Addr} (h:FT fs lat pr pu pe):FT (putF "unflowed" (.ref u') fs) lat pr u' pe:=by
  refine ⟨?_,?_,?_,?_,fun m h1 h2 h3 h4=>?_,?_⟩
  · rw [lookup_putF,if_neg n_latest_unflowed]; exact h.lat
  · rw [lookup_putF,if_neg n_reached_unflowed]; exact h.rch
  · rw [lookup_putF,if_pos rfl]
  · rw [lookup_putF,if_neg n_last_ends_unflowed]; exact h.lst
  · rw [lookup_putF,if_neg h3]; exact h.no m h1 h2 h3 h4
  · rw [putF_len h.unf]; exact h.len
theorem FT.mk0 (pr pu pe:Addr):FT (putF "last_ends" (.ref pe) (putF "unflowed" (.ref pu) (putF "reached" (.ref pr) (putF "latest" (.int 0) [])))) 0 pr pu pe:=by
  refine ⟨?_,?_,?_,?_,fun m h1 h2 h3 h4=>?_,?_⟩
  · rw [lookup_putF,if_neg n_latest_last_ends,lookup_putF,if_neg n_latest_unflowed,lookup_putF,if_neg n_latest_reached,lookup_putF,if_pos rfl]
  · rw [lookup_putF,if_neg n_reached_last_ends,lookup_putF,if_neg n_reached_unflowed,lookup_putF,if_pos rfl]
  · rw [lookup_putF,if_neg n_unflowed_last_ends,lookup_putF,if_pos rfl]
  · rw [lookup_putF,if_pos rfl]
  · rw [lookup_putF,if_neg h4,lookup_putF,if_neg h3,lookup_putF,if_neg h2,lookup_putF,if_neg h1]; rfl
  · have a1:=putF_len' (fs:=[]) (f := "latest") (v:=.int 0)
    have a2:=putF_len' (fs:=putF "latest" (.int 0) []) (f := "reached") (v:=.ref pr)
    have a3:=putF_len' (fs:=putF "reached" (.ref pr) (putF "latest" (.int 0) [])) (f := "unflowed") (v:=.ref pu)
    have a4:=putF_len' (fs:=putF "unflowed" (.ref pu) (putF "reached" (.ref pr) (putF "latest" (.int 0) []))) (f := "last_ends") (v:=.ref pe)
    simp only [List.length_nil] at a1
    omega
def EnAt (H:Hp) (kvs:List (Key×V)) (en:Int→Option Rat):Prop:=∀ w:Int,(en w=none∧valV kvs (Sum.inl w:Key)=none)∨∃ e q,en w=some e∧valV kvs (Sum.inl w:Key)=some (.ref q)∧H q=some (.tup (fq e))
theorem EnAt.keep {H H':Hp} {kvs:List (Key×V)} {en:Int→Option Rat} (h:EnAt H kvs en) (e:∀ p xs,H p=some (.tup xs)→H' p=some (.tup xs)):EnAt H' kvs en:=fun w=>by
  rcases h w with z | ⟨x,q,h1,h2,h3⟩
  · exact .inl z
  · exact .inr ⟨x,q,h1,h2,e _ _ h3⟩
def setE (en:Int→Option Rat) (w:Int) (e:Rat):Int→Option Rat:=fun v=>if v=w then some e else en v
theorem EnAt.put {H:Hp} {kvs:List (Key×V)} {en:Int→Option Rat} {w:Int} {e:Rat} {q:Addr} (h:EnAt H kvs en) (hq:H q=some (.tup (fq e))):EnAt H (putK kvs (Sum.inl w) (.ref q)) (setE en w e):=fun v=>by
  rw [valV_put]
  unfold setE
  by_cases hv:v=w
  · subst hv
    rw [if_pos rfl,if_pos rfl]
    exact .inr ⟨e,q,rfl,rfl,hq⟩
  · rw [if_neg hv,if_neg (by intro z; exact hv (Sum.inl.inj z))]
    exact h v
structure Td (C:Addr) (H:Hp) (p pe:Addr) (lat:Int) (re:Rat) (us:List Sw.T3) (en:Int→Option Rat) (m:Nat):Prop where
  ex:∃ dx fs pr pu ps kvs,H p=some (.ins C dx fs)∧FT fs lat pr pu pe∧H pr=some (.tup (fq re))∧H pu=some (.lst (ps.map V.ref))∧TagsAt H ps us∧H pe=some (.dK kvs)∧EnAt H kvs en∧kvs.length≤m∧us.length≤m
theorem Td.m {C:Addr} {H:Hp} {p pe:Addr} {lat:Int} {re:Rat} {us:List Sw.T3} {en:Int→Option Rat} {m:Nat} (h:Td C H p pe lat re us en m):TdM C H p lat re us:=by
  obtain ⟨dx,fs,pr,pu,ps,kvs,h1,h2,h3,h4,h5,_⟩:=h.ex
  exact ⟨dx,fs,pr,pu,pe,ps,h1,h2,h3,h4,h5⟩
theorem Td.same {C:Addr} {H H':Hp} {p pe:Addr} {lat:Int} {re:Rat} {us:List Sw.T3} {en:Int→Option Rat} {m:Nat} (h:Td C H p pe lat re us en m) (s:Same H H'):Td C H' p pe lat re us en m:=by
  obtain ⟨dx,fs,pr,pu,ps,kvs,h1,h2,h3,h4,h5,h6,h7,h8⟩:=h.ex
  exact ⟨dx,fs,pr,pu,ps,kvs,s _ _ h1,h2,s _ _ h3,s _ _ h4,tags_same h5 s,s _ _ h6,h7.keep fun _ _ q=>s _ _ q,h8⟩
def Kept (p d:Addr) (H H':Hp):Prop:=∀ b o,b≠p→b≠d→H b=some o→H' b=some o
theorem Same.kept {p d:Addr} {H H':Hp} (h:Same H H'):Kept p d H H':=fun b o _ _ e=>h b o e
theorem Kept.trans {p d:Addr} {H H1 H2:Hp} (a:Kept p d H H1) (b:Kept p d H1 H2):Kept p d H H2:=fun c o n1 n2 h=>b c o n1 n2 (a c o n1 n2 h)
end L2
namespace Sw
open L2
theorem markF_ok {us:List T3} {D B:Int} {t:Int} (gb:GB D B) (ok:∀ u∈us,TagOk D B u) (lu:us.length≤100):∀ (n:Nat) (mo re:Rat),Grd D mo→mo≤(t:Rat)→Grd D re→0≤re→re≤(B:Rat) →
    (∃ S:Int,1≤S∧S≤us.length*1000000+1∧Grd (D*S) (markF us (t:Rat) n mo re))∧re≤markF us (t:Rat) n mo re∧markF us (t:Rat) n mo re≤(B:Rat)
  | 0,mo,re,gm,hm,gr,r0,r1=>⟨⟨1,by decide,by omega,gr.more (by have:=gb.D0; omega) (by decide)⟩,by unfold markF; grind,by unfold markF; exact r1⟩
  | n+1,mo,re,gm,hm,gr,r0,r1=>by
    have D0:D≠0:=by have:=gb.D0; omega
    unfold markF
    by_cases hn:hds us re = []
    · rw [if_pos hn]
      exact ⟨⟨1,by decide,by omega,gr.more D0 (by decide)⟩,by grind,r1⟩
    · rw [if_neg hn]
      have gt:=fstE_gt hn
      have hok:∀ u∈hds us re,TagOk D B u:=fun u h=>ok u (hds_mem h).1
      have hS:=sumS_ok hok hn
      have hl:(hds us re).length≤us.length:=List.length_filter_le _ _
      obtain ⟨uf,huf,ef⟩:=fstE_mem hn
      have gf:Grd D (fstE (hds us re)):=by rw [ef]; exact (hok uf huf).e
      have fB:fstE (hds us re)≤(B:Rat):=by rw [ef]; exact (hok uf huf).eB
      generalize fstE (hds us re)=fv at gt gf fB ⊢
      generalize sumS (hds us re)=S at hS ⊢
      have Sp:(0:Rat)<(S:Rat):=q_cast_pos (by omega)
      by_cases hlt:(t:Rat)<mo+(fv-re)*(S:Rat)
      · rw [if_pos hlt]
        have x0:0≤((t:Rat)-mo) / (S:Rat):=by
          have:¬ ((t:Rat)-mo) / (S:Rat)<0:=by rw [Rat.div_lt_iff Sp]; grind
          grind
        have x1:((t:Rat)-mo) / (S:Rat)<fv-re:=by rw [Rat.div_lt_iff Sp]; grind
        refine ⟨⟨S,hS.1,by omega,(gr.more D0 (by omega)).add (((Grd.int D0 t).sub gm).divi D0 (by omega))⟩,by grind,by grind⟩
      · rw [if_neg hlt]
        have ih:=markF_ok (t:=t) gb ok lu n (mo+(fv-re)*(S:Rat)) fv (gm.add ((gf.sub gr).muli S)) (by grind) gf (by grind) fB
        exact ⟨ih.1,by have:=ih.2.1; grind,ih.2.2⟩
theorem markAt_ok {us:List T3} {D B lat:Int} {re:Rat} {t:Int} (o:TideOk D B lat re us) (h:lat≤t) :
    (∃ S:Int,1≤S∧S≤us.length*1000000+1∧Grd (D*S) (markAt us lat re t))∧re≤markAt us lat re t∧markAt us lat re t≤(B:Rat) :=
  markF_ok o.gb o.tus o.len _ _ _ (Grd.int (by have:=o.gb.D0; omega) lat) (Rat.intCast_le_intCast.mpr h) o.gre o.re0 o.reB
theorem markAt_self {us:List T3} {D B lat:Int} {re:Rat} (o:∀ u∈us,TagOk D B u):markAt us lat re lat=re:=by
  unfold markAt markF
  by_cases hn:hds us re = []
  · rw [if_pos hn]
  · rw [if_neg hn]
    have gt:=fstE_gt hn
    have hS:=sumS_ok (D:=D) (B:=B) (fun u h=>o u (hds_mem h).1) hn
    have Sp:(0:Rat)<(sumS (hds us re):Rat):=q_cast_pos (by omega)
    have:=Rat.mul_pos (a:=fstE (hds us re)-re) (by grind) Sp
    rw [if_pos (by grind)]
    have:((lat:Rat)-(lat:Rat)) / (sumS (hds us re):Rat) = 0:=by grind
    rw [this]; grind
def begOn (en:Int→Option Rat) (rv:Rat) (w:Int):Rat:=max rv ((en w).getD rv)
def usOn (us:List T3) (rv b:Rat) (len sh:Int):List T3:=(us.filter fun u=>decide (rv<u.2.1))++[(b,b+(len:Rat) / (sh:Rat),sh)]
end Sw
namespace L2
open PySem PySem.Spec PyProof.Rows
end L2
namespace L2
open PySem PySem.Spec PyProof.Rows
def Ite1 (K:PySem.W.Frag) (a:Addr):It :=
  ⟨fun i H=>∃ xs x,SqL K H a xs∧xs[i]? = some x,
   fun i H y H'=>∃ p x,y = .ref p∧H p=none∧(∀ xs,SqL K H a xs→xs[i]? = some x)∧H'=upd H p (.tup [.int ((i+1:Nat):Int),x]),
   fun i H=>∃ xs,SqL K H a xs∧xs.length=i⟩
section
variable {X:Cx}
def iEnum1 (K:PySem.W.Frag) (ta:TA):TI:=fun σ H R=>ta σ H fun vs H1=>∃ a,vs = [.ref a]∧(∃ xs,SqL K H1 a xs)∧R (Ite1 K a) H1
end
end L2
namespace L2
open PySem PySem.Spec PyProof.Rows
section
variable {X:Cx}
def Itv (K:PySem.W.Frag) (a:Addr) (xs:List V):It :=
  ⟨fun i H=>SqL K H a xs∧i<xs.length,fun i H x H'=>H'=H∧xs.reverse[i]? = some x,fun i H=>SqL K H a xs∧xs.length=i⟩
def iRev (K:PySem.W.Frag) (ta:TA):TI:=fun σ H R=>ta σ H fun vs H1=>∃ a xs,vs = [.ref a]∧SqL K H1 a xs∧R (Itv K a xs) H1
end
end L2
namespace L2
end L2
namespace L2
open PySem PySem.Spec PyProof.Rows
def DSd (H:Hp) (a:Addr) (y d:V) (v:V) (H':Hp):Prop:=∃ kvs k,H a=some (.dK kvs)∧y=kV k∧kvs.length<sizeLine∧((valV kvs k=some v∧H'=H)∨(valV kvs k=none∧v=d∧H'=upd H a (.dK (putK kvs k d))))
section
variable {X:Cx} {pins:List (Addr×Obj)} {σ:St} {H H':Hp} {s:Shared} {a:Addr} {y d v:V} {u r:Value} {A:Around} {E:Value→Shared→Prop}
end
def tDSd (td ty tx:TE):TE:=fun σ H Q=>td σ H fun x H1=>∃ a,x = .ref a∧IsD H1 a∧ty σ H1 fun y H2=>tx σ H2 fun z H3=>∃ v H4,DSd H3 a y z v H4∧Q v H4
section
variable {X:Cx} {o e f:Expr} {td ty tx:TE} {apos cpos:Pos}
end
end L2
namespace Sw
open L2
def ov (low high:Rat) (u:T3):Rat:=if u.2.1≤low then 0 else if high≤u.1 then 0 else (if u.2.1≤high then u.2.1 else high)-(if low≤u.1 then u.1 else low)
def went (low high:Rat):List T3→Rat
  | []=>0
  | u :: r=>(u.2.2:Rat)*ov low high u+went low high r
theorem ov_add {l m h:Rat} {u:T3} (h1:l≤m) (h2:m≤h) (hu:u.1≤u.2.1):ov l h u=ov l m u+ov m h u:=by
  unfold ov
  grind
theorem went_add {l m h:Rat} (h1:l≤m) (h2:m≤h):∀ {us:List T3},(∀ u∈us,u.1≤u.2.1)→went l h us=went l m us+went m h us
  | [],_=>by unfold went; grind
  | u :: r,hu=>by
    have e:=ov_add (u:=u) h1 h2 (hu u (by simp))
    have ih:=went_add h1 h2 (us:=r) fun x hx=>hu x (List.mem_cons_of_mem _ hx)
    unfold went
    rw [e,ih,Rat.mul_add]
    grind
def Chain (us:List T3) (m:Rat):Prop:=∀ u∈us,u.1≤m∨∃ v∈us,v.2.1=u.1∧v.1<v.2.1
theorem Chain.on {us:List T3} {m m':Rat} (h:Chain us m) (le:m≤m'):Chain us m':=fun u hu=>by
  rcases h u hu with q | q
  · exact .inl (by grind)
  · exact .inr q
theorem filter_lt_len {l:List T3} {a b:Rat} (h:a<b) (hw:∃ v∈l,v.1=a):(l.filter fun u=>decide (u.1<a)).length<(l.filter fun u=>decide (u.1<b)).length:=by
  obtain ⟨v,hv,e⟩:=hw
  refine filter_len_lt (fun x _ hx=>?_) ⟨v,hv,decide_eq_true (by rw [e]; exact h),by rw [e]; simp only [decide_eq_false_iff_not]; grind⟩
  simp only [decide_eq_true_eq] at hx ⊢
  grind
theorem chain_first {us:List T3} {m:Rat} (c:Chain us m):∀ (n:Nat) (u:T3),u∈us→m<u.1→(us.filter fun x=>decide (x.1<u.1)).length≤n→∃ h∈hds us m,h.2.1≤u.1
  | 0,u,hu,hm,hn=>by
    rcases c u hu with q | ⟨v,hv,e1,e2⟩
    · grind
    · have:v∈us.filter fun x=>decide (x.1<u.1):=List.mem_filter.mpr ⟨hv,decide_eq_true (by grind)⟩
      have hz:=List.length_eq_zero_iff.mp (Nat.le_zero.mp hn)
      rw [hz] at this
      cases this
  | n+1,u,hu,hm,hn=>by
    rcases c u hu with q | ⟨v,hv,e1,e2⟩
    · grind
    · by_cases hvm:v.1≤m
      · refine ⟨v,List.mem_filter.mpr ⟨hv,?_⟩,by grind⟩
        unfold isHd
        rw [decide_eq_false (by grind),decide_eq_true (by rw [e1]; exact hm)]
        rfl
      · have lt:=filter_lt_len (l:=us) (a:=v.1) (b:=u.1) (by grind) ⟨v,hv,rfl⟩
        obtain ⟨h,h1,h2⟩:=chain_first c n v hv (by grind) (by omega)
        exact ⟨h,h1,by grind⟩
theorem foldl_min_le:∀ (l:List Rat) (d:Rat),l.foldl min d≤d∧∀ x∈l,l.foldl min d≤x
  | [],d=>⟨by show d≤d; grind,fun x h=>absurd h List.not_mem_nil⟩
  | q :: r,d=>by
    obtain ⟨h1,h2⟩:=foldl_min_le r (min d q)
    have hm:min d q≤d∧min d q≤q:=by rw [Rat.min_def]; split <;> constructor <;> grind
    refine ⟨by rw [List.foldl_cons]; grind,fun x hx=>?_⟩
    rw [List.foldl_cons]
    rcases List.mem_cons.mp hx with e | e
    · subst e; grind
    · exact h2 x e
theorem fstE_le {hs:List T3} {u:T3} (h:u∈hs):fstE hs≤u.2.1:=by
  unfold fstE
  have hm:u.2.1∈hs.map fun u=>u.2.1:=List.mem_map.mpr ⟨u,h,rfl⟩
  generalize (hs.map fun u=>u.2.1)=l at hm
  cases l with
  | nil=>cases hm
  | cons q r=>exact (foldl_min_le (q :: r) q).2 _ hm
theorem sumS_cons (u:T3) (r:List T3):sumS (u :: r)=u.2.2+sumS r:=by unfold sumS; simp
theorem went_heads {m h:Rat} (le:m≤h):∀ {us:List T3},(∀ u∈us,isHd m u=true→h≤u.2.1)→(∀ u∈us,m<u.1→h≤u.1)→(∀ u∈us,u.1≤u.2.1)→went m h us=(sumS (hds us m):Rat)*(h-m)
  | [],_,_,_=>by
    have:sumS (hds [] m) = 0:=rfl
    rw [this]
    unfold went
    have z:((0:Int):Rat) = 0:=rfl
    rw [z]; grind
  | u :: r,h1,h2,h3=>by
    have ih:=went_heads le (us:=r) (fun x hx=>h1 x (List.mem_cons_of_mem _ hx)) (fun x hx=>h2 x (List.mem_cons_of_mem _ hx)) fun x hx=>h3 x (List.mem_cons_of_mem _ hx)
    have a1:=h1 u (by simp)
    have a2:=h2 u (by simp)
    have a3:=h3 u (by simp)
    have eh:hds (u :: r) m=(if isHd m u=true then u :: hds r m else hds r m):=by
      unfold hds
      rw [List.filter_cons]
    unfold went
    rw [ih,eh]
    cases e:isHd m u with
    | true =>
      rw [if_pos rfl,sumS_cons,Rat.intCast_add]
      have a1:=a1 e
      unfold isHd at e
      simp only [Bool.and_eq_true,Bool.not_eq_true',decide_eq_true_eq,decide_eq_false_iff_not] at e
      have eo:ov m h u=h-m:=by
        unfold ov
        grind
      rw [eo,Rat.add_mul]
    | false =>
      rw [if_neg (by decide)]
      have eo:ov m h u = 0:=by
        unfold isHd at e
        unfold ov
        by_cases q:m<u.1
        · have:=a2 q
          grind
        · rw [decide_eq_false q] at e
          have:¬ m<u.2.1:=by simpa using e
          grind
      rw [eo]
      grind
theorem mark_went {us:List T3} {D B:Int} {t:Rat} (ok:∀ u∈us,TagOk D B u):∀ (n:Nat) (mo re:Rat),Chain us re→mo≤t→ahead us re<n →
    re≤markF us t n mo re∧(((∃ u∈us,markF us t n mo re<u.2.1)∧went re (markF us t n mo re) us=t-mo)∨((∀ u∈us,u.2.1≤markF us t n mo re)∧went re (markF us t n mo re) us≤t-mo))
  | 0,mo,re,_,_,h=>absurd h (by omega)
  | n+1,mo,re,ch,hm,ha=>by
    have be:∀ u∈us,u.1≤u.2.1:=fun u h=>(ok u h).be
    unfold markF
    by_cases hn:hds us re = []
    · rw [if_pos hn]
      have w0:went re re us = 0:=by
        have:=went_add (l:=re) (m:=re) (h:=re) (by grind) (by grind) be
        grind
      refine ⟨by grind,.inr ⟨fun u hu=>?_,by rw [w0]; grind⟩⟩
      rcases Classical.em (u.2.1≤re) with q | q
      · exact q
      · exfalso
        by_cases hb:u.1≤re
        · have:u∈hds us re:=List.mem_filter.mpr ⟨hu,by unfold isHd; rw [decide_eq_false (by grind),decide_eq_true (by grind)]; rfl⟩
          rw [hn] at this; cases this
        · obtain ⟨h,h1,_⟩:=chain_first ch _ u hu (by grind) (Nat.le_refl _)
          rw [hn] at h1; cases h1
    · rw [if_neg hn]
      have gt:=fstE_gt hn
      have hok:∀ u∈hds us re,TagOk D B u:=fun u h=>ok u (hds_mem h).1
      have hS:=sumS_ok hok hn
      have Sp:(0:Rat)<(sumS (hds us re):Rat):=q_cast_pos (by omega)
      have seg:∀ h,re≤h→h≤fstE (hds us re)→went re h us=(sumS (hds us re):Rat)*(h-re):=fun h l1 l2=>went_heads l1 (fun u hu e=>by
          have:fstE (hds us re)≤u.2.1:=fstE_le (List.mem_filter.mpr ⟨hu,e⟩)
          grind) (fun u hu q=>by
          obtain ⟨v,v1,v2⟩:=chain_first ch _ u hu q (Nat.le_refl _)
          have:=fstE_le v1
          grind) be
      have al:=ahead_lt hn
      obtain ⟨uf,huf,ef⟩:=fstE_mem hn
      by_cases hlt:t<mo+(fstE (hds us re)-re)*(sumS (hds us re):Rat)
      · rw [if_pos hlt]
        have x0:0≤(t-mo) / (sumS (hds us re):Rat):=by
          have:¬ (t-mo) / (sumS (hds us re):Rat)<0:=by rw [Rat.div_lt_iff Sp]; grind
          grind
        have x1:(t-mo) / (sumS (hds us re):Rat)<fstE (hds us re)-re:=by rw [Rat.div_lt_iff Sp]; grind
        refine ⟨by grind,.inl ⟨⟨uf,(hds_mem huf).1,by rw [← ef]; grind⟩,?_⟩⟩
        rw [seg _ (by grind) (by grind)]
        have:(sumS (hds us re):Rat)≠0:=by grind
        grind
      · rw [if_neg hlt]
        have sg:=seg (fstE (hds us re)) (by grind) (by grind)
        obtain ⟨i1,i2⟩:=mark_went (t:=t) ok n (mo+(fstE (hds us re)-re)*(sumS (hds us re):Rat)) (fstE (hds us re)) (ch.on (by grind)) (by grind) (by omega)
        have ad:=went_add (l:=re) (m:=fstE (hds us re)) (h:=markF us t n (mo+(fstE (hds us re)-re)*(sumS (hds us re):Rat)) (fstE (hds us re))) (by grind) i1 be
        refine ⟨by grind,?_⟩
        rcases i2 with ⟨j1,j2⟩ | ⟨j1,j2⟩
        · exact .inl ⟨j1,by rw [ad,sg,j2]; grind⟩
        · exact .inr ⟨j1,by rw [ad,sg]; grind⟩
end Sw
namespace Sw
open L2
theorem markF_ge {us:List T3} {D B:Int} {t:Rat} (ok:∀ u∈us,TagOk D B u):∀ (n:Nat) (mo re:Rat),mo≤t→re≤markF us t n mo re
  | 0,mo,re,_=>by unfold markF; grind
  | n+1,mo,re,hm=>by
    unfold markF
    by_cases hn:hds us re = []
    · rw [if_pos hn]; grind
    · rw [if_neg hn]
      have gt:=fstE_gt hn
      have hS:=sumS_ok (fun u h=>ok u (hds_mem h).1) hn
      have Sp:(0:Rat)<(sumS (hds us re):Rat):=q_cast_pos (by omega)
      by_cases hlt:t<mo+(fstE (hds us re)-re)*(sumS (hds us re):Rat)
      · rw [if_pos hlt]
        have:¬ (t-mo) / (sumS (hds us re):Rat)<0:=by rw [Rat.div_lt_iff Sp]; grind
        grind
      · rw [if_neg hlt]
        have:=markF_ge (t:=t) ok n (mo+(fstE (hds us re)-re)*(sumS (hds us re):Rat)) (fstE (hds us re)) (by grind)
        grind
theorem markF_mono {us:List T3} {D B:Int} {t t':Rat} (ok:∀ u∈us,TagOk D B u) (h:t≤t'):∀ (n:Nat) (mo re:Rat),mo≤t→markF us t n mo re≤markF us t' n mo re
  | 0,mo,re,_=>by unfold markF; grind
  | n+1,mo,re,hm=>by
    unfold markF
    by_cases hn:hds us re = []
    · rw [if_pos hn,if_pos hn]; grind
    · rw [if_neg hn,if_neg hn]
      have gt:=fstE_gt hn
      have hS:=sumS_ok (fun u h=>ok u (hds_mem h).1) hn
      have Sp:(0:Rat)<(sumS (hds us re):Rat):=q_cast_pos (by omega)
      have Sn:(sumS (hds us re):Rat)≠0:=by grind
      by_cases h1:t<mo+(fstE (hds us re)-re)*(sumS (hds us re):Rat)
      · rw [if_pos h1]
        by_cases h2:t' < mo+(fstE (hds us re)-re)*(sumS (hds us re):Rat)
        · rw [if_pos h2]
          have:¬ (t' - mo) / (sumS (hds us re):Rat)<(t-mo) / (sumS (hds us re):Rat):=by
            rw [Rat.div_lt_iff Sp,show (t-mo) / (sumS (hds us re):Rat)*(sumS (hds us re):Rat)=t-mo by grind]
            grind
          grind
        · rw [if_neg h2]
          have x1:(t-mo) / (sumS (hds us re):Rat)<fstE (hds us re)-re:=by rw [Rat.div_lt_iff Sp]; grind
          have:=markF_ge (t:=t') ok n (mo+(fstE (hds us re)-re)*(sumS (hds us re):Rat)) (fstE (hds us re)) (by grind)
          grind
      · rw [if_neg h1,if_neg (by grind)]
        exact markF_mono ok h n _ _ (by grind)
theorem markF_end {us:List T3} {D B:Int} {t:Rat} (ok:∀ u∈us,TagOk D B u):∀ (n:Nat) (mo re:Rat),ahead us re<n→(∀ u∈us,u.2.1≤markF us t n mo re)→markF us t n mo re=re∨∃ u∈us,u.2.1=markF us t n mo re
  | 0,mo,re,h,_=>absurd h (by omega)
  | n+1,mo,re,ha,hall=>by
    unfold markF at hall ⊢
    by_cases hn:hds us re = []
    · rw [if_pos hn]; exact .inl rfl
    · rw [if_neg hn] at hall ⊢
      have al:=ahead_lt hn
      obtain ⟨uf,huf,ef⟩:=fstE_mem hn
      by_cases hlt:t<mo+(fstE (hds us re)-re)*(sumS (hds us re):Rat)
      · rw [if_pos hlt] at hall ⊢
        have hS:=sumS_ok (fun u h=>ok u (hds_mem h).1) hn
        have Sp:(0:Rat)<(sumS (hds us re):Rat):=q_cast_pos (by omega)
        have x1:(t-mo) / (sumS (hds us re):Rat)<fstE (hds us re)-re:=by rw [Rat.div_lt_iff Sp]; grind
        have:=hall uf (hds_mem huf).1
        rw [← ef] at this
        grind
      · rw [if_neg hlt] at hall ⊢
        rcases markF_end ok n _ _ (by omega) hall with h | h
        · exact .inr ⟨uf,(hds_mem huf).1,by rw [h,ef]⟩
        · exact .inr h
theorem chain_come {us:List T3} {en:Int→Option Rat} {re rv:Rat} {who len sh:Int} (h1:re≤rv) (c:Chain us re) (he:∀ w e,en w=some e→e≤re∨∃ v∈us,v.2.1=e∧v.1<v.2.1) (lt:0<(len:Rat) / (sh:Rat)) :
    Chain (usOn us rv (begOn en rv who) len sh) rv∧∀ w e,setE en who (begOn en rv who+(len:Rat) / (sh:Rat)) w=some e→e≤rv∨∃ v∈usOn us rv (begOn en rv who) len sh,v.2.1=e∧v.1<v.2.1:=by
  have old:∀ v∈us,rv<v.2.1→v∈usOn us rv (begOn en rv who) len sh:=fun v hv h=>List.mem_append_left _ (List.mem_filter.mpr ⟨hv,decide_eq_true h⟩)
  have lift:∀ e,(∃ v∈us,v.2.1=e∧v.1<v.2.1)→e≤rv∨∃ v∈usOn us rv (begOn en rv who) len sh,v.2.1=e∧v.1<v.2.1:=fun e ⟨v,hv,e1,e2⟩=>by
    rcases Classical.em (e≤rv) with q | q
    · exact .inl q
    · exact .inr ⟨v,old v hv (by grind),e1,e2⟩
  refine ⟨fun u hu=>?_,fun w e hw=>?_⟩
  · rcases List.mem_append.mp hu with h | h
    · rcases c u (List.mem_filter.mp h).1 with q | q
      · exact .inl (by grind)
      · exact lift _ q
    · have:u=(begOn en rv who,begOn en rv who+(len:Rat) / (sh:Rat),sh):=by simpa using h
      subst this
      show begOn en rv who≤rv∨∃ x∈usOn us rv (begOn en rv who) len sh,x.2.1=begOn en rv who∧x.1<x.2.1
      generalize hbo:usOn us rv (begOn en rv who) len sh=uu at lift
      unfold begOn
      cases e:en who with
      | none =>
        refine .inl ?_
        show max rv rv≤rv
        rw [Rat.max_def]; simp
      | some v =>
        show max rv v≤rv∨∃ x∈uu,x.2.1=max rv v∧x.1<x.2.1
        rcases he who v e with q | q
        · refine .inl ?_
          rw [Rat.max_def]
          split <;> grind
        · rcases lift v q with q2 | ⟨x,x1,x2,x3⟩
          · refine .inl ?_
            rw [Rat.max_def]
            split <;> grind
          · by_cases hv:rv≤v
            · refine .inr ⟨x,x1,?_,x3⟩
              show x.2.1=max rv v
              rw [Rat.max_def,if_pos hv,x2]
            · refine .inl ?_
              rw [Rat.max_def,if_neg hv]
              grind
  · unfold setE at hw
    split at hw
    · cases hw
      exact .inr ⟨(begOn en rv who,begOn en rv who+(len:Rat) / (sh:Rat),sh),List.mem_append_right _ (by simp),rfl,by show begOn en rv who<begOn en rv who+(len:Rat) / (sh:Rat); grind⟩
    · rcases he w e hw with q | q
      · exact .inl (by grind)
      · exact lift e q
end Sw
namespace Sw
open L2
structure AllIn (all us:List T3) (re:Rat):Prop where
  ch:Chain us re
  sub:∀ u∈us,u∈all
  sup:∀ u∈all,u.2.1≤re∨u∈us
  eq:∀ low high,re≤low→low≤high→went low high all=went low high us
  top:(all = []∧re = 0)∨∃ u∈all,re≤u.2.1
theorem went_past {low high:Rat}:∀ {us:List T3},(∀ u∈us,u.2.1≤low)→went low high us = 0
  | [],_=>rfl
  | u :: r,h=>by
    have h1:=h u (by simp)
    have ih:=went_past (low:=low) (high:=high) (us:=r) fun x hx=>h x (List.mem_cons_of_mem _ hx)
    show (u.2.2:Rat)*ov low high u+went low high r = 0
    rw [ih]
    unfold ov
    rw [if_pos h1]; grind
theorem went_keep {low high rv:Rat} (le:rv≤low):∀ {us:List T3},went low high (us.filter fun u=>decide (rv<u.2.1))=went low high us
  | []=>rfl
  | u :: r=>by
    have ih:=went_keep (low:=low) (high:=high) le (us:=r)
    rw [List.filter_cons]
    split
    · show (u.2.2:Rat)*ov low high u+went low high _=(u.2.2:Rat)*ov low high u+went low high r
      rw [ih]
    · rename_i h
      have h:¬ rv<u.2.1:=by simpa using h
      show went low high _=(u.2.2:Rat)*ov low high u+went low high r
      rw [ih]
      unfold ov
      rw [if_pos (by grind)]; grind
theorem went_cat {low high:Rat} {b:List T3}:∀ {a:List T3},went low high (a++b)=went low high a+went low high b
  | []=>by show went low high b = 0+went low high b; grind
  | u :: r=>by
    have ih:=went_cat (low:=low) (high:=high) (b:=b) (a:=r)
    show (u.2.2:Rat)*ov low high u+went low high (r++b)=((u.2.2:Rat)*ov low high u+went low high r)+went low high b
    rw [ih]; grind
theorem AllIn.come {all us:List T3} {re rv b:Rat} {len sh:Int} (a:AllIn all us re) (h:re≤rv) (ch:Chain (usOn us rv b len sh) rv) (hb:rv≤b+(len:Rat) / (sh:Rat)) :
    AllIn (all++[(b,b+(len:Rat) / (sh:Rat),sh)]) (usOn us rv b len sh) rv:=by
  refine ⟨ch,fun u hu=>?_,fun u hu=>?_,fun low high h1 h2=>?_,.inr ⟨(b,b+(len:Rat) / (sh:Rat),sh),List.mem_append_right _ (by simp),hb⟩⟩
  · rcases List.mem_append.mp hu with q | q
    · exact List.mem_append_left _ (a.sub u (List.mem_filter.mp q).1)
    · exact List.mem_append_right _ q
  · rcases List.mem_append.mp hu with q | q
    · rcases a.sup u q with z | z
      · exact .inl (by grind)
      · by_cases e:rv<u.2.1
        · exact .inr (List.mem_append_left _ (List.mem_filter.mpr ⟨z,decide_eq_true e⟩))
        · exact .inl (by grind)
    · exact .inr (List.mem_append_right _ q)
  · unfold usOn
    rw [went_cat,went_cat,went_keep h1,a.eq low high (by grind) h2]
theorem AllIn.went {all us:List T3} {re:Rat} {D B lat now t:Int} (a:AllIn all us re) (ok:∀ u∈us,TagOk D B u) (h1:lat≤now) (h2:now≤t) :
    markAt us lat re now≤markAt us lat re t∧(((∃ u∈all,markAt us lat re t<u.2.1)∧went (markAt us lat re now) (markAt us lat re t) all=((t-now:Int):Rat)) ∨
      ((∀ u∈all,u.2.1≤markAt us lat re t)∧went (markAt us lat re now) (markAt us lat re t) all≤((t-now:Int):Rat)∧((all = []∧markAt us lat re t = 0)∨∃ u∈all,u.2.1=markAt us lat re t))):=by
  have c1:(lat:Rat)≤(now:Rat):=Rat.intCast_le_intCast.mpr h1
  have c2:(now:Rat)≤(t:Rat):=Rat.intCast_le_intCast.mpr h2
  have len:=ahead_le us re
  have mono:=markF_mono ok c2 (us.length+1) (lat:Rat) re c1
  have g1:=mark_went ok (us.length+1) (lat:Rat) re a.ch c1 (by omega)
  have g2:=mark_went ok (us.length+1) (lat:Rat) re a.ch (show (lat:Rat)≤(t:Rat) by grind) (by omega)
  have ge:=markF_end (t:=(t:Rat)) ok (us.length+1) (lat:Rat) re (by omega)
  have be:∀ u∈us,u.1≤u.2.1:=fun u h=>(ok u h).be
  rw [Rat.intCast_sub]
  unfold markAt
  generalize markF us (now:Rat) (us.length+1) (lat:Rat) re=lo at *
  generalize markF us (t:Rat) (us.length+1) (lat:Rat) re=hi at *
  refine ⟨mono,?_⟩
  rw [a.eq lo hi g1.1 mono]
  have ad:=went_add g1.1 mono be
  rcases g2.2 with ⟨⟨u,hu,q⟩,w2⟩ | ⟨q,w2⟩
  · refine .inl ⟨⟨u,a.sub u hu,q⟩,?_⟩
    rcases g1.2 with ⟨_,w1⟩ | ⟨q1,_⟩
    · grind
    · have:=q1 u hu
      grind
  · refine .inr ⟨fun u hu=>?_,?_,?_⟩
    · rcases a.sup u hu with z | z
      · have:=g2.1
        grind
      · exact q u z
    · rcases g1.2 with ⟨_,w1⟩ | ⟨q1,_⟩
      · grind
      · rw [went_past q1]; grind
    · rcases ge q with e | ⟨u,hu,e⟩
      · rcases a.top with ⟨e1,e2⟩ | ⟨u,hu,e1⟩
        · exact .inl ⟨e1,by rw [e,e2]⟩
        · refine .inr ⟨u,hu,?_⟩
          rcases a.sup u hu with z | z
          · grind
          · have:=q u z
            grind
      · exact .inr ⟨u,a.sub u hu,e⟩
theorem AllIn.nil:AllIn [] [] 0:=⟨fun u h=>absurd h List.not_mem_nil,fun u h=>absurd h List.not_mem_nil,fun u h=>absurd h List.not_mem_nil,fun _ _ _ _=>rfl,.inl ⟨rfl,rfl⟩⟩
end Sw
namespace L2
open PySem PySem.Spec PyProof.Rows
section
variable {X:Cx}
end
abbrev D2:=Int×Int
def d2 (g:D2):List V:=[.int g.1,.int g.2]
abbrev Duos (H:Hp):List Addr→List D2→Prop:=Paired fun p g=>H p=some (.tup (d2 g))
theorem Duos.len {H:Hp} {ps:List Addr} {gs:List D2} (h:Duos H ps gs):ps.length=gs.length:=Paired.length h
theorem Duos.keep {H H':Hp} {ps:List Addr} {gs:List D2} (h:Duos H ps gs) (e:∀ p xs,H p=some (.tup xs)→H' p=some (.tup xs)):Duos H' ps gs:=Paired.mapP h fun _ _ q=>e _ _ q
theorem Duos.same {H H':Hp} {ps:List Addr} {gs:List D2} (h:Duos H ps gs) (e:Same H H'):Duos H' ps gs:=h.keep fun _ _ q=>e _ _ q
theorem Duos.app {H:Hp} {rs:List Addr} {ss:List D2} (h2:Duos H rs ss):∀ {ps:List Addr} {gs:List D2},Duos H ps gs→Duos H (ps++rs) (gs++ss)
  | _,_,Paired.nil=>h2
  | _,_,Paired.cons a b=>.cons a (Duos.app h2 b)
theorem Duos.get {H:Hp}:∀ {ps:List Addr} {gs:List D2} {i:Nat} {p:Addr},Duos H ps gs→ps[i]? = some p→∃ q,gs[i]? = some q∧H p=some (.tup (d2 q))
  | _,_,_,_,Paired.nil,e=>by simp at e
  | _,_,0,_,Paired.cons a _,e=>by simp at e; subst e; exact ⟨_,rfl,a⟩
  | _,_,i+1,_,Paired.cons _ b,e=>by
    obtain ⟨q,h1,h2⟩:=Duos.get (i:=i) b (by simpa using e)
    exact ⟨q,by simpa using h1,h2⟩
structure Gos (H:Hp) (l:Addr) (ps:List Addr) (gs:List D2):Prop where
  hl:H l=some (.lst (ps.map V.ref))
  r:Duos H ps gs
theorem Gos.same {H H':Hp} {l:Addr} {ps:List Addr} {gs:List D2} (R:Gos H l ps gs) (e:Same H H'):Gos H' l ps gs:=⟨e _ _ R.hl,R.r.same e⟩
theorem Row.item {H:Hp} {l:Addr} {ps:List Addr} {qs:List Q4} (R:Row H l ps qs) {i:Int} (h0:0≤i) (h1:i<qs.length):∃ p q,atI (ps.map V.ref) i=some (.ref p)∧qs[i.toNat]? = some q∧H p=some (.tup (q4 q)):=by
  have len:=R.r.len
  have hp:ps[i.toNat]? = some (ps[i.toNat]'(by omega)):=List.getElem?_eq_getElem _
  obtain ⟨q,h2,h3⟩:=R.r.get hp
  have:=atI_nat (xs:=ps.map V.ref) (j:=i.toNat) (v:=V.ref (ps[i.toNat]'(by omega))) (by rw [List.getElem?_map,hp]; rfl)
  rw [Int.toNat_of_nonneg h0] at this
  exact ⟨_,q,this,h2,h3⟩
end L2
namespace Sw
open L2
end Sw
namespace L2
open PySem PySem.Spec PyProof.Rows
end L2
namespace L2
open PySem PySem.Spec PyProof.Rows
section
variable {X:Cx}
theorem ps_setC {i0:Nat} {y:Str} {py spos:Pos} {elt target iter:Expr} {ifs:List Expr} {scope:Scope} {pos:Pos} {cl:List (Str×Addr)} {ts:List Str} {fr:List (Str×Nat)} {wi:TI} {g:TG} {tc:TT} {te:TE} (hcalm:X.calm=true)
    (hclos:closureFor scope X.env=pure cl) (hcell:∀ y∈scope.names,y.2≠.cell) (hkind:scope.kind = .function) (hnames:∀ y∈scope.names,y.2 = .local→scope.names.lookup y.1=some .local)
    (hcl:∀ x c,cl.lookup x=some c→X.env.cells.lookup x=some c)
    (hhas:∀ x,((relabel scope X.env).names.lookup x=some .cell∨(relabel scope X.env).names.lookup x=some .free)→∃ c,cl.lookup x=some c) (hfr:FrOk X (relabel scope X.env) fr)
    (hi:PI X target iter wi) (hg:∀ fp s H,PG (cxComp X scope cl (ts++fr.map (·.1)) fp s H) target g) (hc:∀ fp s H,PIfs (cxComp X scope cl (ts++fr.map (·.1)) fp s H) ifs tc)
    (he:∀ fp s H,PE (cxComp X scope cl (ts++fr.map (·.1)) fp s H) elt te) (hsw:swapsWith (.ListComp elt [⟨target,iter,ifs,0⟩] scope pos) (some (.Name y py)) spos.line X.env=pure true) (hN:X.N.Nodup) (hiy:X.N[i0]? = some y) (hy:Loc X.env.scope y)
    (hs:∀ x,foldedSetIterable iter X.env x=pure x:=by intro _; rfl) (hf:X.fn y=true∨X.env.scope.names.lookup y=some .local:=by first | exact .inl rfl | exact .inr rfl | assumption) :
    PS X (.Assign [.Name y py] (.ListComp elt [⟨target,iter,ifs,0⟩] scope pos) spos) (tAsg (tComp ts.length fr wi g tc te) (gName i0)):=by
  intro pins s σ H D I h
  have h:tComp ts.length fr wi g tc te σ H (fun x H1=>D.nx (σ.set i0 (some x)) H1):=h
  rw [exec_Assign_Name_used _ _ _ _ hsw]
  refine wpAny_bind (wpAny_standAt (wpAny_bind ?_))
  show wpAny _ _ (do let _ ← comprehension (.ListComp elt [⟨target,iter,ifs,0⟩] scope pos) scope X.env _ (newList []) false (eval iter X.env) (some (assign (.Name y py) X.env))) _ _ s
  refine wpAny_bind (wpAny_mono (wpAny_comprehension_free (use:=some (assign (.Name y py) X.env)) (Q:=fun _ s'=>SP X pins D .next s') rfl hs hclos hkind hnames (thn (hi pins s σ H _ I h) fun xv s1 h1=>thn h1 fun itv s2 h2=>?_)) (fun _ s' hq=>wpAny_pure (wpAny_pure hq)) fun _ _ e=>e)
  obtain ⟨it,fp,tn,J,H2,rfl,I2,T,st2,f2,hR⟩:=h2
  have D0:H2 s2.heap.objs.size=none:=I2.hok.fresh (Nat.le_refl _)
  obtain ⟨W,⟨m0,w0⟩,turn⟩:=hR s2.heap.objs.size D0
  refine wpAny_newObj_type (wpAny_newFunctionEnv hcell (by intro y hy; simp at hy) (fun h₁ hns₁ hsb₁=>?_) hkind)
  dsimp only at hns₁ hsb₁ ⊢
  have I3:Inv X pins σ (upd H2 s2.heap.objs.size (.lst [])) { s2 with heap:=s2.heap.push { cls:=.type "list", dict:=none,data:=.seq ([]:List Value).toArray } } :=
    I2.laid (t':=s2.toks) (fun _ _ q=>Heap.get?_push_of_some _ q) (Nat.le_refl _) ⟨Nat.zero_le _,[],0,.nil,Heap.get?_push_size _ rfl⟩
  have kp3:∀ b o,s2.heap.get? b=some o→(s2.heap.push { cls:=.type "list", dict:=none,data:=.seq ([]:List Value).toArray }).get? b=some o:=fun b o q=>Heap.get?_push_of_some _ q
  have sz3:(s2.heap.push { cls:=.type "list", dict:=none,data:=.seq ([]:List Value).toArray }).objs.size=s2.heap.objs.size+1:=Heap.size_push ..
  generalize s2.heap.push { cls:=.type "list", dict:=none,data:=.seq ([]:List Value).toArray } = hp3 at hns₁ hsb₁ I3 kp3 sz3 ⊢
  have kp:∀ b o,hp3.get? b=some o→h₁.get? b=some o:=fun b o e=>hsb₁.extBut b o (Nat.ne_of_lt (Heap.lt_size e)) (Heap.get?_push_of_some _ e)
  have flt:∀ b∈fp,b<s2.heap.objs.size:=fun b hb=>by
    obtain ⟨o,e,_⟩:=T.obj _ _ st2 b hb
    exact Heap.lt_size e
  have fr3:∀ b∈fp,(upd H2 s2.heap.objs.size (.lst [])) b=none:=fun b hb=>by rw [upd_ne (Nat.ne_of_lt (flt b hb))]; exact (f2 b hb).1
  have f3:∀ b∈fp,FpOk X pins (upd H2 s2.heap.objs.size (.lst [])) b∧b<hp3.objs.size:=fun b hb=>⟨⟨fr3 b hb,(f2 b hb).2⟩,by rw [sz3]; exact Nat.lt_succ_of_lt (flt b hb)⟩
  have I4:=cx_start (ts:=ts) (t':=s2.toks+([]:List (Str×Value)).length) I3 hkind hcl hhas hfr f3 hns₁ kp
  have st4:tn 0 h₁:=T.keep _ _ _ st2 fun b hb o e=>kp b o (kp3 b o e)
  have loop:codeAny (model X.prog X.w) X.A (.compLoop (.ListComp elt [⟨target,iter,ifs,0⟩] scope pos) 0 (.ref it) (.ref s2.heap.objs.size) (compEnvC scope cl hp3.objs.size X.env))
      (compPost (model X.prog X.w) X.A X.xe (some (assign (.Name y py) X.env)) (fun _ s'=>SP X pins D .next s') (.ref s2.heap.objs.size) hp3.objs.size) { s2 with heap:=h₁,toks:=s2.toks+([]:List (Str×Value)).length }:=by
    refine codeAny_compLoop_go (fun n s'=>∃ i τ H',Inv (cxComp X scope cl (ts++fr.map (·.1)) fp { s2 with heap:=hp3 } (upd H2 s2.heap.objs.size (.lst []))) [] τ H' s'∧tn i s'.heap∧(∀ b∈fp,H' b=none)∧W i n τ H') ?_ m0 ⟨0,_,_,I4,st4,fr3,w0⟩
    rintro n s5 ⟨i,τ,H5,I5,st5,fr5,w5⟩
    have stat:∀ {H':Hp},(∀ b∈fp,H' b=none)→∀ b∈fp,FpOk (cxComp X scope cl (ts++fr.map (·.1)) fp { s2 with heap:=hp3 } (upd H2 s2.heap.objs.size (.lst []))) [] H' b :=
      fun hn b hb=>⟨hn b hb,(I5.ok.exf b hb).1,I5.ok.exfs b hb,.inl hb,(I5.ok.exf b hb).2,fun p hp=>absurd (show p∈([]:List (Addr×Obj)) from hp) (by simp)⟩
    rcases turn i n τ H5 w5 with ⟨stop,qn⟩ | ⟨go,Nn,hN,step⟩
    · refine thn (T.done (cxComp X scope cl (ts++fr.map (·.1)) fp { s2 with heap:=hp3 } (upd H2 s2.heap.objs.size (.lst []))) rfl rfl rfl hcalm i [] s5 τ H5 _ I5 (stat fr5) st5 stop) fun r s6 ⟨hr,I6⟩=>?_
      subst hr
      have neC:∀ b o,hp3.get? b=some o→b≠hp3.objs.size:=fun b o e=>Nat.ne_of_lt (Heap.lt_size e)
      have I7:Inv X pins σ H5 s6:=by
        refine I3.call' (s':=s6) (ch:=fp) I6.os ⟨fun b o e n hb hx=>I6.base.keep b o e n hb hx,fun b o e n hb hx=>I6.base.slot b o e n hb hx,I6.base.free,fun b o e hx=>I6.base.there b o e hx,I6.base.tups,I6.base.frzs,I6.base.tbls⟩ I6.hok I6.bare (fun b hb=>?_)
        exact ⟨(f2 b hb).2.2.2.1,(f2 b hb).2.1,(f2 b hb).2.2.2.2.1,(f2 b hb).2.2.2.2.2⟩
      have lC:X.env.locals≠hp3.objs.size:=by
        obtain ⟨_,⟨o,_,_,ho,_⟩,_⟩:=I3.loc
        exact neC _ o ho
      have cC:∀ x c,X.env.cells.lookup x=some c→c≠hp3.objs.size:=fun x c e=>by
        obtain ⟨v,o,ho,_⟩:=I3.cell x c e
        exact neC _ o ho
      have fC:H5 hp3.objs.size=none:=I6.free
      obtain ⟨m,hn,_⟩:=I6.loc
      show wpAny _ _ (assign (.Name y py) X.env (.ref s2.heap.objs.size)) _ _ _
      refine wpAny_assign_Name (store_ok2 I7 hN hiy hy (v:=.ref s2.heap.objs.size) rfl (fun s8 I8 hsb=>?_) hf)
      obtain ⟨al,hs8,hal⟩:=hsb
      have alC:hp3.objs.size≠al:=by
        rcases hal with z | z
        · rw [z]; exact Ne.symm lC
        · exact Ne.symm (cC _ _ z)
      have hs8:Heap.SameBut al s6.heap s8.heap:=hs8
      have hnC:s6.heap.Ns hp3.objs.size m:=hn
      refine ⟨m,hnC.sameBut hs8 alC,fun h' hs'=>⟨σ.set i0 (some (.ref s2.heap.objs.size)),H5,?_,qn⟩⟩
      have hs':Heap.SameBut hp3.objs.size s8.heap h':=hs'
      refine I8.call' (s':={ s8 with heap:=h' }) (ch:=[hp3.objs.size]) rfl ⟨fun b o e n hb hx=>?_,fun b o e n hb hx=>?_,fun b o e n hx=>n,fun b o e hx=>?_,fun _ _ q=>q,fun _ _ _ q=>q,fun b ps q=>⟨#[],by rw [q]; simp⟩⟩ (fun b ob e=>?_) I8.bare (fun b hb=>?_)
      · exact (hs'.2 b (fun z=>hx (by simp [z]))).trans e
      · exact ⟨o.slots,(hs'.2 b (fun z=>hx (by simp [z]))).trans e⟩
      · exact ⟨o,(hs'.2 b (fun z=>hx (by simp [z]))).trans e⟩
      · refine (I8.hok b ob e).stay (fun c v hc q=>(hs'.2 c ?_).trans q) (fun _ q=>q) fun _ _ q=>q
        intro z
        rcases hc with w | w
        · rw [← w,z,fC] at e; cases e
        · rw [z,fC] at w; cases w
      · have z:b=hp3.objs.size:=by simpa using hb
        subst z
        refine ⟨.inr (Nat.le_trans (Nat.le_trans I2.sz (by rw [sz3]; exact Nat.le_succ _)) (Nat.le_refl _)),Ne.symm lC,cC,fun p hp e=>?_⟩
        obtain ⟨q1,_⟩:=I3.pin p hp
        exact neC _ _ q1 e
    · refine thn (T.item (cxComp X scope cl (ts++fr.map (·.1)) fp { s2 with heap:=hp3 } (upd H2 s2.heap.objs.size (.lst []))) rfl rfl rfl hcalm i [] s5 τ H5 _ I5 (stat fr5) st5 go) fun r s6 ⟨u,hr,h6⟩=>?_
      subst hr
      refine thn h6 fun _ s7 ⟨x,H7,I7,r7,y7,st7,fr7⟩=>?_
      have I7':=I7.pinned (stat fr7) (T.obj _ _ st7)
      refine wpAny_mono (hg fp _ _ _ s7 τ H7 x u _ I7' r7 (step x H7 y7)) (fun _ s8 ⟨τ8,H8,I8,q8⟩=>?_) fun _ _ z=>False.elim z
      have again:∀ {τ9:St} {H9:Hp} {s9:Shared},Inv (cxComp X scope cl (ts++fr.map (·.1)) fp { s2 with heap:=hp3 } (upd H2 s2.heap.objs.size (.lst []))) ([]++pinsAt fp s7.heap) τ9 H9 s9→Nn τ9 H9 →
          ∃ m,m<n∧∃ i τ H',Inv (cxComp X scope cl (ts++fr.map (·.1)) fp { s2 with heap:=hp3 } (upd H2 s2.heap.objs.size (.lst []))) [] τ H' s9∧tn i s9.heap∧(∀ b∈fp,H' b=none)∧W i m τ H':=fun {τ9 H9 s9} I9 n9=>by
        obtain ⟨m',hm,w9⟩:=hN τ9 H9 n9
        refine ⟨m',hm,i+1,τ9,H9,I9.unpinned,T.keep _ _ _ st7 fun b hb o e=>(I9.pin (b,o) (List.mem_append_right _ (List.mem_append_right _ (mem_pinsAt hb e)))).1,fun b hb=>?_,w9⟩
        obtain ⟨o,e,d⟩:=T.obj _ _ st7 b hb
        exact (I9.pin (b,o) (List.mem_append_right _ (List.mem_append_right _ (mem_pinsAt hb e)))).2.1
      refine wpAny_mono (hc fp _ _ _ s8 τ8 H8 _ I8 q8) (fun ok s9 ⟨H9,I9,q9⟩=>?_) fun _ _ z=>False.elim z
      cases ok with
      | false=>exact again I9 q9
      | true =>
        refine wpAny_mono (he fp _ _ _ s9 τ8 H9 _ I9 q9) (fun y s10 ⟨v,H10,I10,rv,ys,hD,hl,qN⟩=>?_) fun _ _ z=>False.elim z
        refine wpAny_mono (mt_append (X:=cxComp X scope cl (ts++fr.map (·.1)) fp { s2 with heap:=hp3 } (upd H2 s2.heap.objs.size (.lst []))) _ s10 τ8 H10 (.ref s2.heap.objs.size) [v] (.ref s2.heap.objs.size) [y] (fun _ H=>Nn τ8 H) I10 rfl (.cons rv .nil) ⟨_,ys,v,rfl,rfl,hD,hl,qN⟩) (fun _ s11 ⟨_,H11,I11,_,q11⟩=>again I11 q11) fun _ _ z=>False.elim z
  exact codeAny_compStart_list loop (T.self X.A 0 _ _ _ st4 loop)
theorem ps_setL {i0:Nat} {y:Str} {py spos:Pos} {elt target iter:Expr} {ifs:List Expr} {scope:Scope} {pos:Pos} {cl:List (Str×Addr)} (ts:List Str) (fr:List (Str×Nat)) {wi:TI} {g:TG} {tc:TT} {te:TE} (hcalm:X.calm=true)
    (hclos:closureFor scope X.env=pure cl) (hcell:∀ y∈scope.names,y.2≠.cell) (hkind:scope.kind = .function) (hnames:∀ y∈scope.names,y.2 = .local→scope.names.lookup y.1=some .local)
    (hcl:ClOk X.env cl) (hhas:clAll (relabel scope X.env).names cl=true) (hfr:FrOk X (relabel scope X.env) fr)
    (hi:PI X target iter wi) (hg:∀ fp s H,PG (cxComp X scope cl (ts++fr.map (·.1)) fp s H) target g) (hc:∀ fp s H,PIfs (cxComp X scope cl (ts++fr.map (·.1)) fp s H) ifs tc)
    (he:∀ fp s H,PE (cxComp X scope cl (ts++fr.map (·.1)) fp s H) elt te)
    (hsw:swapsWith (.ListComp elt [⟨target,iter,ifs,0⟩] scope pos) (some (.Name y py)) spos.line X.env=pure true) (hN:X.N.Nodup) (hiy:X.N[i0]? = some y) (hy:Loc X.env.scope y)
    (hs:∀ x,foldedSetIterable iter X.env x=pure x:=by intro _; rfl) (hf:X.fn y=true∨X.env.scope.names.lookup y=some .local:=by first | exact .inl rfl | exact .inr rfl | assumption) :
    PS X (.Assign [.Name y py] (.ListComp elt [⟨target,iter,ifs,0⟩] scope pos) spos) (tAsg (tComp ts.length fr wi g tc te) (gName i0)) :=
  ps_setC hcalm hclos hcell hkind hnames hcl.get (fun x q=>clAll_get hhas x q) hfr hi hg hc he hsw hN hiy hy hs hf
end
end L2
namespace L2
open PySem PySem.Spec PyProof.Rows
section
variable {X:Cx}
end
end L2
namespace L2
open PySem PySem.Spec PyProof.Rows
section
variable {X:Cx} {pins:List (Addr×Obj)} {σ:St} {H:Hp} {s:Shared} {a:Addr} {kvs:List (Key×V)} {o:Obj}
end
section
variable {X:Cx} {tg:Expr}
end
end L2
namespace L2
open PySem PySem.Spec PyProof.Rows
section
variable {P:Program} {w:World} {K:PySem.W.Frag} {mg:Str→Option Value} {base:Heap} {CX:CXT} {C:Addr} {m qual:Str} {st:Stmt} {N ps:List Str} {k:Nat} {sp:Sp}
end
section
variable {X:Cx} {CX:CXT} {k:Nat} {C:Addr} {ps:List Str} {sp:Sp} {Ek:XH} {x m:Str} {p pos apos:Pos} {e:Expr} {es:List Expr} {t:TA}
end
end L2
namespace L2
open PySem PySem.Spec PyProof.Rows
section
variable {X:Cx}
end
abbrev Nm:=List (Str×Int)
end L2
namespace L2
open PySem PySem.Spec PyProof.Rows
structure At5 where
  p:Addr
  pm:Addr
  ps:Addr
  pt:Addr
  pg:Addr
def lessO (st:Str→Rat) (x:Str):Option Str→Bool
  | none=>true
  | some y=>decide (st x<st y)
def pickF (rd:Str→Bool) (st:Str→Rat):List Str→Option Str→Option Str
  | [],f=>f
  | x :: r,f=>pickF rd st r (if (rd x && lessO st x f)=true then some x else f)
section
variable {C Cm:Addr} {H:Hp} {a:At5} {most:Int} {nm nm':Nm} {tg gs tg' gs':Str→Option Rat} {ck:Rat} {ch:V} {N N':Nat} {k:List (Key×V)}
end
end L2
namespace L2
open PySem PySem.Spec PyProof.Rows
end L2
namespace L2
open PySem PySem.Spec PyProof.Rows
structure Hd where
  C:Addr
  i:Option Nat
  th:TS
section
variable {P:Program} {w:World} {X:Cx} {C':Addr} {x:Str} {np hpos pos:Pos} {body suite:List Stmt} {b0:Stmt} {tb:XH→TS} {th:TS} {h0:ExceptHandler} {hds:List ExceptHandler} {hs:List Hd}
end
end L2
namespace Sw
abbrev F4:=Int×T3
def hdB (mo ma:Rat) (f:F4):Bool:=!decide (mo<(f.1:Rat)) && isHd ma f.2
def hdP (fs:List F4) (mo ma:Rat):List Nat:=(List.range fs.length).filter fun i=>match fs[i]? with | some f=>hdB mo ma f | none=>false
def shr (fs:List F4) (i:Nat):Int:=((fs[i]?).map fun f=>f.2.2.2).getD 0
def enP (fs:List F4) (i:Nat):Rat:=((fs[i]?).map fun f=>f.2.2.1).getD 0
def shP (fs:List F4) (ps:List Nat):Int:=(ps.map (shr fs)).sum
def chs (fs:List F4) (mo:Rat):List Rat:=fs.filterMap fun f=>if mo<(f.1:Rat) then some (f.1:Rat) else none
def fst1 (fs:List F4) (mo ma:Rat):Rat:=mo+(minL ((hdP fs mo ma).map (enP fs))-ma)*(shP fs (hdP fs mo ma):Rat)
def chA (fs:List F4) (mo ma:Rat):List Rat:=chs fs mo++(if hdP fs mo ma = [] then [] else [fst1 fs mo ma])
abbrev Sch:=Rat×Rat×List (Nat×Rat)
def prt (fs:List F4) (mo ma:Rat):List (Nat×Rat):=(hdP fs mo ma).map fun i=>(i,(shr fs i:Rat) / (shP fs (hdP fs mo ma):Rat))
def flowF (fs:List F4):Nat→Rat→Rat→List Sch
  | 0,_,_=>[]
  | n+1,mo,ma =>
    if chA fs mo ma = [] then []
    else if hdP fs mo ma = [] then flowF fs n (minL (chA fs mo ma)) ma
    else (mo,minL (chA fs mo ma),prt fs mo ma) :: flowF fs n (minL (chA fs mo ma)) (ma+(minL (chA fs mo ma)-mo) / (shP fs (hdP fs mo ma):Rat))
theorem flowF_succ (fs:List F4) (n:Nat) (mo ma:Rat):flowF fs (n+1) mo ma=if chA fs mo ma = [] then [] else if hdP fs mo ma = [] then flowF fs n (minL (chA fs mo ma)) ma else (mo,minL (chA fs mo ma),prt fs mo ma) :: flowF fs n (minL (chA fs mo ma)) (ma+(minL (chA fs mo ma)-mo) / (shP fs (hdP fs mo ma):Rat)):=rfl
def mu (fs:List F4) (mo ma:Rat):Nat:=(fs.filter fun f=>decide (mo<(f.1:Rat))).length+(fs.filter fun f=>decide (ma<f.2.2.1)).length
theorem mu_le (fs:List F4) (mo ma:Rat):mu fs mo ma≤2*fs.length:=by
  unfold mu
  have h1:=List.length_filter_le (fun f:F4=>decide (mo<(f.1:Rat))) fs
  have h2:=List.length_filter_le (fun f:F4=>decide (ma<f.2.2.1)) fs
  omega
theorem hdP_mem {fs:List F4} {mo ma:Rat} {i:Nat}:i∈hdP fs mo ma↔∃ f,fs[i]? = some f∧hdB mo ma f=true:=by
  unfold hdP
  rw [List.mem_filter,List.mem_range]
  constructor
  · rintro ⟨h1,h2⟩
    cases e:fs[i]? with
    | none=>rw [e] at h2; cases h2
    | some f=>rw [e] at h2; exact ⟨f,rfl,h2⟩
  · rintro ⟨f,e,h⟩
    exact ⟨(List.getElem?_eq_some_iff.mp e).1,by rw [e]; exact h⟩
theorem hdB_iff {mo ma:Rat} {f:F4}:hdB mo ma f=true↔((f.1:Rat)≤mo∧f.2.1≤ma∧ma<f.2.2.1):=by
  unfold hdB isHd
  simp only [Bool.and_eq_true,Bool.not_eq_true',decide_eq_false_iff_not,decide_eq_true_eq]
  constructor
  · rintro ⟨a,b,c⟩; exact ⟨by grind,by grind,c⟩
  · rintro ⟨a,b,c⟩; exact ⟨by grind,by grind,c⟩
theorem sum_pos:∀ {l:List Int},(∀ x∈l,1≤x)→l≠[]→1≤l.sum
  | [],_,h=>absurd rfl h
  | [x],h,_=>by simpa using h x (by simp)
  | x :: y :: r,h,_=>by
    have a:=h x (by simp)
    have b:=sum_pos (l:=y :: r) (fun z hz=>h z (List.mem_cons_of_mem _ hz)) (by simp)
    rw [List.sum_cons]
    omega
theorem sum_le {M:Int}:∀ {l:List Int},(∀ x∈l,x≤M)→l.sum≤l.length*M
  | [],_=>by simp
  | x :: r,h=>by
    have a:=h x (by simp)
    have b:=sum_le (l:=r) fun z hz=>h z (List.mem_cons_of_mem _ hz)
    rw [List.sum_cons,List.length_cons]
    have:((r.length+1:Nat):Int)*M=r.length*M+M:=by rw [Int.natCast_add,Int.add_mul]; simp
    omega
theorem shr_at {fs:List F4} {i:Nat} {f:F4} (h:fs[i]? = some f):shr fs i=f.2.2.2:=by unfold shr; rw [h]; rfl
theorem enP_at {fs:List F4} {i:Nat} {f:F4} (h:fs[i]? = some f):enP fs i=f.2.2.1:=by unfold enP; rw [h]; rfl
theorem shP_pos {fs:List F4} {mo ma:Rat} (s1:∀ f∈fs,1≤f.2.2.2) (h:hdP fs mo ma≠[]):1≤shP fs (hdP fs mo ma):=by
  refine sum_pos (fun x hx=>?_) (by simpa using h)
  obtain ⟨i,hi,rfl⟩:=List.mem_map.mp hx
  obtain ⟨f,e,_⟩:=hdP_mem.mp hi
  rw [shr_at e]
  exact s1 f (List.mem_of_getElem? e)
theorem hdP_len (fs:List F4) (mo ma:Rat):(hdP fs mo ma).length≤fs.length:=by
  have:=List.length_filter_le (fun i=>match fs[i]? with | some f=>hdB mo ma f | none=>false) (List.range fs.length)
  rw [List.length_range] at this
  exact this
theorem shP_le {fs:List F4} {mo ma:Rat} {M:Int} (M0:0≤M) (s2:∀ f∈fs,f.2.2.2≤M):shP fs (hdP fs mo ma)≤fs.length*M:=by
  have h:=sum_le (M:=M) (l:=(hdP fs mo ma).map (shr fs)) fun x hx=>by
    obtain ⟨i,hi,rfl⟩:=List.mem_map.mp hx
    obtain ⟨f,e,_⟩:=hdP_mem.mp hi
    rw [shr_at e]
    exact s2 f (List.mem_of_getElem? e)
  rw [List.length_map] at h
  have l:=hdP_len fs mo ma
  have:((hdP fs mo ma).length:Int)*M≤fs.length*M:=Int.mul_le_mul_of_nonneg_right (by omega) M0
  unfold shP
  omega
def lstE (fs:List F4) (mo ma:Rat):Rat:=minL ((hdP fs mo ma).map (enP fs))
theorem lstE_mem {fs:List F4} {mo ma:Rat} (h:hdP fs mo ma≠[]):∃ f∈fs,hdB mo ma f=true∧lstE fs mo ma=f.2.2.1:=by
  have:=minL_mem (l:=(hdP fs mo ma).map (enP fs)) (by simpa using h)
  obtain ⟨i,hi,e⟩:=List.mem_map.mp this
  obtain ⟨f,e1,e2⟩:=hdP_mem.mp hi
  exact ⟨f,List.mem_of_getElem? e1,e2,by unfold lstE; rw [← e,enP_at e1]⟩
theorem chs_mem {fs:List F4} {mo x:Rat}:x∈chs fs mo↔∃ f∈fs,mo<(f.1:Rat)∧x=(f.1:Rat):=by
  unfold chs
  rw [List.mem_filterMap]
  constructor
  · rintro ⟨f,hf,e⟩
    split at e
    · rename_i h; exact ⟨f,hf,h,(Option.some.inj e).symm⟩
    · cases e
  · rintro ⟨f,hf,h,rfl⟩
    exact ⟨f,hf,by rw [if_pos h]⟩
theorem minL_le {l:List Rat} {x:Rat} (h:x∈l):minL l≤x:=by
  cases l with
  | nil=>cases h
  | cons q r=>exact (foldl_min_le (q :: r) q).2 x h
structure Turn1 (fs:List F4) (mo ma af ma':Rat):Prop where
  gt:mo<af
  ge:ma≤ma'
  way:(∃ f∈fs,mo<(f.1:Rat)∧af=(f.1:Rat))∨(hdP fs mo ma≠[]∧af=fst1 fs mo ma∧ma'=lstE fs mo ma∧∃ f∈fs,ma<f.2.2.1∧ma'=f.2.2.1)
  le:hdP fs mo ma≠[]→ma'≤lstE fs mo ma
theorem turn_mu {fs:List F4} {mo ma af ma':Rat} (t:Turn1 fs mo ma af ma'):mu fs af ma' < mu fs mo ma:=by
  have gt:=t.gt
  have ge:=t.ge
  have le1:∀ f:F4,decide (af<(f.1:Rat))=true→decide (mo<(f.1:Rat))=true:=fun f h=>by
    simp only [decide_eq_true_eq] at h ⊢; grind
  have le2:∀ f:F4,decide (ma' < f.2.2.1)=true→decide (ma<f.2.2.1)=true:=fun f h=>by
    simp only [decide_eq_true_eq] at h ⊢; grind
  have mono:∀ {p q:F4→Bool} {l:List F4},(∀ f,q f=true→p f=true)→(l.filter q).length≤(l.filter p).length:=fun {p q l} h=>by
    induction l with
    | nil=>exact Nat.le_refl _
    | cons z r ih =>
      have hz:=h z
      rw [List.filter_cons,List.filter_cons]
      cases e1:q z <;> cases e2:p z <;> simp_all <;> omega
  unfold mu
  rcases t.way with ⟨f,hf,h1,h2⟩ | ⟨_,_,_,f,hf,h1,h2⟩
  · have a:=filter_len_lt (l:=fs) (p:=fun f=>decide (mo<(f.1:Rat))) (q:=fun f=>decide (af<(f.1:Rat))) (fun x _ h=>le1 x h) ⟨f,hf,decide_eq_true h1,by rw [h2]; simp only [decide_eq_false_iff_not]; grind⟩
    have b:=mono (l:=fs) (p:=fun f=>decide (ma<f.2.2.1)) (q:=fun f=>decide (ma' < f.2.2.1)) le2
    omega
  · have a:=mono (l:=fs) (p:=fun f=>decide (mo<(f.1:Rat))) (q:=fun f=>decide (af<(f.1:Rat))) le1
    have b:=filter_len_lt (l:=fs) (p:=fun f=>decide (ma<f.2.2.1)) (q:=fun f=>decide (ma' < f.2.2.1)) (fun x _ h=>le2 x h) ⟨f,hf,decide_eq_true h1,by rw [h2]; simp only [decide_eq_false_iff_not]; grind⟩
    omega
theorem turn_rest {fs:List F4} {mo ma:Rat} (h:hdP fs mo ma = []) (hc:chA fs mo ma≠[]):Turn1 fs mo ma (minL (chA fs mo ma)) ma:=by
  have m:=minL_mem hc
  have e:chA fs mo ma=chs fs mo:=by unfold chA; rw [if_pos h,List.append_nil]
  rw [e] at m ⊢
  obtain ⟨f,hf,h1,h2⟩:=chs_mem.mp m
  exact ⟨by rw [h2]; exact h1,Rat.le_refl,.inl ⟨f,hf,h1,h2⟩,fun z=>absurd h z⟩
theorem chA_ne {fs:List F4} {mo ma:Rat} (h:hdP fs mo ma≠[]):chA fs mo ma≠[]:=by
  unfold chA
  rw [if_neg h]
  simp
theorem turn_go {fs:List F4} {mo ma:Rat} (s1:∀ f∈fs,1≤f.2.2.2) (h:hdP fs mo ma≠[]) :
    Turn1 fs mo ma (minL (chA fs mo ma)) (ma+(minL (chA fs mo ma)-mo) / (shP fs (hdP fs mo ma):Rat)):=by
  have m:=minL_mem (chA_ne h)
  have le:minL (chA fs mo ma)≤fst1 fs mo ma:=minL_le (by unfold chA; rw [if_neg h]; simp)
  have e:∀ x,x∈chA fs mo ma→x∈chs fs mo∨x=fst1 fs mo ma:=fun x hx=>by
    unfold chA at hx
    rw [if_neg h] at hx
    rcases List.mem_append.mp hx with z | z
    · exact .inl z
    · exact .inr (by simpa using z)
  have sp:=shP_pos s1 h
  obtain ⟨f,hf,hb,he⟩:=lstE_mem h
  obtain ⟨_,_,hm⟩:=hdB_iff.mp hb
  rw [← he] at hm
  have S0:(0:Rat)<(shP fs (hdP fs mo ma):Rat):=q_cast_pos (by omega)
  have ef:fst1 fs mo ma=mo+(lstE fs mo ma-ma)*(shP fs (hdP fs mo ma):Rat):=rfl
  have fgt:mo<fst1 fs mo ma:=by
    rw [ef]
    have:=Rat.mul_pos (show (0:Rat)<lstE fs mo ma-ma by grind) S0
    grind
  generalize (shP fs (hdP fs mo ma):Rat)=S at S0 ef ⊢
  have gt:mo<minL (chA fs mo ma):=by
    rcases e _ m with z | z
    · obtain ⟨g,_,h1,h2⟩:=chs_mem.mp z
      rw [h2]; exact h1
    · rw [z]; exact fgt
  have dge:∀ x:Rat,0≤x→0≤x / S:=fun x hx=>by
    have:¬ x / S<0:=by rw [Rat.div_lt_iff S0,Rat.zero_mul]; grind
    grind
  have dle:∀ x:Rat,x≤(lstE fs mo ma-ma)*S→x / S≤lstE fs mo ma-ma:=fun x hx=>by
    have:¬ lstE fs mo ma-ma<x / S:=by rw [Rat.lt_div_iff S0]; grind
    grind
  generalize minL (chA fs mo ma)=af at m le gt ⊢
  have g1:=dge (af-mo) (by grind)
  have g2:=dle (af-mo) (by grind)
  refine ⟨gt,by grind,?_,fun _=>by grind⟩
  rcases e _ m with z | z
  · exact .inl (by obtain ⟨g,hg,h1,h2⟩:=chs_mem.mp z; exact ⟨g,hg,h1,h2⟩)
  · have e1:ma+(af-mo) / S=lstE fs mo ma:=by
      rw [z,ef]
      have:S≠0:=by grind
      grind
    exact .inr ⟨h,z,e1,f,hf,by grind,by rw [e1]; exact he⟩
end Sw
namespace Sw
open L2
theorem sumS_M {M:Int}:∀ {hs:List T3},(∀ u∈hs,u.2.2≤M)→sumS hs≤hs.length*M:=fun {hs} h=>by
  have:=sum_le (M:=M) (l:=hs.map fun u=>u.2.2) fun x hx=>by
    obtain ⟨u,hu,rfl⟩:=List.mem_map.mp hx
    exact h u hu
  rw [List.length_map] at this
  exact this
theorem markF_S {us:List T3} {D B M:Int} {t:Int} (gb:GB D B) (ok:∀ u∈us,TagOk D B u) (M0:0≤M) (sM:∀ u∈us,u.2.2≤M):∀ (n:Nat) (mo re:Rat),Grd D mo→Grd D re→∃ S:Int,1≤S∧S≤us.length*M+1∧Grd (D*S) (markF us (t:Rat) n mo re)
  | 0,mo,re,gm,gr=>⟨1,by decide,by have:=Int.mul_nonneg (Int.natCast_nonneg us.length) M0; omega,gr.more (by have:=gb.D0; omega) (by decide)⟩
  | n+1,mo,re,gm,gr=>by
    have D0:D≠0:=by have:=gb.D0; omega
    have z0:=Int.mul_nonneg (Int.natCast_nonneg us.length) M0
    unfold markF
    by_cases hn:hds us re = []
    · rw [if_pos hn]
      exact ⟨1,by decide,by omega,gr.more D0 (by decide)⟩
    · rw [if_neg hn]
      have hok:∀ u∈hds us re,TagOk D B u:=fun u h=>ok u (hds_mem h).1
      have hS:=sumS_ok hok hn
      have hM:=sumS_M (M:=M) (hs:=hds us re) fun u h=>sM u (hds_mem h).1
      have hl:(hds us re).length≤us.length:=List.length_filter_le _ _
      have hl2:((hds us re).length:Int)*M≤us.length*M:=Int.mul_le_mul_of_nonneg_right (by omega) M0
      obtain ⟨uf,huf,ef⟩:=fstE_mem hn
      have gf:Grd D (fstE (hds us re)):=by rw [ef]; exact (hok uf huf).e
      generalize fstE (hds us re)=fv at gf ⊢
      generalize sumS (hds us re)=S at hS hM ⊢
      by_cases hlt:(t:Rat)<mo+(fv-re)*(S:Rat)
      · rw [if_pos hlt]
        exact ⟨S,hS.1,by omega,(gr.more D0 (by omega)).add (((Grd.int D0 t).sub gm).divi D0 (by omega))⟩
      · rw [if_neg hlt]
        exact markF_S (t:=t) gb ok M0 sM n (mo+(fv-re)*(S:Rat)) fv (gm.add ((gf.sub gr).muli S)) gf
structure Ti where
  lat:Int
  re:Rat
  us:List T3
  en:Int→Option Rat
def Ti.nil:Ti:=⟨0,0,[],fun _=>none⟩
def Ti.rv (s:Ti) (q:Q4):Rat:=markAt s.us s.lat s.re q.1
def Ti.beg (s:Ti) (q:Q4):Rat:=begOn s.en (s.rv q) q.2.1
def Ti.fin (s:Ti) (q:Q4):Rat:=s.beg q+(q.2.2.1:Rat) / (q.2.2.2:Rat)
def Ti.come (s:Ti) (q:Q4):Ti:=⟨q.1,s.rv q,usOn s.us (s.rv q) (s.beg q) q.2.2.1 q.2.2.2,setE s.en q.2.1 (s.fin q)⟩
def Ti.after (s:Ti):List Q4→Ti
  | []=>s
  | q :: r=>(s.come q).after r
def Ti.tags (s:Ti):List Q4→List (Rat×Rat)
  | []=>[]
  | q :: r=>(s.beg q,s.fin q) :: (s.come q).tags r
theorem Ti.after_snoc:∀ {s:Ti} {l:List Q4} {q:Q4},s.after (l++[q])=(s.after l).come q
  | _,[],_=>rfl
  | s,x :: r,q=>by
    show (s.come x).after (r++[q]) = _
    rw [Ti.after_snoc]; rfl
theorem Ti.tags_snoc:∀ {s:Ti} {l:List Q4} {q:Q4},s.tags (l++[q])=s.tags l++[((s.after l).beg q,(s.after l).fin q)]
  | _,[],_=>rfl
  | s,x :: r,q=>by
    show _ :: (s.come x).tags (r++[q]) = _
    rw [Ti.tags_snoc]; rfl
theorem Ti.tags_len:∀ {s:Ti} {l:List Q4},(s.tags l).length=l.length
  | _,[]=>rfl
  | s,x :: r=>by
    show ((s.come x).tags r).length+1 = _
    rw [Ti.tags_len]; rfl
structure Fit (n:Nat) (M:Int) (a c:Nat):Prop where
  M1:1≤M
  M2:M≤1000000
  n1:n≤60
  sA:n*M+1<2 ^ a
  sB:∃ b,a+b≤c∧M<2 ^ b
  all:c*n+80≤1500
  al2:c*n+a*n≤2000
theorem fit16:Fit 16 1000000 24 44:=⟨by decide,by decide,by decide,by decide,⟨20,by decide,by decide⟩,by decide,by decide⟩
theorem fit60:Fit 60 99 13 20:=⟨by decide,by decide,by decide,by decide,⟨7,by decide,by decide⟩,by decide,by decide⟩
theorem sz_of {a:Nat} {x:Int} (h0:0≤x) (h:x<2 ^ a):Sz a x:=by
  unfold Sz
  have:((2 ^ a:Nat):Int) = 2 ^ a:=by rw [Int.natCast_pow]; rfl
  omega
structure RunOk (n:Nat) (M:Int) (c:Nat) (s:Ti) (k:Nat) (D:Int):Prop where
  ok:TideOk D (k*1000000) s.lat s.re s.us
  eok:∀ w e,s.en w=some e→Grd D e∧0≤e∧e≤((k*1000000:Int):Rat)
  dz:Sz (c*k+1) D
  sM:∀ u∈s.us,u.2.2≤M
  ln:s.us.length≤k
  kn:k≤n
def PcOk (M:Int) (q:Q4):Prop:=0≤q.1∧q.1<100000000000000∧1≤q.2.2.1∧q.2.2.1≤1000000∧1≤q.2.2.2∧q.2.2.2≤M
theorem RunOk.nil {n:Nat} {M:Int} {c:Nat}:RunOk n M c Ti.nil 0 1 :=
  ⟨⟨⟨by decide,Sw.Sz.one _,by decide,by decide⟩,⟨0,by decide +kernel⟩,by decide,by decide,fun u h=>absurd h List.not_mem_nil,by decide,by decide,by decide⟩,(fun w e h=>by cases h),Sz.one _,fun u h=>absurd h List.not_mem_nil,Nat.le_refl _,Nat.zero_le _⟩
theorem RunOk.come {n:Nat} {M:Int} {a c:Nat} {s:Ti} {k:Nat} {D:Int} {q:Q4} (F:Fit n M a c) (r:RunOk n M c s k D) (hk:k<n) (p:PcOk M q) (hl:s.lat≤q.1) :
    ∃ D' j:Int,j≠0∧D'=D*j∧RunOk n M c (s.come q) (k+1) D'∧Grd D' (s.beg q)∧Grd D' (s.fin q)∧0≤s.beg q∧s.beg q<s.fin q∧s.fin q≤(((k+1:Nat)*1000000:Int):Rat):=by
  obtain ⟨p0,p1,n1,n2,s1,s2⟩:=p
  have o:=r.ok
  have M1:=F.M1
  obtain ⟨S,S1,S2,gS⟩:=markF_S (t:=q.1) o.gb o.tus (by omega) r.sM (s.us.length+1) s.lat s.re (Grd.int (by have:=o.gb.D0; omega) s.lat) o.gre
  obtain ⟨_,m1,m2⟩:=markAt_ok o hl
  have gS:Grd (D*S) (s.rv q):=gS
  have m1:s.re≤s.rv q:=m1
  have m2:s.rv q≤((k*1000000:Int):Rat):=m2
  have D0:=o.gb.D0
  have re0:=o.re0
  have dn:D≠0:=by omega
  have sn:S≠0:=by omega
  have shn:q.2.2.2≠0:=by omega
  have dsn:D*S≠0:=Int.mul_ne_zero dn sn
  have gb1:Grd (D*S) (s.beg q)∧0≤s.beg q∧s.beg q≤((k*1000000:Int):Rat):=by
    unfold Ti.beg begOn
    cases e:s.en q.2.1 with
    | none =>
      show Grd (D*S) (max (s.rv q) (s.rv q))∧0≤max (s.rv q) (s.rv q)∧max (s.rv q) (s.rv q)≤_
      rw [Rat.max_def]
      simp only [ite_self]
      exact ⟨gS,by grind,m2⟩
    | some v =>
      have ev:=r.eok q.2.1 v e
      show Grd (D*S) (max (s.rv q) v)∧0≤max (s.rv q) v∧max (s.rv q) v≤_
      rw [Rat.max_def]
      split
      · exact ⟨ev.1.more dn sn,ev.2.1,ev.2.2⟩
      · exact ⟨gS,by grind,m2⟩
  obtain ⟨gb,b0,bB⟩:=gb1
  have shp:(0:Rat)<(q.2.2.2:Rat):=q_cast_pos (by omega)
  have x0:0<(q.2.2.1:Rat) / (q.2.2.2:Rat):=by
    rw [Rat.lt_div_iff shp,Rat.zero_mul]
    exact q_cast_pos (by omega)
  have x1:(q.2.2.1:Rat) / (q.2.2.2:Rat)≤((1000000:Int):Rat):=by
    have:¬ ((1000000:Int):Rat)<(q.2.2.1:Rat) / (q.2.2.2:Rat):=by
      rw [Rat.lt_div_iff shp,← Rat.intCast_mul,Rat.intCast_lt_intCast]
      omega
    grind
  have eB:(((k+1:Nat)*1000000:Int):Rat)=((k*1000000:Int):Rat)+((1000000:Int):Rat):=by
    have:(((k+1:Nat):Int)*1000000:Int)=(k:Int)*1000000+1000000:=by omega
    rw [this,Rat.intCast_add]
  have mil:(0:Rat)≤((1000000:Int):Rat):=by decide
  have kb:(s.us.length:Int)*M≤n*M:=Int.mul_le_mul_of_nonneg_right (by have:=r.ln; omega) (by omega)
  have zD:Sz (c*(k+1)+1) (D*S*q.2.2.2):=by
    obtain ⟨b,hab,hb⟩:=F.sB
    have hS:Sz a S:=sz_of (by omega) (by have:=F.sA; omega)
    have hsh:Sz b q.2.2.2:=sz_of (by omega) (by omega)
    refine ((r.dz.mul hS).mul hsh).mono ?_
    rw [Nat.mul_add,Nat.mul_one]
    omega
  have z15:c*(k+1)+1≤1500:=by
    have h1:=F.all
    have h2:c*(k+1)≤c*n:=Nat.mul_le_mul_left c hk
    omega
  have ge:Grd (D*S*q.2.2.2) (s.fin q):=(gb.more dsn shn).add ((Grd.int dsn q.2.2.1).divi dsn shn)
  have ef:s.fin q=s.beg q+(q.2.2.1:Rat) / (q.2.2.2:Rat):=rfl
  have n6:=F.n1
  refine ⟨D*S*q.2.2.2,S*q.2.2.2,Int.mul_ne_zero sn shn,Int.mul_assoc D S q.2.2.2,⟨⟨⟨Int.mul_pos (Int.mul_pos D0 (by omega)) (by omega),zD.mono z15,by omega,by omega⟩,gS.more dsn shn,?_,?_,fun u hu=>?_,?_,p0,?_⟩,fun w e he=>?_,zD,fun u hu=>?_,?_,hk⟩,gb.more dsn shn,ge,b0,by rw [ef]; grind,by rw [ef,eB]; grind⟩
  · show 0≤s.rv q
    grind
  · show s.rv q≤_
    rw [eB]; grind
  · have hu:u∈(s.us.filter fun u=>decide (s.rv q<u.2.1))++[(s.beg q,s.beg q+(q.2.2.1:Rat) / (q.2.2.2:Rat),q.2.2.2)]:=hu
    rcases List.mem_append.mp hu with h | h
    · have t:=o.tus u (List.mem_filter.mp h).1
      have te:=t.eB
      exact ⟨(t.b.more dn sn).more dsn shn,(t.e.more dn sn).more dsn shn,t.b0,t.be,by rw [eB]; grind,t.s1,t.s2⟩
    · have:u=(s.beg q,s.beg q+(q.2.2.1:Rat) / (q.2.2.2:Rat),q.2.2.2):=by simpa using h
      subst this
      exact ⟨gb.more dsn shn,ge,b0,by show s.beg q≤s.beg q+(q.2.2.1:Rat) / (q.2.2.2:Rat); grind,by show s.beg q+(q.2.2.1:Rat) / (q.2.2.2:Rat)≤_; rw [eB]; grind,s1,by have:=F.M2; show q.2.2.2≤1000000; omega⟩
  · show (usOn s.us (s.rv q) (s.beg q) q.2.2.1 q.2.2.2).length≤100
    unfold usOn
    have:=List.length_filter_le (fun u:Sw.T3=>decide (s.rv q<u.2.1)) s.us
    have:=r.ln
    rw [List.length_append]
    simp only [List.length_cons,List.length_nil]
    omega
  · show q.1<1000000000000000
    omega
  · have he:setE s.en q.2.1 (s.fin q) w=some e:=he
    unfold setE at he
    split at he
    · cases he
      exact ⟨ge,by rw [ef]; grind,by rw [ef,eB]; grind⟩
    · have ev:=r.eok w e he
      have e2:=ev.2.2
      exact ⟨(ev.1.more dn sn).more dsn shn,ev.2.1,by rw [eB]; grind⟩
  · have hu:u∈(s.us.filter fun u=>decide (s.rv q<u.2.1))++[(s.beg q,s.beg q+(q.2.2.1:Rat) / (q.2.2.2:Rat),q.2.2.2)]:=hu
    rcases List.mem_append.mp hu with h | h
    · exact r.sM u (List.mem_filter.mp h).1
    · have:u=(s.beg q,s.beg q+(q.2.2.1:Rat) / (q.2.2.2:Rat),q.2.2.2):=by simpa using h
      subst this
      exact s2
  · show (usOn s.us (s.rv q) (s.beg q) q.2.2.1 q.2.2.2).length≤k+1
    unfold usOn
    have:=List.length_filter_le (fun u:Sw.T3=>decide (s.rv q<u.2.1)) s.us
    have:=r.ln
    rw [List.length_append]
    simp only [List.length_cons,List.length_nil]
    omega
end Sw
namespace L2
open PySem PySem.Spec PyProof.Rows
def Tg2 (H:Hp) (p:Addr) (t:Rat×Rat):Prop:=∃ pb pe,H p=some (.tup [.ref pb,.ref pe])∧H pb=some (.tup (fq t.1))∧H pe=some (.tup (fq t.2))
theorem Tg2.keep {H H':Hp} {p:Addr} {t:Rat×Rat} (h:Tg2 H p t) (e:∀ p xs,H p=some (.tup xs)→H' p=some (.tup xs)):Tg2 H' p t:=by
  obtain ⟨pb,pe,h1,h2,h3⟩:=h
  exact ⟨pb,pe,e _ _ h1,e _ _ h2,e _ _ h3⟩
structure TgL (H:Hp) (l:Addr) (ps:List Addr) (ts:List (Rat×Rat)):Prop where
  hl:H l=some (.lst (ps.map V.ref))
  r:Paired (Tg2 H) ps ts
theorem TgL.same {H H':Hp} {l:Addr} {ps:List Addr} {ts:List (Rat×Rat)} (h:TgL H l ps ts) (s:Same H H'):TgL H' l ps ts:=⟨s _ _ h.hl,Paired.mapP h.r fun _ _ q=>q.keep fun _ _ e=>s _ _ e⟩
theorem paired_at {α β:Type} {F:α→β→Prop}:∀ {l₁:List α} {l₂:List β} {i:Nat} {b:β},Paired F l₁ l₂→l₂[i]? = some b→∃ a,l₁[i]? = some a∧F a b
  | _,_,_,_,Paired.nil,e=>by simp at e
  | _,_,0,_,Paired.cons x _,e=>by simp at e; subst e; exact ⟨_,rfl,x⟩
  | _,_,i+1,_,Paired.cons _ y,e=>by
    obtain ⟨b,h1,h2⟩:=paired_at (i:=i) y (by simpa using e)
    exact ⟨b,by simpa using h1,h2⟩
theorem TgL.item {H:Hp} {l:Addr} {ps:List Addr} {ts:List (Rat×Rat)} (h:TgL H l ps ts) {i:Nat} {t:Rat×Rat} (e:ts[i]? = some t):∃ p,atI (ps.map V.ref) (i:Int)=some (.ref p)∧Tg2 H p t:=by
  obtain ⟨p,h1,h2⟩:=paired_at h.r e
  exact ⟨p,atI_nat (by rw [List.getElem?_map,h1]; rfl),h2⟩
def PrA (H:Hp) (p:Addr) (x:Nat×Rat):Prop:=∃ pr,H p=some (.tup [.int (x.1:Int),.ref pr])∧H pr=some (.tup (fq x.2))
theorem PrA.keep {H H':Hp} {p:Addr} {x:Nat×Rat} (h:PrA H p x) (e:∀ p xs,H p=some (.tup xs)→H' p=some (.tup xs)):PrA H' p x:=by
  obtain ⟨pr,h1,h2⟩:=h
  exact ⟨pr,e _ _ h1,e _ _ h2⟩
def ScA (H:Hp) (p:Addr) (x:Sw.Sch):Prop:=∃ pf pt pl ps,H p=some (.tup [.ref pf,.ref pt,.ref pl])∧H pf=some (.tup (fq x.1))∧H pt=some (.tup (fq x.2.1))∧H pl=some (.lst (ps.map V.ref))∧Paired (PrA H) ps x.2.2
theorem ScA.keep {H H':Hp} {p l:Addr} {x:Sw.Sch} {xs:List V} (h:ScA H p x) (e:∀ b o,b≠l→H b=some o→H' b=some o) (hl:H l=some (.lst xs)) (nl:∀ pf pt pl,H p=some (.tup [.ref pf,.ref pt,.ref pl])→pl≠l):ScA H' p x:=by
  obtain ⟨pf,pt,pl,ps,h1,h2,h3,h4,h5⟩:=h
  have kt:∀ b zs,H b=some (.tup zs)→H' b=some (.tup zs):=fun b zs q=>e _ _ (ne_of q hl (by intro z; cases z)) q
  exact ⟨pf,pt,pl,ps,kt _ _ h1,kt _ _ h2,kt _ _ h3,e _ _ (nl _ _ _ h1) h4,Paired.mapP h5 fun _ _ q=>q.keep kt⟩
theorem ScA.same {H H':Hp} {p:Addr} {x:Sw.Sch} (h:ScA H p x) (s:Same H H'):ScA H' p x:=by
  obtain ⟨pf,pt,pl,ps,h1,h2,h3,h4,h5⟩:=h
  exact ⟨pf,pt,pl,ps,s _ _ h1,s _ _ h2,s _ _ h3,s _ _ h4,Paired.mapP h5 fun _ _ q=>q.keep fun _ _ e=>s _ _ e⟩
def ScN (H:Hp) (l p:Addr) (x:Sw.Sch):Prop:=ScA H p x∧∀ pf pt pl,H p=some (.tup [.ref pf,.ref pt,.ref pl])→pl≠l
structure ScL (H:Hp) (l:Addr) (ps:List Addr) (xs:List Sw.Sch):Prop where
  hl:H l=some (.lst (ps.map V.ref))
  r:Paired (ScN H l) ps xs
theorem ScL.same {H H':Hp} {l:Addr} {ps:List Addr} {xs:List Sw.Sch} (h:ScL H l ps xs) (s:Same H H'):ScL H' l ps xs:=by
  refine ⟨s _ _ h.hl,Paired.mapP h.r fun p x q=>⟨q.1.same s,fun pf pt pl e=>?_⟩⟩
  obtain ⟨pf',pt',pl',_,h1,_⟩:=q.1
  have e1:=s _ _ h1
  rw [e] at e1
  cases e1
  exact q.2 _ _ _ h1
theorem ScL.app {H:Hp} {l p:Addr} {ps:List Addr} {xs:List Sw.Sch} {x:Sw.Sch} (h:ScL H l ps xs) (hp:ScA H p x) (nl:∀ pf pt pl,H p=some (.tup [.ref pf,.ref pt,.ref pl])→pl≠l):ScL (upd H l (.lst (ps.map V.ref++[.ref p]))) l (ps++[p]) (xs++[x]):=by
  have kp:∀ b o,b≠l→H b=some o→upd H l (.lst (ps.map V.ref++[.ref p])) b=some o:=fun b o n e=>by rw [upd_ne n]; exact e
  have go:∀ a x,ScN H l a x→ScN (upd H l (.lst (ps.map V.ref++[.ref p]))) l a x:=fun a x q=>by
    refine ⟨q.1.keep kp h.hl q.2,fun pf pt pl e=>?_⟩
    obtain ⟨pf',pt',pl',_,h1,_⟩:=q.1
    rw [upd_ne (ne_of h1 h.hl (by intro z; cases z))] at e
    exact q.2 _ _ _ e
  exact ⟨by rw [upd_same,List.map_append]; rfl,paired_snoc (go _ _ ⟨hp,nl⟩) (Paired.mapP h.r go)⟩
def fsOf (qs:List Q4) (ts:List (Rat×Rat)):List Sw.F4:=List.zipWith (fun q t=>(q.1,t.1,t.2,q.2.2.2)) qs ts
theorem fsOf_len {qs:List Q4} {ts:List (Rat×Rat)} (h:ts.length=qs.length):(fsOf qs ts).length=qs.length:=by unfold fsOf; rw [List.length_zipWith]; omega
theorem fsOf_get {qs:List Q4} {ts:List (Rat×Rat)} {i:Nat} {q:Q4} {t:Rat×Rat} (h1:qs[i]? = some q) (h2:ts[i]? = some t):(fsOf qs ts)[i]? = some (q.1,t.1,t.2,q.2.2.2):=by unfold fsOf; rw [List.getElem?_zipWith,h1,h2]
def hdI (fs:List Sw.F4) (mo ma:Rat) (i:Nat):Bool:=match fs[i]? with | some f=>Sw.hdB mo ma f | none=>false
theorem hdP_eq (fs:List Sw.F4) (mo ma:Rat):Sw.hdP fs mo ma=(List.range fs.length).filter (hdI fs mo ma):=rfl
theorem range_filter (p:Nat→Bool) (i:Nat):(List.range (i+1)).filter p=(List.range i).filter p++(if p i=true then [i] else []):=by
  rw [List.range_succ,List.filter_append,List.filter_cons]
  rfl
theorem szq_at {n:Int} (h0:0≤n) (h1:n<100000000000000):Sw.SzQ 200 (n:Rat):=(Sw.SzQ.int (Sw.Sz.r18 (by omega) (by omega))).mono (by decide)
def natI (i:Nat):V:=.int (i:Int)
end L2
namespace Sw
open L2
structure FOk (n:Nat) (M:Int) (a c:Nat) (fs:List F4) (D:Int):Prop where
  F:Fit n M a c
  ln:fs.length≤n
  d0:0<D
  dz:Sz (c*n+1) D
  pc:∀ f∈fs,0≤f.1∧f.1<100000000000000
  tg:∀ f∈fs,Grd D f.2.1∧Grd D f.2.2.1∧0≤f.2.1∧f.2.1<f.2.2.1∧f.2.2.1≤((n*1000000:Int):Rat)
  sh:∀ f∈fs,1≤f.2.2.2∧f.2.2.2≤M
def cm (fs:List F4) (mo:Rat):Nat:=(fs.filter fun f=>decide (mo<(f.1:Rat))).length
theorem cm_le (fs:List F4) (mo:Rat):cm fs mo≤fs.length:=List.length_filter_le _ _
theorem cm_mono {fs:List F4} {mo mo':Rat} (h:mo≤mo'):cm fs mo'≤cm fs mo:=by
  unfold cm
  induction fs with
  | nil=>exact Nat.le_refl _
  | cons z r ih =>
    rw [List.filter_cons,List.filter_cons]
    by_cases e1:mo' < (z.1:Rat)
    · have e2:mo<(z.1:Rat):=by grind
      simp only [decide_eq_true e1,decide_eq_true e2,if_true,List.length_cons]
      omega
    · by_cases e2:mo<(z.1:Rat)
      · simp only [decide_eq_false e1,decide_eq_true e2,if_true,List.length_cons]
        simp
        omega
      · simp only [decide_eq_false e1,decide_eq_false e2]
        simpa using ih
theorem cm_lt {fs:List F4} {mo mo':Rat} (h:mo<mo') (hc:∃ f∈fs,mo<(f.1:Rat)∧mo'=(f.1:Rat)):cm fs mo' < cm fs mo:=by
  obtain ⟨f,hf,h1,h2⟩:=hc
  refine filter_len_lt (fun x _ hx=>?_) ⟨f,hf,decide_eq_true h1,by rw [h2]; simp only [decide_eq_false_iff_not]; grind⟩
  simp only [decide_eq_true_eq] at hx ⊢
  grind
structure FSt (n:Nat) (M:Int) (a c:Nat) (fs:List F4) (D:Int) (mo ma:Rat) (G:Int):Prop where
  g0:0<G
  gd:∃ j:Int,j≠0∧G=D*j
  gz:Sz (c*n+1+a*(n-cm fs mo)) G
  gm:Grd G mo
  gk:Grd G ma
  m0:0≤mo
  k0:0≤ma
  kB:ma≤((n*1000000:Int):Rat)
  mB:mo≤((100000000000000+(2*n-mu fs mo ma:Nat)*3600000000000000:Int):Rat)
section
variable {n:Nat} {M:Int} {a c:Nat} {fs:List F4} {D:Int} {mo ma:Rat} {G:Int}
theorem FSt.z60 (o:FOk n M a c fs D) (s:FSt n M a c fs D mo ma G):Sz 2001 G:=by
  refine s.gz.mono ?_
  have h1:=o.F.al2
  have h2:a*(n-cm fs mo)≤a*n:=Nat.mul_le_mul_left a (Nat.sub_le _ _)
  omega
theorem FSt.up (s:FSt n M a c fs D mo ma G) (d:0<D) {q:Rat} (h:Grd D q):Grd G q:=by
  obtain ⟨j,j0,e⟩:=s.gd
  rw [e]
  exact h.more (by omega) j0
theorem big_sz {G:Int} {q:Rat} (g0:0<G) (gz:Sz 2060 G) (h:Grd G q) (h1:((-10000000000000000000:Int):Rat)≤q) (h2:q≤((10000000000000000000:Int):Rat)):SzQ 2130 q:=by
  refine h.sz (M:=10000000000000000000) (a:=2060) (b:=70) g0 gz (Sz.r18 (by decide) (by decide)) ?_ h2 (by decide)
  have:((-10000000000000000000:Int):Rat) = -((10000000000000000000:Int):Rat):=Rat.intCast_neg _
  rw [← this]; exact h1
theorem FSt.moB (o:FOk n M a c fs D) (s:FSt n M a c fs D mo ma G):mo≤((1000000000000000000:Int):Rat):=by
  have h:=s.mB
  have l:=o.F.n1
  have:((100000000000000+(2*n-mu fs mo ma:Nat)*3600000000000000:Int):Rat)≤((1000000000000000000:Int):Rat):=by
    rw [Rat.intCast_le_intCast]
    have:(2*n-mu fs mo ma:Nat)≤120:=by omega
    omega
  grind
theorem FSt.kaB (o:FOk n M a c fs D) (s:FSt n M a c fs D mo ma G):ma≤((60000000:Int):Rat):=by
  have h:=s.kB
  have l:=o.F.n1
  have:((n*1000000:Int):Rat)≤((60000000:Int):Rat):=by
    rw [Rat.intCast_le_intCast]
    omega
  grind
theorem FOk.enB (o:FOk n M a c fs D) {f:F4} (h:f∈fs):f.2.2.1≤((60000000:Int):Rat):=by
  have h:=(o.tg f h).2.2.2.2
  have l:=o.F.n1
  have:((n*1000000:Int):Rat)≤((60000000:Int):Rat):=by
    rw [Rat.intCast_le_intCast]
    omega
  grind
theorem FOk.s1 (o:FOk n M a c fs D):∀ f∈fs,1≤f.2.2.2:=fun f h=>(o.sh f h).1
theorem FOk.shB (o:FOk n M a c fs D) (h:hdP fs mo ma≠[]):1≤shP fs (hdP fs mo ma)∧shP fs (hdP fs mo ma)≤n*M∧shP fs (hdP fs mo ma)≤60000000∧Sz a (shP fs (hdP fs mo ma)):=by
  have h1:=shP_pos o.s1 h
  have M1:=o.F.M1
  have h2:=shP_le (fs:=fs) (mo:=mo) (ma:=ma) (M:=M) (by omega) fun f hf=>(o.sh f hf).2
  have ln:=o.ln
  have h3:(fs.length:Int)*M≤n*M:=Int.mul_le_mul_of_nonneg_right (by omega) (by omega)
  have n1:=o.F.n1
  have M2:=o.F.M2
  have h4:(n:Int)*M≤60*1000000:=Int.mul_le_mul (by omega) M2 (by omega) (by omega)
  exact ⟨h1,by omega,by omega,sz_of (by omega) (by have:=o.F.sA; omega)⟩
theorem FSt.rest (o:FOk n M a c fs D) (s:FSt n M a c fs D mo ma G) {af:Rat} (t:Turn1 fs mo ma af ma) (hc:∃ f∈fs,mo<(f.1:Rat)∧af=(f.1:Rat)):FSt n M a c fs D af ma G:=by
  have lt:=cm_lt t.gt hc
  have gt:=t.gt
  have m0:=s.m0
  obtain ⟨f,hf,h1,h2⟩:=hc
  obtain ⟨p0,p1⟩:=o.pc f hf
  refine ⟨s.g0,s.gd,s.gz.mono ?_,by rw [h2]; exact Grd.int (by have:=s.g0; omega) _,s.gk,by grind,s.k0,s.kB,?_⟩
  · have:a*(n-cm fs mo)≤a*(n-cm fs af):=Nat.mul_le_mul_left a (by omega)
    omega
  · rw [h2,Rat.intCast_le_intCast]
    omega
theorem FSt.go2 (o:FOk n M a c fs D) (s:FSt n M a c fs D mo ma G) (h:hdP fs mo ma≠[]):∃ G' j:Int,j≠0∧G'=G*j∧FSt n M a c fs D (minL (chA fs mo ma)) (ma+(minL (chA fs mo ma)-mo) / (shP fs (hdP fs mo ma):Rat)) G':=by
  have t:=turn_go o.s1 h
  obtain ⟨S1,S2,S3,S4⟩:=o.shB h
  obtain ⟨fl,hfl,hbl,el⟩:=lstE_mem h
  have eB:=o.enB hfl
  rw [← el] at eB
  have lg:Grd G (lstE fs mo ma):=by rw [el]; exact s.up o.d0 (o.tg fl hfl).2.1
  have lk:lstE fs mo ma≤((n*1000000:Int):Rat):=by rw [el]; exact (o.tg fl hfl).2.2.2.2
  have le:=t.le h
  have gt:=t.gt
  have ge:=t.ge
  have mu':=turn_mu t
  have m0:=s.m0
  have k0:=s.k0
  have mB:=s.mB
  have g0:=s.g0
  have gn:G≠0:=by omega
  have Sn:shP fs (hdP fs mo ma)≠0:=by omega
  have e1:fst1 fs mo ma=mo+(lstE fs mo ma-ma)*(shP fs (hdP fs mo ma):Rat):=rfl
  have mul:=mu_le fs mo ma
  have ln:=o.ln
  generalize shP fs (hdP fs mo ma)=S at S1 S2 S3 S4 Sn e1 t le ge mu' ⊢
  generalize minL (chA fs mo ma)=af at t le gt ge mu' ⊢
  rcases t.way with hc | ⟨_,e2,e3,_⟩
  · have lt:=cm_lt gt hc
    obtain ⟨f,hf,h1,h2⟩:=hc
    obtain ⟨p0,p1⟩:=o.pc f hf
    refine ⟨G*S,S,Sn,rfl,Int.mul_pos g0 (by omega),?_,(s.gz.mul S4).mono ?_,by rw [h2]; exact Grd.int (Int.mul_ne_zero gn Sn) _,?_,by grind,by grind,by grind,?_⟩
    · obtain ⟨j,j0,e⟩:=s.gd
      exact ⟨j*S,Int.mul_ne_zero j0 Sn,by rw [e,Int.mul_assoc]⟩
    · have c1:=cm_le fs mo
      have:a*(n-cm fs mo)+a≤a*(n-cm fs af):=by
        have:a*(n-cm fs mo+1)≤a*(n-cm fs af):=Nat.mul_le_mul_left a (by omega)
        rw [Nat.mul_add,Nat.mul_one] at this
        exact this
      omega
    · refine (s.gk.more gn Sn).add (Grd.divi gn ?_ Sn)
      rw [h2]
      exact (Grd.int gn _).sub s.gm
    · rw [h2,Rat.intCast_le_intCast]
      omega
  · have mu2:mu fs af (lstE fs mo ma)<mu fs mo ma:=by rw [← e3]; exact mu'
    rw [e3]
    have gaf:Grd G af:=by rw [e2,e1]; exact s.gm.add ((lg.sub s.gk).muli S)
    refine ⟨G,1,by decide,by omega,g0,s.gd,s.gz.mono ?_,gaf,lg,by grind,by grind,lk,?_⟩
    · have c1:=cm_mono (fs:=fs) (mo:=mo) (mo':=af) (by grind)
      have:a*(n-cm fs mo)≤a*(n-cm fs af):=Nat.mul_le_mul_left a (by omega)
      omega
    · have x:(lstE fs mo ma-ma)*(S:Rat)≤((3600000000000000:Int):Rat):=by
        have a1:lstE fs mo ma-ma≤((60000000:Int):Rat):=by grind
        have a2:(S:Rat)≤((60000000:Int):Rat):=Rat.intCast_le_intCast.mpr S3
        have a3:(0:Rat)≤(S:Rat):=by
          have:=q_cast_pos (show 0<S by omega)
          grind
        have b1:=Rat.mul_le_mul_of_nonneg_right a1 a3
        have b2:((60000000:Int):Rat)*(S:Rat)≤((60000000:Int):Rat)*((60000000:Int):Rat):=Rat.mul_le_mul_of_nonneg_left a2 (by decide)
        have b3:((60000000:Int):Rat)*((60000000:Int):Rat)=((3600000000000000:Int):Rat):=by decide +kernel
        grind
      have y:((100000000000000+(2*n-mu fs mo ma:Nat)*3600000000000000:Int):Rat)+((3600000000000000:Int):Rat)≤((100000000000000+(2*n-mu fs af (lstE fs mo ma):Nat)*3600000000000000:Int):Rat):=by
        rw [← Rat.intCast_add,Rat.intCast_le_intCast]
        generalize mu fs af (lstE fs mo ma)=u at mu2 ⊢
        generalize mu fs mo ma=v at mu2 mul ⊢
        omega
      rw [e2,e1] at *
      grind
theorem FSt.go (o:FOk n M a c fs D) (s:FSt n M a c fs D mo ma G) (h:hdP fs mo ma≠[]):∃ G',FSt n M a c fs D (minL (chA fs mo ma)) (ma+(minL (chA fs mo ma)-mo) / (shP fs (hdP fs mo ma):Rat)) G':=let ⟨G',_,_,_,s'⟩:=s.go2 o h; ⟨G',s'⟩
end
theorem tags_ok {n:Nat} {M:Int} {a c:Nat} (F:Fit n M a c):∀ {l:List Q4} {s:Ti} {k:Nat} {D:Int},RunOk n M c s k D→k+l.length≤n→(∀ q∈l,PcOk M q)→(∀ q∈l,s.lat≤q.1)→l.Pairwise (fun a b=>a.1≤b.1) →
    ∃ D' j:Int,j≠0∧D'=D*j∧0<D'∧Sz (c*(k+l.length)+1) D'∧∀ t∈s.tags l,Grd D' t.1∧Grd D' t.2∧0≤t.1∧t.1<t.2∧t.2≤(((k+l.length:Nat)*1000000:Int):Rat)
  | [],s,k,D,r,_,_,_,_=>⟨D,1,by decide,by omega,r.ok.gb.D0,r.dz,fun t h=>absurd h List.not_mem_nil⟩
  | q :: l,s,k,D,r,hk,hq,hl,hp=>by
    rw [List.length_cons] at hk
    obtain ⟨D1,j1,j10,e1,r1,g1,g2,b0,be,eB⟩:=r.come F (by omega) (hq q (by simp)) (hl q (by simp))
    obtain ⟨h1,h2⟩:=List.pairwise_cons.mp hp
    obtain ⟨D2,j2,j20,e2,d0,dz,ht⟩:=tags_ok F (l:=l) (s:=s.come q) (k:=k+1) r1 (by omega) (fun x hx=>hq x (List.mem_cons_of_mem _ hx)) (fun x hx=>h1 x hx) h2
    have d1:=r1.ok.gb.D0
    have ek:k+1+l.length=k+(l.length+1):=by omega
    rw [ek] at dz ht
    refine ⟨D2,j1*j2,Int.mul_ne_zero j10 j20,by rw [e2,e1,Int.mul_assoc],d0,dz,fun t h=>?_⟩
    rcases List.mem_cons.mp h with e | e
    · subst e
      refine ⟨by rw [e2]; exact g1.more (by omega) j20,by rw [e2]; exact g2.more (by omega) j20,b0,be,?_⟩
      have:(((k+1:Nat)*1000000:Int):Rat)≤(((k+(l.length+1):Nat)*1000000:Int):Rat):=by
        rw [Rat.intCast_le_intCast]
        omega
      exact Rat.le_trans eB this
    · exact ht t e
theorem fs_ok {n:Nat} {M:Int} {a c:Nat} (F:Fit n M a c) {qs:List Q4} (hn:qs.length≤n) (hq:∀ q∈qs,PcOk M q) (hp:qs.Pairwise (fun a b=>a.1≤b.1)):∃ D,FOk n M a c (fsOf qs (Ti.nil.tags qs)) D:=by
  obtain ⟨D,j,j0,e,d0,dz,ht⟩:=tags_ok F (l:=qs) (s:=Ti.nil) (k:=0) RunOk.nil (by omega) hq (fun q h=>(hq q h).1) hp
  have mem:∀ f∈fsOf qs (Ti.nil.tags qs),∃ q∈qs,∃ t∈Ti.nil.tags qs,f=(q.1,t.1,t.2,q.2.2.2):=fun f hf=>by
    obtain ⟨i,hi⟩:=List.getElem?_of_mem hf
    unfold fsOf at hi
    rw [List.getElem?_zipWith] at hi
    cases e1:qs[i]? with
    | none=>rw [e1] at hi; simp at hi
    | some q =>
      cases e2:(Ti.nil.tags qs)[i]? with
      | none=>rw [e1,e2] at hi; simp at hi
      | some t =>
        rw [e1,e2] at hi
        exact ⟨q,List.mem_of_getElem? e1,t,List.mem_of_getElem? e2,(Option.some.inj hi).symm⟩
  have kn:(((0+qs.length:Nat)*1000000:Int):Rat)≤((n*1000000:Int):Rat):=by
    rw [Rat.intCast_le_intCast]
    omega
  refine ⟨D,F,by rw [fsOf_len Ti.tags_len]; exact hn,d0,dz.mono ?_,fun f hf=>?_,fun f hf=>?_,fun f hf=>?_⟩
  · have:c*(0+qs.length)≤c*n:=Nat.mul_le_mul_left c (by omega)
    omega
  · obtain ⟨q,h1,t,h2,rfl⟩:=mem f hf
    exact ⟨(hq q h1).1,(hq q h1).2.1⟩
  · obtain ⟨q,h1,t,h2,rfl⟩:=mem f hf
    obtain ⟨a1,a2,a3,a4,a5⟩:=ht t h2
    exact ⟨a1,a2,a3,a4,Rat.le_trans a5 kn⟩
  · obtain ⟨q,h1,t,h2,rfl⟩:=mem f hf
    exact ⟨(hq q h1).2.2.2.2.1,(hq q h1).2.2.2.2.2⟩
theorem chs_of:∀ {qs:List Q4} {ts:List (Rat×Rat)} {mo:Rat},ts.length=qs.length→chs (fsOf qs ts) mo=qs.filterMap fun q=>if mo<(q.1:Rat) then some (q.1:Rat) else none
  | [],[],_,_=>rfl
  | [],t :: _,_,h=>by simp at h
  | q :: _,[],_,h=>by simp at h
  | q :: qr,t :: tr,mo,h=>by
    have ih:=chs_of (qs:=qr) (ts:=tr) (mo:=mo) (by simpa using h)
    unfold chs fsOf at ih ⊢
    rw [List.zipWith_cons_cons,List.filterMap_cons,List.filterMap_cons,ih]
theorem mu0 {fs:List F4} {n:Nat} (h:fs.length≤n) (mo ma:Rat):mu fs mo ma≤2*n:=by
  have:=mu_le fs mo ma
  omega
theorem FSt.start {n:Nat} {M:Int} {a c:Nat} {fs:List F4} {D:Int} (o:FOk n M a c fs D):FSt n M a c fs D 0 0 D:=by
  refine ⟨o.d0,⟨1,by decide,by omega⟩,o.dz.mono (by omega),⟨0,?_⟩,⟨0,?_⟩,Rat.le_refl,Rat.le_refl,?_,?_⟩
  · rw [show ((0:Int):Rat) = 0 from rfl]; grind
  · rw [show ((0:Int):Rat) = 0 from rfl]; grind
  · have:((0:Int):Rat)≤((n*1000000:Int):Rat):=by rw [Rat.intCast_le_intCast]; omega
    exact this
  · have:((0:Int):Rat)≤((100000000000000+(2*n-mu fs 0 0:Nat)*3600000000000000:Int):Rat):=by rw [Rat.intCast_le_intCast]; omega
    exact this
theorem FOk.szt {n:Nat} {M:Int} {a c:Nat} {fs:List F4} {D:Int} (o:FOk n M a c fs D) {f:F4} (h:f∈fs):SzQ 2130 f.2.1∧SzQ 2130 f.2.2.1:=by
  obtain ⟨g1,g2,b0,be,_⟩:=o.tg f h
  have eB:=o.enB h
  have z:Sz 2060 D:=o.dz.mono (by have:=o.F.all; omega)
  have l1:((60000000:Int):Rat)≤((10000000000000000000:Int):Rat):=by decide
  have l2:((-10000000000000000000:Int):Rat)≤0:=by decide
  exact ⟨big_sz o.d0 z g1 (by grind) (by grind),big_sz o.d0 z g2 (by grind) (by grind)⟩
section
variable {n:Nat} {M:Int} {a c:Nat} {fs:List F4} {D:Int} {mo ma:Rat} {G:Int}
theorem FSt.zmo (o:FOk n M a c fs D) (s:FSt n M a c fs D mo ma G):SzQ 2130 mo:=by
  have h:=s.moB o
  have h0:=s.m0
  have l1:((1000000000000000000:Int):Rat)≤((10000000000000000000:Int):Rat):=by decide
  have l2:((-10000000000000000000:Int):Rat)≤0:=by decide
  exact big_sz s.g0 ((s.z60 o).mono (by decide)) s.gm (by grind) (by grind)
theorem FSt.zma (o:FOk n M a c fs D) (s:FSt n M a c fs D mo ma G):SzQ 2130 ma:=by
  have h:=s.kaB o
  have h0:=s.k0
  have l1:((60000000:Int):Rat)≤((10000000000000000000:Int):Rat):=by decide
  have l2:((-10000000000000000000:Int):Rat)≤0:=by decide
  exact big_sz s.g0 ((s.z60 o).mono (by decide)) s.gk (by grind) (by grind)
theorem FSt.way (o:FOk n M a c fs D) (s:FSt n M a c fs D mo ma G) (h:hdP fs mo ma≠[]):Grd G ((lstE fs mo ma-ma)*(shP fs (hdP fs mo ma):Rat))∧0≤(lstE fs mo ma-ma)*(shP fs (hdP fs mo ma):Rat)∧(lstE fs mo ma-ma)*(shP fs (hdP fs mo ma):Rat)≤((3600000000000000:Int):Rat)∧SzQ 2130 (lstE fs mo ma-ma):=by
  obtain ⟨S1,S2,S3,S4⟩:=o.shB h
  obtain ⟨fl,hfl,hbl,el⟩:=lstE_mem h
  obtain ⟨_,_,hm⟩:=hdB_iff.mp hbl
  rw [← el] at hm
  have eB:=o.enB hfl
  rw [← el] at eB
  have lg:Grd G (lstE fs mo ma):=by rw [el]; exact s.up o.d0 (o.tg fl hfl).2.1
  have k0:=s.k0
  have l1:((60000000:Int):Rat)≤((10000000000000000000:Int):Rat):=by decide
  have l2:((-10000000000000000000:Int):Rat)≤0:=by decide
  generalize shP fs (hdP fs mo ma)=S at S1 S2 S3 S4 ⊢
  have a1:lstE fs mo ma-ma≤((60000000:Int):Rat):=by grind
  have a2:(S:Rat)≤((60000000:Int):Rat):=Rat.intCast_le_intCast.mpr S3
  have a3:(0:Rat)≤(S:Rat):=by
    have:=q_cast_pos (show 0<S by omega)
    grind
  have b1:=Rat.mul_le_mul_of_nonneg_right a1 a3
  have b2:((60000000:Int):Rat)*(S:Rat)≤((60000000:Int):Rat)*((60000000:Int):Rat):=Rat.mul_le_mul_of_nonneg_left a2 (by decide)
  have b3:((60000000:Int):Rat)*((60000000:Int):Rat)=((3600000000000000:Int):Rat):=by decide +kernel
  exact ⟨(lg.sub s.gk).muli S,Rat.mul_nonneg (by grind) a3,by grind,big_sz s.g0 ((s.z60 o).mono (by decide)) (lg.sub s.gk) (by grind) (by grind)⟩
theorem FSt.zway (o:FOk n M a c fs D) (s:FSt n M a c fs D mo ma G) (h:hdP fs mo ma≠[]):SzQ 2130 ((lstE fs mo ma-ma)*(shP fs (hdP fs mo ma):Rat)):=by
  obtain ⟨g,g0,g1,_⟩:=s.way o h
  have l1:((3600000000000000:Int):Rat)≤((10000000000000000000:Int):Rat):=by decide
  have l2:((-10000000000000000000:Int):Rat)≤0:=by decide
  exact big_sz s.g0 ((s.z60 o).mono (by decide)) g (by grind) (by grind)
theorem FSt.chA (o:FOk n M a c fs D) (s:FSt n M a c fs D mo ma G):∀ x∈chA fs mo ma,Grd G x∧mo≤x∧x≤((2000000000000000000:Int):Rat):=fun x hx=>by
  have h:=s.moB o
  have l1:((1000000000000000000:Int):Rat)+((3600000000000000:Int):Rat)≤((2000000000000000000:Int):Rat):=by decide +kernel
  unfold Sw.chA at hx
  rcases List.mem_append.mp hx with z | z
  · obtain ⟨f,hf,h1,h2⟩:=chs_mem.mp z
    obtain ⟨p0,p1⟩:=o.pc f hf
    rw [h2]
    exact ⟨Grd.int (by have:=s.g0; omega) _,by grind,Rat.intCast_le_intCast.mpr (by omega)⟩
  · by_cases hn:hdP fs mo ma = []
    · rw [if_pos hn] at z; cases z
    · rw [if_neg hn] at z
      have e:x=fst1 fs mo ma:=by simpa using z
      obtain ⟨g,g0,g1,_⟩:=s.way o hn
      have e1:fst1 fs mo ma=mo+(lstE fs mo ma-ma)*(shP fs (hdP fs mo ma):Rat):=rfl
      rw [e,e1]
      exact ⟨s.gm.add g,by grind,by grind⟩
theorem FSt.zch (o:FOk n M a c fs D) (s:FSt n M a c fs D mo ma G) {x:Rat} (hx:x∈Sw.chA fs mo ma):SzQ 2130 x∧SzQ 2130 (x-mo):=by
  obtain ⟨g,h1,h2⟩:=s.chA o x hx
  have m0:=s.m0
  have l1:((2000000000000000000:Int):Rat)≤((10000000000000000000:Int):Rat):=by decide
  have l2:((-10000000000000000000:Int):Rat)≤0:=by decide
  exact ⟨big_sz s.g0 ((s.z60 o).mono (by decide)) g (by grind) (by grind),big_sz s.g0 ((s.z60 o).mono (by decide)) (g.sub s.gm) (by grind) (by grind)⟩
theorem FSt.zov (o:FOk n M a c fs D) (s:FSt n M a c fs D mo ma G) (h:hdP fs mo ma≠[]) {x:Rat} (hx:x∈Sw.chA fs mo ma):SzQ 2130 ((x-mo) / (shP fs (hdP fs mo ma):Rat)):=by
  obtain ⟨g,h1,h2⟩:=s.chA o x hx
  obtain ⟨S1,S2,S3,S4⟩:=o.shB h
  have g0:=s.g0
  have m0:=s.m0
  have a24:a≤30∨30<a:=by omega
  have l1:((2000000000000000000:Int):Rat)≤((10000000000000000000:Int):Rat):=by decide
  have l2:((-10000000000000000000:Int):Rat)≤0:=by decide
  generalize shP fs (hdP fs mo ma)=S at S1 S2 S3 S4 ⊢
  have S0:(0:Rat)<(S:Rat):=q_cast_pos (by omega)
  have S1':(1:Rat)≤(S:Rat):=by
    have:((1:Int):Rat)≤(S:Rat):=Rat.intCast_le_intCast.mpr S1
    exact this
  have z30 : Sz 30 S := sz_of (by omega) (by have : (2 : Int) ^ 30 = 1073741824 := by decide
                                             omega)
  have q0:0≤(x-mo) / (S:Rat):=by
    have:¬ (x-mo) / (S:Rat)<0:=by rw [Rat.div_lt_iff S0,Rat.zero_mul]; grind
    grind
  have q1:(x-mo) / (S:Rat)≤x-mo:=by
    have:¬ x-mo<(x-mo) / (S:Rat):=by
      rw [Rat.lt_div_iff S0]
      have:=Rat.mul_le_mul_of_nonneg_left S1' (show 0≤x-mo by grind)
      grind
    grind
  exact big_sz (Int.mul_pos g0 (by omega)) (((s.z60 o).mul z30).mono (by decide)) ((g.sub s.gm).divi (by omega) (by omega)) (by grind) (by grind)
end
end Sw
namespace Sw
open L2
def putP (en:Int→Option Rat) (e:Rat) (ps:List (Nat×Rat)):Int→Option Rat:=ps.foldl (fun m p=>setE m (p.1:Int) e) en
def endsF (xs:List Sch):Int→Option Rat:=xs.foldl (fun m x=>putP m x.2.1 x.2.2) fun _=>none
theorem endsF_snoc (xs:List Sch) (x:Sch):endsF (xs++[x])=putP (endsF xs) x.2.1 x.2.2:=by unfold endsF; rw [List.foldl_append]; rfl
def spansF (en:Int→Option Rat):Nat→(Int→Option Rat)→List Q4→List (Rat×Rat)
  | _,_,[]=>[]
  | i,ah,q :: r=>(max (q.1:Rat) ((ah q.2.1).getD 0),(en (i:Int)).getD (max (q.1:Rat) ((ah q.2.1).getD 0))) :: spansF en (i+1) (setE ah q.2.1 ((en (i:Int)).getD (max (q.1:Rat) ((ah q.2.1).getD 0)))) r
def aheadF (en:Int→Option Rat):Nat→(Int→Option Rat)→List Q4→(Int→Option Rat)
  | _,ah,[]=>ah
  | i,ah,q :: r=>aheadF en (i+1) (setE ah q.2.1 ((en (i:Int)).getD (max (q.1:Rat) ((ah q.2.1).getD 0)))) r
def begF (ah:Int→Option Rat) (q:Q4):Rat:=max (q.1:Rat) ((ah q.2.1).getD 0)
theorem spansF_snoc:∀ {en:Int→Option Rat} {i:Nat} {ah:Int→Option Rat} {l:List Q4} {q:Q4},spansF en i ah (l++[q])=spansF en i ah l++[(begF (aheadF en i ah l) q,(en ((i+l.length:Nat):Int)).getD (begF (aheadF en i ah l) q))]
  | _,_,_,[],_=>rfl
  | en,i,ah,x :: r,q=>by
    show _ :: spansF en (i+1) _ (r++[q]) = _ :: (spansF en (i+1) _ r++_)
    rw [spansF_snoc,show i+1+r.length=i+(x :: r).length by simp only [List.length_cons]; omega]
    rfl
theorem aheadF_snoc:∀ {en:Int→Option Rat} {i:Nat} {ah:Int→Option Rat} {l:List Q4} {q:Q4},aheadF en i ah (l++[q])=setE (aheadF en i ah l) q.2.1 ((en ((i+l.length:Nat):Int)).getD (begF (aheadF en i ah l) q))
  | _,_,_,[],_=>rfl
  | en,i,ah,x :: r,q=>by
    show aheadF en (i+1) _ (r++[q]) = _
    rw [aheadF_snoc,show i+1+r.length=i+(x :: r).length by simp only [List.length_cons]; omega]
    rfl
theorem flowF_len {fs:List F4}:∀ {n:Nat} {mo ma:Rat},(flowF fs n mo ma).length≤n
  | 0,_,_=>Nat.le_refl _
  | n+1,mo,ma=>by
    rw [flowF_succ]
    split
    · exact Nat.zero_le _
    · split
      · have:=flowF_len (fs:=fs) (n:=n) (mo:=minL (chA fs mo ma)) (ma:=ma)
        omega
      · rw [List.length_cons]
        have:=flowF_len (fs:=fs) (n:=n) (mo:=minL (chA fs mo ma)) (ma:=ma+(minL (chA fs mo ma)-mo) / (shP fs (hdP fs mo ma):Rat))
        omega
end Sw
namespace Sw
open L2
structure Scl where
  L:Int
  W:Int
  la:Int
  L0:0<L
  W0:0<W
  a0:0≤la
namespace Scl
variable (z:Scl)
def ro:Rat:=(z.L:Rat) / (z.W:Rat)
def tm (x:Rat):Rat:=x*(z.L:Rat)+(z.la:Rat)
def q4 (q:Q4):Q4:=(q.1*z.L+z.la,q.2.1,q.2.2.1*z.L,q.2.2.2*z.W)
def t3 (u:T3):T3:=(u.1*z.ro,u.2.1*z.ro,u.2.2*z.W)
variable {z}
variable (z)
end Scl
theorem spansF_len {en:Int→Option Rat}:∀ {l:List Q4} {i:Nat} {ah:Int→Option Rat},(spansF en i ah l).length=l.length
  | [],_,_=>rfl
  | q :: r,i,ah=>by
    show (spansF en (i+1) _ r).length+1 = _
    rw [spansF_len]
    rfl
end Sw
namespace Sw
open L2
theorem idx_filter {α β:Type} (p:α→Bool) (g:Option α→β):∀ fs:List α,((List.range fs.length).filter fun i=>(fs[i]?.map p).getD false).map (fun i=>g fs[i]?)=(fs.filter p).map fun f=>g (some f)
  | []=>rfl
  | f :: r=>by
    have ih:=idx_filter p g r
    rw [List.length_cons,List.range_succ_eq_map,List.filter_cons,List.filter_map,List.filter_cons]
    have e:((List.range r.length).filter ((fun i=>((f :: r)[i]?.map p).getD false) ∘ Nat.succ)).map ((fun i=>g (f :: r)[i]?) ∘ Nat.succ)=(r.filter p).map fun f=>g (some f):=ih
    cases hp:p f with
    | true =>
      rw [if_pos (by simp [hp]),if_pos rfl,List.map_cons,List.map_cons,List.map_map,e]
      rfl
    | false =>
      rw [if_neg (by simp [hp]),if_neg (by decide),List.map_map,e]
theorem hdP_idx (fs:List F4) (mo ma:Rat):hdP fs mo ma=(List.range fs.length).filter fun i=>(fs[i]?.map (hdB mo ma)).getD false:=by
  unfold hdP
  refine List.filter_congr fun i _=>?_
  cases fs[i]? <;> rfl
theorem minL_eq {l:List Rat} {x:Rat} (h:x∈l) (hl:∀ y∈l,x≤y):minL l=x:=by
  have h1:=minL_le h
  have h2:=hl _ (minL_mem (fun e=>by rw [e] at h; cases h))
  grind
def hdT (fs:List F4) (mo ma:Rat):List T3:=(fs.filter (hdB mo ma)).map (·.2)
theorem shP_T (fs:List F4) (mo ma:Rat):shP fs (hdP fs mo ma)=sumS (hdT fs mo ma):=by
  unfold shP sumS hdT
  rw [List.map_map,hdP_idx]
  have:=idx_filter (hdB mo ma) (fun o:Option F4=>(o.map fun f=>f.2.2.2).getD 0) fs
  exact congrArg List.sum this
theorem lstE_T (fs:List F4) (mo ma:Rat):lstE fs mo ma=fstE (hdT fs mo ma):=by
  unfold lstE fstE hdT
  rw [List.map_map,hdP_idx]
  have:=idx_filter (hdB mo ma) (fun o:Option F4=>(o.map fun f=>f.2.2.1).getD 0) fs
  exact congrArg minL this
theorem hdP_T (fs:List F4) (mo ma:Rat):hdP fs mo ma = []↔hdT fs mo ma = []:=by
  have e:(hdP fs mo ma).length=(hdT fs mo ma).length:=by
    have:=congrArg List.length (idx_filter (hdB mo ma) (fun _:Option F4=>()) fs)
    rw [List.length_map,List.length_map] at this
    unfold hdT
    rw [List.length_map,hdP_idx]
    exact this
  constructor
  · intro h; rw [h] at e; exact List.length_eq_zero_iff.mp e.symm
  · intro h; rw [h] at e; exact List.length_eq_zero_iff.mp e
def nxS (fs:List F4) (s:Rat×Rat):Rat×Rat :=
  if chA fs s.1 s.2 = [] then s else if hdP fs s.1 s.2 = [] then (minL (chA fs s.1 s.2),s.2) else (minL (chA fs s.1 s.2),s.2+(minL (chA fs s.1 s.2)-s.1) / (shP fs (hdP fs s.1 s.2):Rat))
def stS (fs:List F4):Nat→Rat×Rat
  | 0=>(0,0)
  | k+1=>nxS fs (stS fs k)
structure Btw (fs:List F4) (us:List T3) (lat re0 t:Rat):Prop where
  s1:∀ f∈fs,1≤f.2.2.2
  nx:∃ f∈fs,(f.1:Rat)=t
  sep:∀ f∈fs,(f.1:Rat)≤lat∨t≤(f.1:Rat)
  hd:∀ mo ma,lat≤mo→mo<t→re0≤ma→hdT fs mo ma=hds us ma
theorem Btw.chs {fs:List F4} {us:List T3} {lat re0 t mo:Rat} (b:Btw fs us lat re0 t) (h1:lat≤mo) (h2:mo<t):t∈chs fs mo∧∀ y∈chs fs mo,t≤y:=by
  refine ⟨?_,fun y hy=>?_⟩
  · obtain ⟨f,hf,e⟩:=b.nx
    exact chs_mem.mpr ⟨f,hf,by rw [e]; exact h2,e.symm⟩
  · obtain ⟨f,hf,h,e⟩:=chs_mem.mp hy
    rw [e]
    rcases b.sep f hf with z | z
    · grind
    · exact z
theorem markF_now {us:List T3} (us1:∀ u∈us,1≤u.2.2) {t:Rat}:∀ (n:Nat) (re:Rat),markF us t n t re=re
  | 0,_=>rfl
  | n+1,re=>by
    unfold markF
    by_cases h:hds us re = []
    · rw [if_pos h]
    · rw [if_neg h]
      have gt:=fstE_gt h
      have S1:1≤sumS (hds us re):=sum_pos (fun x hx=>by
        obtain ⟨u,hu,rfl⟩:=List.mem_map.mp hx
        exact us1 u (hds_mem hu).1) (by simpa using h)
      have S0:(0:Rat)<(sumS (hds us re):Rat):=q_cast_pos (by omega)
      have:=Rat.mul_pos (a:=fstE (hds us re)-re) (by grind) S0
      rw [if_pos (by grind)]
      have:(t-t) / (sumS (hds us re):Rat) = 0:=by grind
      rw [this]; grind
theorem run_to {fs:List F4} {us:List T3} {lat re0 t:Rat} (b:Btw fs us lat re0 t) (us1:∀ u∈us,1≤u.2.2):∀ (n k:Nat) (mo re:Rat),stS fs k=(mo,re)→lat≤mo→mo≤t→re0≤re→ahead us re<n→∃ k',k≤k'∧stS fs k'=(t,markF us t n mo re)
  | 0,_,_,_,_,_,_,_,h=>absurd h (Nat.not_lt_zero _)
  | n+1,k,mo,re,e,h1,h2,h3,h4=>by
    by_cases hm:mo=t
    · subst hm
      exact ⟨k,Nat.le_refl _,by rw [markF_now us1]; exact e⟩
    have hlt:mo<t:=by grind
    obtain ⟨c1,c2⟩:=b.chs h1 hlt
    have hT:=b.hd mo re h1 hlt h3
    have step:stS fs (k+1)=nxS fs (mo,re):=by show nxS fs (stS fs k) = _; rw [e]
    have ce:chA fs mo re≠[]:=by
      intro z
      unfold chA at z
      have:=(List.append_eq_nil_iff.mp z).1
      rw [this] at c1
      cases c1
    unfold markF
    by_cases hh:hds us re = []
    · rw [if_pos hh]
      have hd:hdP fs mo re = []:=(hdP_T fs mo re).mpr (by rw [hT,hh])
      refine ⟨k+1,Nat.le_succ _,?_⟩
      rw [step]
      unfold nxS
      rw [if_neg ce,if_pos hd]
      have:minL (chA fs mo re)=t:=by
        unfold chA
        rw [if_pos hd,List.append_nil]
        exact minL_eq c1 c2
      rw [this]
    · rw [if_neg hh]
      have hd:hdP fs mo re≠[]:=fun z=>hh (by rw [← hT]; exact (hdP_T fs mo re).mp z)
      have eS:shP fs (hdP fs mo re)=sumS (hds us re):=by rw [shP_T,hT]
      have eE:lstE fs mo re=fstE (hds us re):=by rw [lstE_T,hT]
      have e1:fst1 fs mo re=mo+(fstE (hds us re)-re)*(sumS (hds us re):Rat):=by
        show mo+(lstE fs mo re-re) * _ = _
        rw [eE,eS]
      have ech:∀ x,x∈chA fs mo re↔x∈chs fs mo∨x=fst1 fs mo re:=fun x=>by
        unfold chA
        rw [if_neg hd,List.mem_append]
        simp
      by_cases c:t<mo+(fstE (hds us re)-re)*(sumS (hds us re):Rat)
      · rw [if_pos c]
        have:minL (chA fs mo re)=t:=minL_eq ((ech t).mpr (.inl c1)) fun y hy=>by
          rcases (ech y).mp hy with z | z
          · exact c2 y z
          · rw [z,e1]; grind
        refine ⟨k+1,Nat.le_succ _,?_⟩
        rw [step]
        unfold nxS
        rw [if_neg ce,if_neg hd,this,eS]
      · rw [if_neg c]
        have em:minL (chA fs mo re)=fst1 fs mo re:=minL_eq ((ech _).mpr (.inr rfl)) fun y hy=>by
          rcases (ech y).mp hy with z | z
          · have:=c2 y z
            rw [e1]; grind
          · rw [z]; exact Rat.le_refl
        have tg:=turn_go b.s1 hd
        rw [em,e1,eS] at tg
        have gt:=tg.gt
        have gE:=fstE_gt hh
        have S1:1≤sumS (hds us re):=by
          have:=shP_pos b.s1 hd
          rw [eS] at this
          exact this
        have S0:(0:Rat)<(sumS (hds us re):Rat):=q_cast_pos (by omega)
        have ema:re+(mo+(fstE (hds us re)-re)*(sumS (hds us re):Rat)-mo) / (sumS (hds us re):Rat)=fstE (hds us re):=by
          have:(sumS (hds us re):Rat)≠0:=by grind
          grind
        have st:stS fs (k+1)=(mo+(fstE (hds us re)-re)*(sumS (hds us re):Rat),fstE (hds us re)):=by
          rw [step]
          unfold nxS
          rw [if_neg ce,if_neg hd,em,e1,eS,ema]
        have al:=ahead_lt hh
        obtain ⟨k',hk,ek⟩:=run_to b us1 n (k+1) _ _ st (by grind) (by grind) (by grind) (by omega)
        exact ⟨k',by omega,ek⟩
end Sw
namespace Sw
open L2
theorem lat_to {qs:List Q4}:∀ {s:Ti} {i:Nat} {q:Q4},(∀ q∈qs,s.lat≤q.1)→qs.Pairwise (fun a b=>a.1≤b.1)→qs[i]? = some q→(s.after (qs.take i)).lat≤q.1:=by
  induction qs with
  | nil=>intro s i q _ _ e; simp at e
  | cons x r ih =>
    intro s i q h0 hp e
    obtain ⟨h1,h2⟩:=List.pairwise_cons.mp hp
    cases i with
    | zero =>
      have:x=q:=by simpa using e
      subst this
      exact h0 x (by simp)
    | succ j =>
      have e:r[j]? = some q:=by simpa using e
      exact ih (s:=s.come x) (fun y hy=>h1 y hy) h2 e
structure Good (n:Nat) (M:Int) (a c:Nat) (qs:List Q4):Prop where
  F:Fit n M a c
  ln:qs.length≤n
  pc:∀ q∈qs,PcOk M q
  pw:qs.Pairwise (fun a b=>a.1≤b.1)
theorem Good.run {n:Nat} {M:Int} {a c:Nat} {qs:List Q4} (g:Good n M a c qs):∀ {i:Nat},i≤qs.length→∃ D,RunOk n M c (Ti.nil.after (qs.take i)) i D
  | 0,_=>⟨1,RunOk.nil⟩
  | i+1,hi=>by
    obtain ⟨D,r⟩:=g.run (i:=i) (by omega)
    have e:qs[i]? = some (qs[i]'(by omega)):=List.getElem?_eq_getElem _
    obtain ⟨D',j,_,_,r',_⟩:=r.come g.F (by have:=g.ln; omega) (g.pc _ (List.mem_of_getElem? e)) (lat_to (s:=Ti.nil) (fun q h=>(g.pc q h).1) g.pw e)
    rw [L2.take_succ_of e,Ti.after_snoc]
    exact ⟨D',r'⟩
theorem Good.rv_ge {n:Nat} {M:Int} {a c:Nat} {qs:List Q4} (g:Good n M a c qs) {i:Nat} {q:Q4} (e:qs[i]? = some q):(Ti.nil.after (qs.take i)).re≤(Ti.nil.after (qs.take i)).rv q:=by
  have hi:=(List.getElem?_eq_some_iff.mp e).1
  obtain ⟨D,r⟩:=g.run (i:=i) (by omega)
  exact (markAt_ok r.ok (lat_to (s:=Ti.nil) (fun q h=>(g.pc q h).1) g.pw e)).2.1
def uOf (l:List Q4):List T3:=List.zipWith (fun q t=>(t.1,t.2,q.2.2.2)) l (Ti.nil.tags l)
theorem uOf_snoc (l:List Q4) (q:Q4):uOf (l++[q])=uOf l++[((Ti.nil.after l).beg q,(Ti.nil.after l).fin q,q.2.2.2)]:=by
  unfold uOf
  rw [Ti.tags_snoc,List.zipWith_append (by rw [Ti.tags_len])]
  rfl
theorem Good.hds {n:Nat} {M:Int} {a c:Nat} {qs:List Q4} (g:Good n M a c qs):∀ {i:Nat},i≤qs.length→∀ m,(Ti.nil.after (qs.take i)).re≤m→Sw.hds (Ti.nil.after (qs.take i)).us m=(uOf (qs.take i)).filter (isHd m)
  | 0,_,m,_=>rfl
  | i+1,hi,m,hm=>by
    have e:qs[i]? = some (qs[i]'(by omega)):=List.getElem?_eq_getElem _
    have ge:=g.rv_ge e
    generalize qs[i]'(by omega)=q at e ge
    rw [L2.take_succ_of e,Ti.after_snoc] at hm ⊢
    have hm:(Ti.nil.after (qs.take i)).rv q≤m:=hm
    rw [uOf_snoc,List.filter_append,← g.hds (i:=i) (by omega) m (by grind)]
    show ((((Ti.nil.after (qs.take i)).us.filter fun u:T3=>decide ((Ti.nil.after (qs.take i)).rv q<u.2.1))++[_]).filter (isHd m)) = _
    rw [List.filter_append,List.filter_filter]
    unfold Sw.hds
    congr 1
    refine List.filter_congr fun u _=>?_
    cases h:isHd m u with
    | false=>rfl
    | true =>
      unfold isHd at h
      simp only [Bool.and_eq_true,Bool.not_eq_true',decide_eq_false_iff_not,decide_eq_true_eq] at h
      rw [Bool.true_and,decide_eq_true_eq]
      grind
theorem tags_take:∀ {s:Ti} {l:List Q4} {i:Nat},s.tags (l.take i)=(s.tags l).take i
  | _,_,0=>by simp [Ti.tags]
  | _,[],_ + 1=>rfl
  | s,q :: r,i+1=>by
    show (s.beg q,s.fin q) :: (s.come q).tags (r.take i) = _
    rw [tags_take]
    rfl
theorem fs_take (qs:List Q4) (i:Nat):((fsOf qs (Ti.nil.tags qs)).take i).map (·.2)=uOf (qs.take i):=by
  unfold fsOf uOf
  rw [List.take_zipWith,tags_take,List.map_zipWith]
theorem fs_mem_at {qs:List Q4} {i:Nat} {q:Q4} (e:qs[i]? = some q):∃ t:Rat×Rat,(fsOf qs (Ti.nil.tags qs))[i]? = some (q.1,t.1,t.2,q.2.2.2):=by
  have hi:=(List.getElem?_eq_some_iff.mp e).1
  exact ⟨_,fsOf_get e (List.getElem?_eq_getElem (show i<(Ti.nil.tags qs).length by rw [Ti.tags_len]; exact hi))⟩
theorem lat_of {qs:List Q4}:∀ {i:Nat} {q:Q4},qs[i]? = some q→(Ti.nil.after (qs.take (i+1))).lat=q.1:=fun {i q} e=>by
  rw [L2.take_succ_of e,Ti.after_snoc]
  rfl
theorem Good.btw {n:Nat} {M:Int} {a c:Nat} {qs:List Q4} (g:Good n M a c qs) {i:Nat} {q:Q4} (e:qs[i]? = some q):Btw (fsOf qs (Ti.nil.tags qs)) (Ti.nil.after (qs.take i)).us ((Ti.nil.after (qs.take i)).lat:Rat) (Ti.nil.after (qs.take i)).re (q.1:Rat):=by
  have hi:=(List.getElem?_eq_some_iff.mp e).1
  obtain ⟨D,ok⟩:=fs_ok g.F g.ln g.pc g.pw
  have pwi:=List.pairwise_iff_getElem.mp g.pw
  have at_:∀ {j:Nat} {f:F4},(fsOf qs (Ti.nil.tags qs))[j]? = some f→∃ r,qs[j]? = some r∧f.1=r.1:=fun {j f} h=>by
    have hj:j<qs.length:=by
      have:=(List.getElem?_eq_some_iff.mp h).1
      rw [fsOf_len Ti.tags_len] at this
      exact this
    have e1:qs[j]? = some (qs[j]'hj):=List.getElem?_eq_getElem _
    obtain ⟨t,e2⟩:=fs_mem_at e1
    rw [h] at e2
    cases e2
    exact ⟨_,e1,rfl⟩
  have low:∀ {j:Nat} {r:Q4},qs[j]? = some r→j<i→r.1≤(Ti.nil.after (qs.take i)).lat:=fun {j r} h hj=>by
    obtain ⟨i',rfl⟩:∃ i',i=i' + 1:=⟨i-1,by omega⟩
    have e1:qs[i']? = some (qs[i']'(by omega)):=List.getElem?_eq_getElem _
    rw [lat_of e1]
    have hj2:=(List.getElem?_eq_some_iff.mp h).1
    have ej:qs[j]'hj2=r:=(List.getElem?_eq_some_iff.mp h).2
    by_cases c:j=i'
    · subst c
      rw [ej]
      exact Int.le_refl _
    · have:=pwi j i' hj2 (by omega) (by omega)
      rw [ej] at this
      exact this
  have high:∀ {j:Nat} {r:Q4},qs[j]? = some r→i≤j→q.1≤r.1:=fun {j r} h hj=>by
    have hj2:=(List.getElem?_eq_some_iff.mp h).1
    have ej:qs[j]'hj2=r:=(List.getElem?_eq_some_iff.mp h).2
    have ei:qs[i]'hi=q:=(List.getElem?_eq_some_iff.mp e).2
    by_cases c:j=i
    · subst c
      rw [← ej,← ei]
      exact Int.le_refl _
    · have:=pwi i j hi hj2 (by omega)
      rw [ej,ei] at this
      exact this
  refine ⟨ok.s1,?_,fun f hf=>?_,fun mo ma h1 h2 h3=>?_⟩
  · obtain ⟨t,h⟩:=fs_mem_at e
    exact ⟨_,List.mem_of_getElem? h,rfl⟩
  · obtain ⟨j,hj⟩:=List.getElem?_of_mem hf
    obtain ⟨r,hr,er⟩:=at_ hj
    rw [er,Rat.intCast_le_intCast,Rat.intCast_le_intCast]
    by_cases c:j<i
    · exact .inl (low hr c)
    · exact .inr (high hr (by omega))
  · have sp:fsOf qs (Ti.nil.tags qs)=(fsOf qs (Ti.nil.tags qs)).take i++(fsOf qs (Ti.nil.tags qs)).drop i:=(List.take_append_drop _ _).symm
    unfold hdT
    rw [sp,List.filter_append]
    have e1:((fsOf qs (Ti.nil.tags qs)).drop i).filter (hdB mo ma) = []:=by
      refine List.filter_eq_nil_iff.mpr fun f hf=>?_
      obtain ⟨j,hj⟩:=List.getElem?_of_mem hf
      rw [List.getElem?_drop] at hj
      obtain ⟨r,hr,er⟩:=at_ hj
      have:=high hr (by omega)
      have:(q.1:Rat)≤(r.1:Rat):=Rat.intCast_le_intCast.mpr this
      intro z
      obtain ⟨z1,_⟩:=hdB_iff.mp z
      rw [er] at z1
      grind
    have e2:((fsOf qs (Ti.nil.tags qs)).take i).filter (hdB mo ma)=((fsOf qs (Ti.nil.tags qs)).take i).filter fun f=>isHd ma f.2:=by
      refine List.filter_congr fun f hf=>?_
      obtain ⟨j,hj⟩:=List.getElem?_of_mem hf
      have hji:j<i:=by
        have:=(List.getElem?_eq_some_iff.mp hj).1
        rw [List.length_take] at this
        omega
      rw [List.getElem?_take,if_pos hji] at hj
      obtain ⟨r,hr,er⟩:=at_ hj
      have:=low hr hji
      have:(r.1:Rat)≤((Ti.nil.after (qs.take i)).lat:Rat):=Rat.intCast_le_intCast.mpr this
      unfold hdB
      rw [er,decide_eq_false (by grind)]
      rfl
    rw [e1,List.append_nil,e2,g.hds (by omega) ma h3,← fs_take,List.filter_map]
    rfl
theorem Good.at_coming {n:Nat} {M:Int} {a c:Nat} {qs:List Q4} (g:Good n M a c qs):∀ {i:Nat},i≤qs.length→∃ k,stS (fsOf qs (Ti.nil.tags qs)) k=(((Ti.nil.after (qs.take i)).lat:Rat),(Ti.nil.after (qs.take i)).re)
  | 0,_=>⟨0,rfl⟩
  | i+1,hi=>by
    obtain ⟨k,hk⟩:=g.at_coming (i:=i) (by omega)
    have e:qs[i]? = some (qs[i]'(by omega)):=List.getElem?_eq_getElem _
    have lt:=lat_to (s:=Ti.nil) (fun q h=>(g.pc q h).1) g.pw e
    obtain ⟨D,r⟩:=g.run (i:=i) (by omega)
    obtain ⟨k',_,hk'⟩:=run_to (g.btw e) (fun u hu=>(r.ok.tus u hu).s1) ((Ti.nil.after (qs.take i)).us.length+1) k _ _ hk Rat.le_refl (Rat.intCast_le_intCast.mpr lt) Rat.le_refl (by have:=ahead_le (Ti.nil.after (qs.take i)).us (Ti.nil.after (qs.take i)).re; omega)
    refine ⟨k',?_⟩
    rw [hk',L2.take_succ_of e,Ti.after_snoc]
    rfl
end Sw
namespace Sw
open L2
section
variable {fs:List F4}
def hdAt (fs:List F4) (i:Nat) (s:Rat×Rat):Prop:=∃ f,fs[i]? = some f∧(f.1:Rat)≤s.1∧f.2.1≤s.2∧s.2<f.2.2.1
theorem hdAt_mem {i:Nat} {s:Rat×Rat}:hdAt fs i s↔i∈hdP fs s.1 s.2:=by
  rw [hdP_mem]
  constructor
  · rintro ⟨f,e,h⟩; exact ⟨f,e,hdB_iff.mpr h⟩
  · rintro ⟨f,e,h⟩; exact ⟨f,e,hdB_iff.mp h⟩
theorem stS_turn (s1:∀ f∈fs,1≤f.2.2.2) (k:Nat):(chA fs (stS fs k).1 (stS fs k).2 = []∧stS fs (k+1)=stS fs k)∨(chA fs (stS fs k).1 (stS fs k).2≠[]∧Turn1 fs (stS fs k).1 (stS fs k).2 (stS fs (k+1)).1 (stS fs (k+1)).2):=by
  show _∨_
  have e:stS fs (k+1)=nxS fs (stS fs k):=rfl
  rw [e]
  generalize stS fs k=s
  unfold nxS
  by_cases c:chA fs s.1 s.2 = []
  · exact .inl ⟨c,by rw [if_pos c]⟩
  · refine .inr ⟨c,?_⟩
    rw [if_neg c]
    by_cases h:hdP fs s.1 s.2 = []
    · rw [if_pos h]; exact turn_rest h c
    · rw [if_neg h]; exact turn_go s1 h
theorem stS_le (s1:∀ f∈fs,1≤f.2.2.2) (k:Nat):(stS fs k).1≤(stS fs (k+1)).1∧(stS fs k).2≤(stS fs (k+1)).2:=by
  rcases stS_turn s1 k with ⟨_,e⟩ | ⟨_,t⟩
  · rw [e]; exact ⟨Rat.le_refl,Rat.le_refl⟩
  · have:=t.gt
    exact ⟨by grind,t.ge⟩
theorem stS_mono (s1:∀ f∈fs,1≤f.2.2.2) {j:Nat}:∀ {k:Nat},j≤k→(stS fs j).1≤(stS fs k).1∧(stS fs j).2≤(stS fs k).2
  | 0,h=>by
    have:j = 0:=by omega
    subst this
    exact ⟨Rat.le_refl,Rat.le_refl⟩
  | k+1,h=>by
    by_cases c:j=k+1
    · subst c; exact ⟨Rat.le_refl,Rat.le_refl⟩
    · have a:=stS_mono s1 (j:=j) (k:=k) (by omega)
      have b:=stS_le s1 k
      exact ⟨Rat.le_trans a.1 b.1,Rat.le_trans a.2 b.2⟩
theorem stS_stay {j:Nat} (h:chA fs (stS fs j).1 (stS fs j).2 = []):∀ {k:Nat},j≤k→stS fs k=stS fs j
  | 0,hk=>by
    have:j = 0:=by omega
    subst this
    rfl
  | k+1,hk=>by
    by_cases c:j=k+1
    · subst c; rfl
    · have e:=stS_stay h (k:=k) (by omega)
      show nxS fs (stS fs k) = _
      rw [e]
      unfold nxS
      rw [if_pos h]
theorem stS_lt (s1:∀ f∈fs,1≤f.2.2.2) {j k:Nat} (h:j<k) (hc:chA fs (stS fs k).1 (stS fs k).2≠[]):(stS fs j).1<(stS fs k).1:=by
  rcases stS_turn s1 j with ⟨c,_⟩ | ⟨_,t⟩
  · exfalso
    have:=stS_stay c (k:=k) (by omega)
    rw [this] at hc
    exact hc c
  · have a:=(stS_mono s1 (show j+1≤k by omega)).1
    have:=t.gt
    grind
theorem hdAt_go {i:Nat} {k:Nat} (h:hdAt fs i (stS fs k)):chA fs (stS fs k).1 (stS fs k).2≠[]:=chA_ne fun z=>by
  have:=hdAt_mem.mp h
  rw [z] at this
  cases this
theorem flows_out (s1:∀ f∈fs,1≤f.2.2.2) {i:Nat} {f:F4} (hf:fs[i]? = some f):∀ (m k:Nat),mu fs (stS fs k).1 (stS fs k).2≤m→hdAt fs i (stS fs k)→∃ k2,k<k2∧(stS fs k2).2=f.2.2.1∧∀ j,k≤j→j<k2→hdAt fs i (stS fs j)
  | m,k,hm,h=>by
    have ne:hdP fs (stS fs k).1 (stS fs k).2≠[]:=fun z=>by
      have:=hdAt_mem.mp h
      rw [z] at this
      cases this
    rcases stS_turn s1 k with ⟨c,_⟩ | ⟨_,t⟩
    · exact absurd c (hdAt_go h)
    have mu1:=turn_mu t
    have le:=t.le ne
    have ge:=t.ge
    have gt:=t.gt
    obtain ⟨g,e,a1,a2,a3⟩:=h
    rw [hf] at e
    cases e
    have lE:lstE fs (stS fs k).1 (stS fs k).2≤f.2.2.1:=by
      refine minL_le (List.mem_map.mpr ⟨i,hdAt_mem.mp ⟨f,hf,a1,a2,a3⟩,?_⟩)
      exact enP_at hf
    by_cases c:(stS fs (k+1)).2=f.2.2.1
    · refine ⟨k+1,by omega,c,fun j h1 h2=>?_⟩
      have:j=k:=by omega
      subst this
      exact ⟨f,hf,a1,a2,a3⟩
    · have hn:hdAt fs i (stS fs (k+1)):=⟨f,hf,by grind,by grind,by grind⟩
      match m,hm with
      | 0,hm=>omega
      | m+1,hm =>
        obtain ⟨k2,h1,h2,h3⟩:=flows_out s1 hf m (k+1) (by omega) hn
        refine ⟨k2,by omega,h2,fun j b1 b2=>?_⟩
        by_cases cj:j=k
        · subst cj; exact ⟨f,hf,a1,a2,a3⟩
        · exact h3 j (by omega) b2
structure Lives (fs:List F4) (i:Nat) (f:F4) (k1 k2:Nat):Prop where
  lt:k1<k2
  hd:∀ k,hdAt fs i (stS fs k)↔k1≤k∧k<k2
  en:(stS fs k2).2=f.2.2.1
  pa:∀ k,f.2.2.1≤(stS fs k).2↔k2≤k
theorem lives_of (s1:∀ f∈fs,1≤f.2.2.2) {i k1:Nat} {f:F4} (hf:fs[i]? = some f) (h:hdAt fs i (stS fs k1)) (no:∀ k,k<k1→¬ hdAt fs i (stS fs k)):∃ k2,Lives fs i f k1 k2:=by
  obtain ⟨k2,h1,h2,h3⟩:=flows_out s1 hf _ k1 (Nat.le_refl _) h
  have past:∀ k,f.2.2.1≤(stS fs k).2↔k2≤k:=fun k=>by
    constructor
    · intro z
      by_cases c:k2≤k
      · exact c
      · exfalso
        obtain ⟨g,e,_,_,a3⟩:=h3 (k2-1) (by omega) (by omega)
        rw [hf] at e
        cases e
        have:=(stS_mono s1 (show k≤k2-1 by omega)).2
        grind
    · intro z
      have:=(stS_mono s1 z).2
      grind
  refine ⟨k2,h1,fun k=>⟨fun hk=>?_,fun hk=>h3 k hk.1 hk.2⟩,h2,past⟩
  refine ⟨?_,?_⟩
  · by_cases c:k1≤k
    · exact c
    · exact absurd hk (no k (by omega))
  · by_cases c:k<k2
    · exact c
    · exfalso
      obtain ⟨g,e,_,_,a3⟩:=hk
      rw [hf] at e
      cases e
      have:=(past k).mpr (by omega)
      grind
end
end Sw
namespace Sw
open L2
section
variable {fs:List F4}
def emit (fs:List F4) (k:Nat):List Sch:=if hdP fs (stS fs k).1 (stS fs k).2 = [] then [] else [((stS fs k).1,(stS fs (k+1)).1,prt fs (stS fs k).1 (stS fs k).2)]
theorem flowF_nil {mo ma:Rat} (h:chA fs mo ma = []):∀ n,flowF fs n mo ma = []
  | 0=>rfl
  | n+1=>by rw [flowF_succ,if_pos h]
theorem flowF_emit (n k:Nat):flowF fs (n+1) (stS fs k).1 (stS fs k).2=emit fs k++flowF fs n (stS fs (k+1)).1 (stS fs (k+1)).2:=by
  rw [flowF_succ]
  unfold emit
  have e:stS fs (k+1)=nxS fs (stS fs k):=rfl
  rw [e]
  generalize stS fs k=s
  by_cases c:chA fs s.1 s.2 = []
  · have h:hdP fs s.1 s.2 = []:=by
      by_cases z:hdP fs s.1 s.2 = []
      · exact z
      · exact absurd c (chA_ne z)
    have en:nxS fs s=s:=by unfold nxS; rw [if_pos c]
    rw [if_pos c,if_pos h,en,flowF_nil c]
    rfl
  · rw [if_neg c]
    by_cases h:hdP fs s.1 s.2 = []
    · have en:nxS fs s=(minL (chA fs s.1 s.2),s.2):=by unfold nxS; rw [if_neg c,if_pos h]
      rw [if_pos h,if_pos h,en]
      rfl
    · have en:nxS fs s=(minL (chA fs s.1 s.2),s.2+(minL (chA fs s.1 s.2)-s.1) / (shP fs (hdP fs s.1 s.2):Rat)):=by unfold nxS; rw [if_neg c,if_neg h]
      rw [if_neg h,if_neg h,en]
      rfl
theorem flowF_app (m:Nat):∀ (n k:Nat),flowF fs (n+m) (stS fs k).1 (stS fs k).2=flowF fs n (stS fs k).1 (stS fs k).2++flowF fs m (stS fs (k+n)).1 (stS fs (k+n)).2
  | 0,k=>by rw [Nat.zero_add]; rfl
  | n+1,k=>by
    rw [show n+1+m=n+m+1 by omega,flowF_emit,flowF_emit,flowF_app m n (k+1),List.append_assoc,show k+1+n=k+(n+1) by omega]
theorem flowF_snoc (n:Nat):flowF fs (n+1) 0 0=flowF fs n 0 0++emit fs n:=by
  have h:=flowF_app (fs:=fs) 1 n 0
  rw [Nat.zero_add] at h
  rw [show flowF fs (n+1) 0 0=flowF fs (n+1) (stS fs 0).1 (stS fs 0).2 from rfl,h,flowF_emit 0 n]
  rw [show flowF fs 0 (stS fs (n+1)).1 (stS fs (n+1)).2 = [] from rfl,List.append_nil]
  rfl
theorem putP_at {en:Int→Option Rat} {e:Rat} {w:Int}:∀ {ps:List (Nat×Rat)},((∃ p∈ps,(p.1:Int)=w)→putP en e ps w=some e)∧((¬ ∃ p∈ps,(p.1:Int)=w)→putP en e ps w=en w):=fun {ps}=>by
  have go:∀ (r:List (Nat×Rat)),(∀ p∈r,(p.1:Int)≠w)→∀ m:Int→Option Rat,putP m e r w=m w:=fun r=>by
    induction r with
    | nil=>intro _ m; rfl
    | cons p r ih =>
      intro h m
      show putP (setE m (p.1:Int) e) e r w = _
      rw [ih (fun x hx=>h x (List.mem_cons_of_mem _ hx))]
      unfold setE
      rw [if_neg (fun z=>h p (by simp) z.symm)]
  refine ⟨?_,fun h=>go ps (fun p hp z=>h ⟨p,hp,z⟩) en⟩
  have any:∀ (r:List (Nat×Rat)),∀ m:Int→Option Rat,m w=some e∨(∃ p∈r,(p.1:Int)=w)→putP m e r w=some e:=fun r=>by
    induction r with
    | nil =>
      intro m h
      rcases h with z | ⟨p,hp,_⟩
      · exact z
      · cases hp
    | cons p r ih =>
      intro m h
      refine ih (setE m (p.1:Int) e) ?_
      unfold setE
      by_cases c:w=(p.1:Int)
      · exact .inl (by rw [if_pos c])
      · rcases h with z | ⟨x,hx,z⟩
        · exact .inl (by rw [if_neg c]; exact z)
        · rcases List.mem_cons.mp hx with y | y
          · subst y; exact absurd z.symm c
          · exact .inr ⟨x,y,z⟩
  exact fun h=>any ps en (.inr h)
theorem ends_at {i k1 k2:Nat} {f:F4} (L:Lives fs i f k1 k2):∀ n,(n≤k1→endsF (flowF fs n 0 0) (i:Int)=none)∧(k1<n→endsF (flowF fs n 0 0) (i:Int)=some (stS fs (min n k2)).1)
  | 0=>⟨fun _=>rfl,fun h=>absurd h (Nat.not_lt_zero _)⟩
  | n+1=>by
    obtain ⟨ih1,ih2⟩:=ends_at L n
    have lt:=L.lt
    have step:endsF (flowF fs (n+1) 0 0) (i:Int)=if k1≤n∧n<k2 then some (stS fs (n+1)).1 else endsF (flowF fs n 0 0) (i:Int):=by
      rw [flowF_snoc]
      unfold emit
      by_cases he:hdP fs (stS fs n).1 (stS fs n).2 = []
      · rw [if_pos he,List.append_nil,if_neg]
        intro z
        have:=hdAt_mem.mp ((L.hd n).mpr z)
        rw [he] at this
        cases this
      · rw [if_neg he,endsF_snoc]
        show putP _ (stS fs (n+1)).1 (prt fs (stS fs n).1 (stS fs n).2) (i:Int) = _
        have iff:(∃ p∈prt fs (stS fs n).1 (stS fs n).2,(p.1:Int)=(i:Int))↔k1≤n∧n<k2:=by
          rw [← L.hd n,hdAt_mem]
          unfold prt
          constructor
          · rintro ⟨p,hp,e⟩
            obtain ⟨j,hj,rfl⟩:=List.mem_map.mp hp
            have : j = i := by have : (j : Int) = (i : Int) := e
                               omega
            rw [← this]; exact hj
          · intro h
            exact ⟨_,List.mem_map.mpr ⟨i,h,rfl⟩,rfl⟩
        by_cases c:k1≤n∧n<k2
        · rw [if_pos c]; exact putP_at.1 (iff.mpr c)
        · rw [if_neg c]; exact putP_at.2 fun z=>c (iff.mp z)
    rw [step]
    refine ⟨fun h=>?_,fun h=>?_⟩
    · rw [if_neg (by omega)]; exact ih1 (by omega)
    · by_cases c:n<k2
      · rw [if_pos ⟨by omega,c⟩,show min (n+1) k2=n+1 by omega]
      · rw [if_neg (by omega),ih2 (by omega),show min n k2=min (n+1) k2 by omega]
theorem steps_le (s1:∀ f∈fs,1≤f.2.2.2):∀ {k:Nat},chA fs (stS fs k).1 (stS fs k).2≠[]→k+mu fs (stS fs k).1 (stS fs k).2≤mu fs 0 0
  | 0,_=>by show 0+mu fs 0 0≤_; omega
  | k+1,h=>by
    rcases stS_turn s1 k with ⟨c,e⟩ | ⟨c,t⟩
    · rw [e] at h; exact absurd c h
    · have:=steps_le s1 c
      have:=turn_mu t
      omega
theorem Lives.le {i k1 k2 n:Nat} {f:F4} (s1:∀ f∈fs,1≤f.2.2.2) (ln:fs.length≤n) (L:Lives fs i f k1 k2):k2≤2*n+1:=by
  have lt:=L.lt
  have h:=(L.hd (k2-1)).mpr ⟨by omega,by omega⟩
  have:=steps_le s1 (hdAt_go h)
  have:=mu0 ln 0 0
  omega
end
structure Span (n:Nat) (qs:List Q4) (i:Nat) (k1 k2:Nat):Prop where
  ex:∃ f,(fsOf qs (Ti.nil.tags qs))[i]? = some f∧Lives (fsOf qs (Ti.nil.tags qs)) i f k1 k2
  en:endsF (flowF (fsOf qs (Ti.nil.tags qs)) (2*n+1) 0 0) (i:Int)=some (stS (fsOf qs (Ti.nil.tags qs)) k2).1
  be:∀ q,qs[i]? = some q→begF (aheadF (endsF (flowF (fsOf qs (Ti.nil.tags qs)) (2*n+1) 0 0)) 0 (fun _=>none) (qs.take i)) q=(stS (fsOf qs (Ti.nil.tags qs)) k1).1
def Rel (n:Nat) (qs:List Q4) (i:Nat) (w:Int):Prop :=
  ((Ti.nil.after (qs.take i)).en w=none∧aheadF (endsF (flowF (fsOf qs (Ti.nil.tags qs)) (2*n+1) 0 0)) 0 (fun _=>none) (qs.take i) w=none) ∨
  ∃ e k2,(Ti.nil.after (qs.take i)).en w=some e∧(stS (fsOf qs (Ti.nil.tags qs)) k2).2=e∧(∀ k,e≤(stS (fsOf qs (Ti.nil.tags qs)) k).2↔k2≤k)∧aheadF (endsF (flowF (fsOf qs (Ti.nil.tags qs)) (2*n+1) 0 0)) 0 (fun _=>none) (qs.take i) w=some (stS (fsOf qs (Ti.nil.tags qs)) k2).1
theorem Good.step {n:Nat} {M:Int} {a c:Nat} {qs:List Q4} (g:Good n M a c qs) {i:Nat} {q:Q4} (e:qs[i]? = some q) (rel:∀ w,Rel n qs i w):(∃ k1 k2,Span n qs i k1 k2)∧∀ w,Rel n qs (i+1) w:=by
  have hi:=(List.getElem?_eq_some_iff.mp e).1
  obtain ⟨D0,ok⟩:=fs_ok g.F g.ln g.pc g.pw
  have s1:=ok.s1
  have ln:(fsOf qs (Ti.nil.tags qs)).length≤n:=by rw [fsOf_len Ti.tags_len]; exact g.ln
  obtain ⟨D,r⟩:=g.run (i:=i) (by omega)
  have lt:=lat_to (s:=Ti.nil) (fun q h=>(g.pc q h).1) g.pw e
  obtain ⟨D',j,_,_,_,_,_,_,bf,_⟩:=r.come g.F (by have:=g.ln; omega) (g.pc q (List.mem_of_getElem? e)) lt
  have ht:(Ti.nil.tags qs)[i]? = some ((Ti.nil.after (qs.take i)).beg q,(Ti.nil.after (qs.take i)).fin q):=by
    have h1:((Ti.nil.tags qs).take (i+1))[i]? = (Ti.nil.tags qs)[i]?:=by rw [List.getElem?_take,if_pos (by omega)]
    rw [← h1,← tags_take,L2.take_succ_of e,Ti.tags_snoc]
    have l:(Ti.nil.tags (qs.take i)).length=i:=by rw [Ti.tags_len,List.length_take]; omega
    rw [List.getElem?_append_right (by omega),l,Nat.sub_self]
    rfl
  have hf:=fsOf_get e ht
  obtain ⟨kc,hkc⟩:=g.at_coming (i:=i+1) (by omega)
  have hkc:stS (fsOf qs (Ti.nil.tags qs)) kc=((q.1:Rat),(Ti.nil.after (qs.take i)).rv q):=by
    rw [hkc,L2.take_succ_of e,Ti.after_snoc]
    rfl
  have a0:((0:Int):Rat)≤(q.1:Rat):=Rat.intCast_le_intCast.mpr (g.pc q (List.mem_of_getElem? e)).1
  have a0:(0:Rat)≤(q.1:Rat):=a0
  have itk:(qs.take i).length=i:=by rw [List.length_take]; omega
  have e2:=aheadF_snoc (en:=endsF (flowF (fsOf qs (Ti.nil.tags qs)) (2*n+1) 0 0)) (i:=0) (ah:=fun _=>none) (l:=qs.take i) (q:=q)
  rw [itk,Nat.zero_add] at e2
  have ebeg:(Ti.nil.after (qs.take i)).beg q=max ((Ti.nil.after (qs.take i)).rv q) (((Ti.nil.after (qs.take i)).en q.2.1).getD ((Ti.nil.after (qs.take i)).rv q)):=rfl
  have rl:=rel q.2.1
  have born:∃ k1,hdAt (fsOf qs (Ti.nil.tags qs)) i (stS (fsOf qs (Ti.nil.tags qs)) k1)∧(∀ k,k<k1→¬ hdAt (fsOf qs (Ti.nil.tags qs)) i (stS (fsOf qs (Ti.nil.tags qs)) k))∧begF (aheadF (endsF (flowF (fsOf qs (Ti.nil.tags qs)) (2*n+1) 0 0)) 0 (fun _=>none) (qs.take i)) q=(stS (fsOf qs (Ti.nil.tags qs)) k1).1:=by
    have first:(Ti.nil.after (qs.take i)).beg q=(Ti.nil.after (qs.take i)).rv q→hdAt (fsOf qs (Ti.nil.tags qs)) i (stS (fsOf qs (Ti.nil.tags qs)) kc)∧∀ k,k<kc→¬ hdAt (fsOf qs (Ti.nil.tags qs)) i (stS (fsOf qs (Ti.nil.tags qs)) k):=fun eb=>by
      have hh:hdAt (fsOf qs (Ti.nil.tags qs)) i (stS (fsOf qs (Ti.nil.tags qs)) kc):=by
        refine ⟨_,hf,?_,?_,?_⟩
        · rw [hkc]; exact Rat.le_refl
        · rw [hkc]
          show (Ti.nil.after (qs.take i)).beg q≤(Ti.nil.after (qs.take i)).rv q
          grind
        · rw [hkc]
          show (Ti.nil.after (qs.take i)).rv q<(Ti.nil.after (qs.take i)).fin q
          grind
      refine ⟨hh,fun k hk z=>?_⟩
      have:=stS_lt s1 hk (hdAt_go hh)
      rw [hkc] at this
      obtain ⟨g',eg,z1,_⟩:=z
      rw [hf] at eg
      cases eg
      have z1:(q.1:Rat)≤(stS (fsOf qs (Ti.nil.tags qs)) k).1:=z1
      have this:(stS (fsOf qs (Ti.nil.tags qs)) k).1<(q.1:Rat):=this
      grind
    rcases rl with ⟨r1,r2⟩ | ⟨et,k2,r1,r2,r3,r4⟩
    · have eb:(Ti.nil.after (qs.take i)).beg q=(Ti.nil.after (qs.take i)).rv q:=by
        rw [ebeg,r1,Rat.max_def]
        simp
      obtain ⟨f1,f2⟩:=first eb
      refine ⟨kc,f1,f2,?_⟩
      unfold begF
      rw [r2,hkc,Rat.max_def]
      show (if (q.1:Rat)≤0 then (0:Rat) else (q.1:Rat))=(q.1:Rat)
      split <;> grind
    · by_cases c:et≤(Ti.nil.after (qs.take i)).rv q
      · have eb:(Ti.nil.after (qs.take i)).beg q=(Ti.nil.after (qs.take i)).rv q:=by
          rw [ebeg,r1,Rat.max_def]
          show (if (Ti.nil.after (qs.take i)).rv q≤et then et else (Ti.nil.after (qs.take i)).rv q) = _
          split <;> grind
        obtain ⟨f1,f2⟩:=first eb
        refine ⟨kc,f1,f2,?_⟩
        have hk:=(r3 kc).mp (by rw [hkc]; exact c)
        have le:=(stS_mono s1 hk).1
        rw [hkc] at le ⊢
        unfold begF
        rw [r4,Rat.max_def]
        show (if (q.1:Rat)≤(stS (fsOf qs (Ti.nil.tags qs)) k2).1 then (stS (fsOf qs (Ti.nil.tags qs)) k2).1 else (q.1:Rat))=(q.1:Rat)
        have le:(stS (fsOf qs (Ti.nil.tags qs)) k2).1≤(q.1:Rat):=le
        split <;> grind
      · have eb:(Ti.nil.after (qs.take i)).beg q=et:=by
          rw [ebeg,r1,Rat.max_def]
          show (if (Ti.nil.after (qs.take i)).rv q≤et then et else (Ti.nil.after (qs.take i)).rv q) = _
          split <;> grind
        have hk:kc<k2:=by
          by_cases z:k2≤kc
          · exfalso
            have:=(r3 kc).mpr z
            rw [hkc] at this
            exact c this
          · omega
        have le:=(stS_mono s1 (show kc≤k2 by omega)).1
        rw [hkc] at le
        have le:(q.1:Rat)≤(stS (fsOf qs (Ti.nil.tags qs)) k2).1:=le
        refine ⟨k2,⟨_,hf,le,?_,?_⟩,fun k hk2 z=>?_,?_⟩
        · rw [r2]
          show (Ti.nil.after (qs.take i)).beg q≤et
          rw [eb]; exact Rat.le_refl
        · rw [r2]
          show et<(Ti.nil.after (qs.take i)).fin q
          rw [← eb]; exact bf
        · obtain ⟨g',eg,_,z2,_⟩:=z
          rw [hf] at eg
          cases eg
          have z2:(Ti.nil.after (qs.take i)).beg q≤(stS (fsOf qs (Ti.nil.tags qs)) k).2:=z2
          rw [eb] at z2
          have:=(r3 k).mp z2
          omega
        · unfold begF
          rw [r4,Rat.max_def]
          show (if (q.1:Rat)≤(stS (fsOf qs (Ti.nil.tags qs)) k2).1 then (stS (fsOf qs (Ti.nil.tags qs)) k2).1 else (q.1:Rat)) = _
          rw [if_pos le]
  obtain ⟨k1,b1,b2,b3⟩:=born
  obtain ⟨k2,L⟩:=lives_of s1 hf b1 b2
  have lt2:=L.lt
  have le2:=L.le s1 ln
  have en:endsF (flowF (fsOf qs (Ti.nil.tags qs)) (2*n+1) 0 0) (i:Int)=some (stS (fsOf qs (Ti.nil.tags qs)) k2).1:=by
    have:=(ends_at L (2*n+1)).2 (by omega)
    rw [show min (2*n+1) k2=k2 by omega] at this
    exact this
  refine ⟨⟨k1,k2,⟨_,hf,L⟩,en,fun q' e'=>?_⟩,fun w=>?_⟩
  · rw [e] at e'
    cases e'
    exact b3
  · unfold Rel
    rw [L2.take_succ_of e,Ti.after_snoc,e2,en]
    show ((setE (Ti.nil.after (qs.take i)).en q.2.1 ((Ti.nil.after (qs.take i)).fin q) w=none∧_)∨_)
    by_cases c:w=q.2.1
    · refine .inr ⟨(Ti.nil.after (qs.take i)).fin q,k2,?_,L.en,L.pa,?_⟩
      · show setE (Ti.nil.after (qs.take i)).en q.2.1 ((Ti.nil.after (qs.take i)).fin q) w = _
        unfold setE
        rw [if_pos c]
      · unfold setE
        rw [if_pos c]
        rfl
    · have h1:setE (Ti.nil.after (qs.take i)).en q.2.1 ((Ti.nil.after (qs.take i)).fin q) w=(Ti.nil.after (qs.take i)).en w:=by unfold setE; rw [if_neg c]
      rcases rel w with ⟨r1,r2⟩ | ⟨et,k',r1,r2,r3,r4⟩
      · refine .inl ⟨by rw [h1]; exact r1,?_⟩
        unfold setE
        rw [if_neg c]; exact r2
      · refine .inr ⟨et,k',by show setE _ _ _ w = _; rw [h1]; exact r1,r2,r3,?_⟩
        unfold setE
        rw [if_neg c]; exact r4
theorem Good.rel {n:Nat} {M:Int} {a c:Nat} {qs:List Q4} (g:Good n M a c qs):∀ {i:Nat},i≤qs.length→∀ w,Rel n qs i w
  | 0,_,w=>.inl ⟨rfl,rfl⟩
  | i+1,hi,w=>(g.step (List.getElem?_eq_getElem (show i<qs.length by omega)) (g.rel (i:=i) (by omega))).2 w
theorem Good.span {n:Nat} {M:Int} {a c:Nat} {qs:List Q4} (g:Good n M a c qs) {i:Nat} (hi:i<qs.length):∃ k1 k2,Span n qs i k1 k2:=(g.step (List.getElem?_eq_getElem hi) (g.rel (i:=i) (by omega))).1
end Sw
namespace Sw
open L2
end Sw
namespace L2
open PySem PySem.Spec PyProof.Rows
section
variable {X:Cx}
end
end L2
namespace Sw
open L2
section
variable {fs:List F4}
end
theorem Good.coming {n:Nat} {M:Int} {a c:Nat} {qs:List Q4} (g:Good n M a c qs) {i:Nat} {q:Q4} (e:qs[i]? = some q):∃ k,stS (fsOf qs (Ti.nil.tags qs)) k=((q.1:Rat),(Ti.nil.after (qs.take i)).rv q):=by
  have hi:=(List.getElem?_eq_some_iff.mp e).1
  obtain ⟨k,hk⟩:=g.at_coming (i:=i+1) (by omega)
  exact ⟨k,by rw [hk,L2.take_succ_of e,Ti.after_snoc]; rfl⟩
theorem spansF_take {en:Int→Option Rat}:∀ {l:List Q4} {i j:Nat} {ah:Int→Option Rat},spansF en i ah (l.take j)=(spansF en i ah l).take j
  | _,_,0,_=>by simp [spansF]
  | [],_,_ + 1,_=>rfl
  | q :: r,i,j+1,ah=>by
    show _ :: spansF en (i+1) _ (r.take j) = _
    rw [spansF_take]
    rfl
theorem Good.both {n:Nat} {M:Int} {a c:Nat} {qs:List Q4} (g:Good n M a c qs) {i:Nat} {q:Q4} (e:qs[i]? = some q) :
    ∃ (t u:Rat×Rat) (k1 k2:Nat),(Ti.nil.tags qs)[i]? = some t∧(spansF (endsF (flowF (fsOf qs (Ti.nil.tags qs)) (2*n+1) 0 0)) 0 (fun _=>none) qs)[i]? = some u∧(fsOf qs (Ti.nil.tags qs))[i]? = some (q.1,t.1,t.2,q.2.2.2)∧Lives (fsOf qs (Ti.nil.tags qs)) i (q.1,t.1,t.2,q.2.2.2) k1 k2∧u=((stS (fsOf qs (Ti.nil.tags qs)) k1).1,(stS (fsOf qs (Ti.nil.tags qs)) k2).1):=by
  have hi:=(List.getElem?_eq_some_iff.mp e).1
  obtain ⟨k1,k2,S⟩:=g.span hi
  obtain ⟨f,hf,L⟩:=S.ex
  have htl:i<(Ti.nil.tags qs).length:=by rw [Ti.tags_len]; exact hi
  have ht:(Ti.nil.tags qs)[i]? = some ((Ti.nil.tags qs)[i]'htl):=List.getElem?_eq_getElem _
  have hf':=fsOf_get e ht
  rw [hf'] at hf
  cases hf
  have itk:(qs.take i).length=i:=by rw [List.length_take]; omega
  have e1:=spansF_snoc (en:=endsF (flowF (fsOf qs (Ti.nil.tags qs)) (2*n+1) 0 0)) (i:=0) (ah:=fun _=>none) (l:=qs.take i) (q:=q)
  rw [itk,Nat.zero_add,S.en,S.be q e] at e1
  refine ⟨_,_,k1,k2,ht,?_,hf',L,rfl⟩
  have h1:((spansF (endsF (flowF (fsOf qs (Ti.nil.tags qs)) (2*n+1) 0 0)) 0 (fun _=>none) qs).take (i+1))[i]? = (spansF (endsF (flowF (fsOf qs (Ti.nil.tags qs)) (2*n+1) 0 0)) 0 (fun _=>none) qs)[i]?:=by rw [List.getElem?_take,if_pos (by omega)]
  rw [← h1,← spansF_take,L2.take_succ_of e,e1]
  have l0:(spansF (endsF (flowF (fsOf qs (Ti.nil.tags qs)) (2*n+1) 0 0)) 0 (fun _=>none) (qs.take i)).length=i:=by rw [spansF_len,itk]
  rw [List.getElem?_append_right (by omega),l0,Nat.sub_self]
  rfl
theorem pw_le {qs:List Q4} (h:qs.Pairwise (fun a b=>a.1≤b.1)) {i j:Nat} {p q:Q4} (hij:j<i) (ei:qs[i]? = some q) (ej:qs[j]? = some p):p.1≤q.1:=by
  obtain ⟨hi,rfl⟩:=List.getElem?_eq_some_iff.mp ei
  obtain ⟨hj,rfl⟩:=List.getElem?_eq_some_iff.mp ej
  exact List.pairwise_iff_getElem.mp h j i hj hi hij
end Sw
namespace Sw
open L2
section
variable {fs:List F4}
def ms (fs:List F4) (k:Nat) (t:Rat):Rat:=if hdP fs (stS fs k).1 (stS fs k).2 = [] then (stS fs k).2 else (stS fs k).2+(t-(stS fs k).1) / (shP fs (hdP fs (stS fs k).1 (stS fs k).2):Rat)
structure In (fs:List F4) (k:Nat) (t:Rat):Prop where
  ge:(stS fs k).1≤t
  le:chA fs (stS fs k).1 (stS fs k).2≠[]→t≤(stS fs (k+1)).1
theorem ms_at (k:Nat):ms fs k (stS fs k).1=(stS fs k).2:=by
  unfold ms
  split
  · rfl
  · have:((stS fs k).1-(stS fs k).1) / (shP fs (hdP fs (stS fs k).1 (stS fs k).2):Rat) = 0:=by grind
    rw [this]; grind
theorem nx_eq {k:Nat} (h:chA fs (stS fs k).1 (stS fs k).2≠[]):(stS fs (k+1)).1=minL (chA fs (stS fs k).1 (stS fs k).2):=by
  show (nxS fs (stS fs k)).1 = _
  unfold nxS
  rw [if_neg h]
  split <;> rfl
theorem ms_nx {k:Nat} (h:chA fs (stS fs k).1 (stS fs k).2≠[]):ms fs k (stS fs (k+1)).1=(stS fs (k+1)).2:=by
  have e:stS fs (k+1)=nxS fs (stS fs k):=rfl
  unfold ms
  rw [e]
  unfold nxS
  rw [if_neg h]
  split <;> rfl
theorem div_mono {S x y:Rat} (S0:0<S) (h:x≤y):x / S≤y / S:=by
  have:¬ y / S<x / S:=by
    rw [Rat.div_lt_iff S0]
    have : x / S * S = x := by have : S ≠ 0 := by grind
                               grind
    rw [this]; grind
  grind
theorem div_lt {S x y:Rat} (S0:0<S) (h:x<y):x / S<y / S:=by
  rw [Rat.div_lt_iff S0]
  have : y / S * S = y := by have : S ≠ 0 := by grind
                             grind
  rw [this]; exact h
theorem ms_mono (s1:∀ f∈fs,1≤f.2.2.2) (k:Nat) {t u:Rat} (h:t≤u):ms fs k t≤ms fs k u:=by
  unfold ms
  by_cases c:hdP fs (stS fs k).1 (stS fs k).2 = []
  · rw [if_pos c,if_pos c]; exact Rat.le_refl
  · rw [if_neg c,if_neg c]
    have:=shP_pos s1 c
    have:=div_mono (q_cast_pos (show 0<shP fs (hdP fs (stS fs k).1 (stS fs k).2) by omega)) (show t-(stS fs k).1≤u-(stS fs k).1 by grind)
    grind
theorem ms_lt (s1:∀ f∈fs,1≤f.2.2.2) {k:Nat} (c:hdP fs (stS fs k).1 (stS fs k).2≠[]) {t u:Rat} (h:t<u):ms fs k t<ms fs k u:=by
  unfold ms
  rw [if_neg c,if_neg c]
  have:=shP_pos s1 c
  have:=div_lt (q_cast_pos (show 0<shP fs (hdP fs (stS fs k).1 (stS fs k).2) by omega)) (show t-(stS fs k).1<u-(stS fs k).1 by grind)
  grind
theorem In.ma_le (s1:∀ f∈fs,1≤f.2.2.2) {k:Nat} {t:Rat} (i:In fs k t):(stS fs k).2≤ms fs k t:=by
  rw [← ms_at]
  exact ms_mono s1 k i.ge
theorem In.le_ma (s1:∀ f∈fs,1≤f.2.2.2) {k:Nat} {t:Rat} (i:In fs k t):ms fs k t≤(stS fs (k+1)).2:=by
  by_cases c:chA fs (stS fs k).1 (stS fs k).2 = []
  · have:hdP fs (stS fs k).1 (stS fs k).2 = []:=by
      by_cases z:hdP fs (stS fs k).1 (stS fs k).2 = []
      · exact z
      · exact absurd c (chA_ne z)
    unfold ms
    rw [if_pos this]
    exact (stS_le s1 k).2
  · rw [← ms_nx c]
    exact ms_mono s1 k (i.le c)
theorem In.ma_lt (s1:∀ f∈fs,1≤f.2.2.2) {k:Nat} {t:Rat} (c:hdP fs (stS fs k).1 (stS fs k).2≠[]) (h:t<(stS fs (k+1)).1):ms fs k t<(stS fs (k+1)).2:=by
  rw [← ms_nx (chA_ne c)]
  exact ms_lt s1 c h
theorem nx_le {k:Nat} {x:Rat} (h:x∈chA fs (stS fs k).1 (stS fs k).2):(stS fs (k+1)).1≤x:=by
  rw [nx_eq (fun z=>by rw [z] at h; cases h)]
  exact minL_le h
theorem ma_of_mo (s1:∀ f∈fs,1≤f.2.2.2) {j k:Nat} (h:(stS fs j).1≤(stS fs k).1):(stS fs j).2≤(stS fs k).2:=by
  by_cases c:j≤k
  · exact (stS_mono s1 c).2
  · rcases stS_turn s1 k with ⟨z,_⟩ | ⟨_,t⟩
    · rw [stS_stay z (show k≤j by omega)]; exact Rat.le_refl
    · exfalso
      have:=t.gt
      have:=(stS_mono s1 (show k+1≤j by omega)).1
      grind
def dn (f:F4) (m:Rat):Rat:=max f.2.1 (min m f.2.2.1)-f.2.1
end
structure Run (fs:List F4) (w:Nat→Int):Prop where
  s1:∀ f∈fs,1≤f.2.2.2
  live:∀ (i:Nat) (f:F4),fs[i]? = some f→∃ k1 k2,Lives fs i f k1 k2
  bt:∀ (i:Nat) (f:F4),fs[i]? = some f→f.2.1<f.2.2.1
  cm:∀ (i:Nat) (f:F4),fs[i]? = some f→∃ k,(stS fs k).1=(f.1:Rat)∧(stS fs k).2≤f.2.1∧((stS fs k).2=f.2.1∨∃ (j:Nat) (g:F4),j<i∧w j=w i∧fs[j]? = some g∧g.2.2.1=f.2.1)
  pr:∀ (i j:Nat) (f g:F4),j<i→w j=w i→fs[i]? = some f→fs[j]? = some g→g.2.2.1≤f.2.1
  so:∀ (i j:Nat) (f g:F4),j<i→fs[i]? = some f→fs[j]? = some g→g.1≤f.1
section
variable {fs:List F4} {w:Nat→Int}
theorem Run.born (R:Run fs w) {i k1 k2:Nat} {f:F4} (hf:fs[i]? = some f) (L:Lives fs i f k1 k2):(stS fs k1).2=f.2.1∧((stS fs k1).1=(f.1:Rat)∨∃ (j:Nat) (g:F4) (l1 l2:Nat),j<i∧w j=w i∧fs[j]? = some g∧Lives fs j g l1 l2∧k1≤l2):=by
  have s1:=R.s1
  have lt:=L.lt
  have h1:=(L.hd k1).mpr ⟨Nat.le_refl _,lt⟩
  have go1:=hdAt_go h1
  obtain ⟨g1,e1,a1,a2,a3⟩:=h1
  rw [hf] at e1
  cases e1
  have bt:=R.bt i f hf
  obtain ⟨kc,c1,c2,c3⟩:=R.cm i f hf
  rcases c3 with c3 | ⟨j,g,hj,hw,hg,eg⟩
  · have hk:hdAt fs i (stS fs kc):=⟨f,hf,by rw [c1]; exact Rat.le_refl,by rw [c3]; exact Rat.le_refl,by rw [c3]; exact bt⟩
    have:=((L.hd kc).mp hk).1
    have:k1=kc:=by
      by_cases z:k1=kc
      · exact z
      · exfalso
        have:=stS_lt s1 (show k1<kc by omega) (hdAt_go hk)
        grind
    subst this
    exact ⟨c3,.inl c1⟩
  · obtain ⟨l1,l2,M⟩:=R.live j g hg
    have en:=M.en
    by_cases z:g.2.2.1≤(stS fs kc).2
    · have c3:(stS fs kc).2=f.2.1:=by grind
      have hk:hdAt fs i (stS fs kc):=⟨f,hf,by rw [c1]; exact Rat.le_refl,by rw [c3]; exact Rat.le_refl,by rw [c3]; exact bt⟩
      have:=((L.hd kc).mp hk).1
      have:k1=kc:=by
        by_cases z:k1=kc
        · exact z
        · exfalso
          have:=stS_lt s1 (show k1<kc by omega) (hdAt_go hk)
          grind
      subst this
      exact ⟨c3,.inl c1⟩
    · have hk:kc<l2:=by
        by_cases y:l2≤kc
        · exact absurd ((M.pa kc).mpr y) z
        · omega
      have mo:=(stS_mono s1 (show kc≤l2 by omega)).1
      have hh:hdAt fs i (stS fs l2):=⟨f,hf,by rw [← c1]; exact mo,by rw [en,eg]; exact Rat.le_refl,by rw [en,eg]; exact bt⟩
      have le:=((L.hd l2).mp hh).1
      have:=(stS_mono s1 le).2
      exact ⟨by grind,.inr ⟨j,g,l1,l2,hj,hw,hg,M,le⟩⟩
end
end Sw
namespace Sw
open L2
section
variable {fs fs':List F4} {w w':Nat→Int} {κ:Nat→Nat}
end
end Sw
namespace Sw
open L2
def whoAt (qs:List Q4) (i:Nat):Int:=((qs[i]?).map fun q=>q.2.1).getD 0
theorem whoAt_of {qs:List Q4} {i:Nat} {q:Q4} (e:qs[i]? = some q):whoAt qs i=q.2.1:=by unfold whoAt; rw [e]; rfl
theorem tag_at {qs:List Q4} {i:Nat} {q:Q4} (e:qs[i]? = some q):(Ti.nil.tags qs)[i]? = some ((Ti.nil.after (qs.take i)).beg q,(Ti.nil.after (qs.take i)).fin q):=by
  have hi:=(List.getElem?_eq_some_iff.mp e).1
  have h1:((Ti.nil.tags qs).take (i+1))[i]? = (Ti.nil.tags qs)[i]?:=by rw [List.getElem?_take,if_pos (by omega)]
  have l0:(Ti.nil.tags (qs.take i)).length=i:=by rw [Ti.tags_len,List.length_take]; omega
  rw [← h1,← tags_take,L2.take_succ_of e,Ti.tags_snoc,List.getElem?_append_right (by omega),l0,Nat.sub_self]
  rfl
theorem len_pos {M:Int} {q:Q4} (h:PcOk M q):(0:Rat)<(q.2.2.1:Rat) / (q.2.2.2:Rat):=by
  obtain ⟨_,_,h1,_,h2,_⟩:=h
  have:=div_lt (q_cast_pos (show 0<q.2.2.2 by omega)) (q_cast_pos (show 0<q.2.2.1 by omega))
  have e:(0:Rat) / (q.2.2.2:Rat) = 0:=by grind
  rw [e] at this
  exact this
theorem beg_ge (s:Ti) (q:Q4):s.rv q≤s.beg q∧∀ e,s.en q.2.1=some e→e≤s.beg q:=by
  unfold Ti.beg begOn
  refine ⟨?_,fun e h=>?_⟩
  · rw [Rat.max_def]; split <;> grind
  · rw [h,Option.getD_some,Rat.max_def]; split <;> grind
theorem beg_is (s:Ti) (q:Q4):s.beg q=s.rv q∨s.en q.2.1=some (s.beg q):=by
  unfold Ti.beg begOn
  cases h:s.en q.2.1 with
  | none=>left; rw [Option.getD_none,Rat.max_def]; split <;> rfl
  | some e =>
    rw [Option.getD_some,Rat.max_def]
    split
    · right; rfl
    · left; rfl
theorem Good.en_at {n:Nat} {M:Int} {a c:Nat} {qs:List Q4} (g:Good n M a c qs):∀ {i:Nat},i≤qs.length→∀ w:Int,
    (∀ e,(Ti.nil.after (qs.take i)).en w=some e→∃ (j:Nat) (t:Rat×Rat),j<i∧whoAt qs j=w∧(Ti.nil.tags qs)[j]? = some t∧t.2=e) ∧
    ∀ (j:Nat) (t:Rat×Rat),j<i→whoAt qs j=w→(Ti.nil.tags qs)[j]? = some t→∃ e,(Ti.nil.after (qs.take i)).en w=some e∧t.2≤e
  | 0,_,w=>⟨(fun e h=>by cases h),fun j t h=>absurd h (Nat.not_lt_zero _)⟩
  | i+1,hi,w=>by
    have e:qs[i]? = some (qs[i]'(by omega)):=List.getElem?_eq_getElem _
    have pc:=g.pc _ (List.mem_of_getElem? e)
    generalize qs[i]'(by omega)=q at e pc
    obtain ⟨h1,h2⟩:=g.en_at (i:=i) (by omega) w
    have ht:=tag_at e
    have hw:=whoAt_of e
    rw [L2.take_succ_of e,Ti.after_snoc]
    show (∀ e,setE (Ti.nil.after (qs.take i)).en q.2.1 ((Ti.nil.after (qs.take i)).fin q) w=some e→_)∧(∀ j t,_→_→_→∃ e,setE (Ti.nil.after (qs.take i)).en q.2.1 ((Ti.nil.after (qs.take i)).fin q) w=some e∧_)
    unfold setE
    by_cases cw:w=q.2.1
    · rw [if_pos cw]
      refine ⟨fun e' he=>⟨i,_,by omega,by rw [hw,cw],ht,by cases he; rfl⟩,fun j t hj hwj htj=>⟨_,rfl,?_⟩⟩
      by_cases cj:j=i
      · subst cj
        rw [ht] at htj
        cases htj
        exact Rat.le_refl
      · obtain ⟨e0,he0,le0⟩:=h2 j t (by omega) hwj htj
        have:=(beg_ge (Ti.nil.after (qs.take i)) q).2 e0 (by rw [← cw]; exact he0)
        have:=len_pos pc
        show t.2≤(Ti.nil.after (qs.take i)).beg q + _
        grind
    · rw [if_neg cw]
      refine ⟨fun e' he=>?_,fun j t hj hwj htj=>?_⟩
      · obtain ⟨j,t,hj,r⟩:=h1 e' he
        exact ⟨j,t,by omega,r⟩
      · by_cases cj:j=i
        · subst cj
          exact absurd (hwj.symm.trans hw) cw
        · exact h2 j t (by omega) hwj htj
theorem Good.fs_at {n:Nat} {M:Int} {a c:Nat} {qs:List Q4} (_:Good n M a c qs) {i:Nat} {f:F4} (h:(fsOf qs (Ti.nil.tags qs))[i]? = some f):∃ q,qs[i]? = some q∧f=(q.1,(Ti.nil.after (qs.take i)).beg q,(Ti.nil.after (qs.take i)).fin q,q.2.2.2):=by
  have hi:=(List.getElem?_eq_some_iff.mp h).1
  rw [fsOf_len Ti.tags_len] at hi
  have e:qs[i]? = some (qs[i]'hi):=List.getElem?_eq_getElem _
  have:=fsOf_get e (tag_at e)
  rw [h] at this
  cases this
  exact ⟨_,e,rfl⟩
theorem Good.runs {n:Nat} {M:Int} {a c:Nat} {qs:List Q4} (g:Good n M a c qs):Run (fsOf qs (Ti.nil.tags qs)) (whoAt qs):=by
  obtain ⟨D0,ok⟩:=fs_ok g.F g.ln g.pc g.pw
  refine ⟨ok.s1,fun i f h=>?_,fun i f h=>?_,fun i f h=>?_,fun i j f f2 hj hw h h2=>?_,fun i j f f2 hj h h2=>?_⟩
  · obtain ⟨q,e,rfl⟩:=g.fs_at h
    obtain ⟨t,u,k1,k2,h1,_,hf,L,_⟩:=g.both e
    rw [tag_at e] at h1
    cases h1
    exact ⟨k1,k2,L⟩
  · obtain ⟨q,e,rfl⟩:=g.fs_at h
    have:=len_pos (g.pc _ (List.mem_of_getElem? e))
    show (Ti.nil.after (qs.take i)).beg q<(Ti.nil.after (qs.take i)).beg q + _
    grind
  · obtain ⟨q,e,rfl⟩:=g.fs_at h
    have hi:=(List.getElem?_eq_some_iff.mp e).1
    obtain ⟨k,hk⟩:=g.coming e
    refine ⟨k,by rw [hk],by rw [hk]; exact (beg_ge _ _).1,?_⟩
    rw [hk]
    rcases beg_is (Ti.nil.after (qs.take i)) q with z | z
    · exact .inl z.symm
    · obtain ⟨j,t,hj,hw,ht,et⟩:=(g.en_at (i:=i) (by omega) q.2.1).1 _ z
      have ej:qs[j]? = some (qs[j]'(by omega)):=List.getElem?_eq_getElem _
      exact .inr ⟨j,_,hj,by rw [hw,whoAt_of e],fsOf_get ej ht,et⟩
  · obtain ⟨q,e,rfl⟩:=g.fs_at h
    obtain ⟨q2,e2,rfl⟩:=g.fs_at h2
    have hi:=(List.getElem?_eq_some_iff.mp e).1
    obtain ⟨en,h3,h4⟩:=(g.en_at (i:=i) (by omega) q.2.1).2 j _ hj (by rw [hw,whoAt_of e]) (tag_at e2)
    have:=(beg_ge (Ti.nil.after (qs.take i)) q).2 en h3
    show (Ti.nil.after (qs.take j)).fin q2≤(Ti.nil.after (qs.take i)).beg q
    grind
  · obtain ⟨q,e,rfl⟩:=g.fs_at h
    obtain ⟨q2,e2,rfl⟩:=g.fs_at h2
    exact pw_le g.pw hj e e2
end Sw
namespace Sw
open L2
abbrev S3:=Int×Int×Rat
def tq:List Rat→Rat
  | []=>0
  | x :: r=>x+tq r
theorem tq_app:∀ (a b:List Rat),tq (a++b)=tq a+tq b
  | [],b=>by show tq b = 0+tq b; grind
  | x :: r,b=>by show x+tq (r++b)=x+tq r+tq b; rw [tq_app r b]; grind
theorem tq_snoc (a:List Rat) (x:Rat):tq (a++[x])=tq a+x:=by rw [tq_app]; show tq a+(x+0) = _; grind
theorem tq_sub (f g:Nat→Rat):∀ l:List Nat,tq (l.map fun i=>f i-g i)=tq (l.map f)-tq (l.map g)
  | []=>by show (0:Rat) = 0-0; grind
  | x :: r=>by
    have ih:=tq_sub f g r
    show f x-g x+tq (r.map fun i=>f i-g i)=f x+tq (r.map f)-(g x+tq (r.map g))
    rw [ih]; grind
theorem tq_pos:∀ {l:List Rat},(∀ x∈l,0≤x)→0≤tq l
  | [],_=>Rat.le_refl
  | x :: r,h=>by
    have:=tq_pos (l:=r) fun y hy=>h y (List.mem_cons_of_mem _ hy)
    have:=h x (by simp)
    show 0≤x+tq r
    grind
theorem tq_one:∀ {l:List Rat},(∀ x∈l,0≤x)→∀ {x:Rat},x∈l→x≤tq l
  | [],_,_,h=>by cases h
  | y :: r,h,x,hx=>by
    have h0:=tq_pos (l:=r) fun y hy=>h y (List.mem_cons_of_mem _ hy)
    have h1:=h y (by simp)
    show x≤y+tq r
    rcases List.mem_cons.mp hx with z | z
    · subst z; grind
    · have:=tq_one (l:=r) (fun y hy=>h y (List.mem_cons_of_mem _ hy)) z
      grind
theorem tq_grd {D:Int} (hD:D≠0):∀ {l:List Rat},(∀ x∈l,Grd D x)→Grd D (tq l)
  | [],_=>Grd.int hD 0
  | x :: r,h=>(h x (by simp)).add (tq_grd hD fun y hy=>h y (List.mem_cons_of_mem _ hy))
section
variable (ss:List S3)
def shS (i:Nat):Int:=((ss[i]?).map fun s=>s.1).getD 0
def buS (i:Nat):Int:=((ss[i]?).map fun s=>s.2.1).getD 0
def rtS (i:Nat):Rat:=((ss[i]?).map fun s=>s.2.2).getD 0
def fullS (h:Nat→Rat):List Nat:=(List.range ss.length).filter fun i=>decide (0<h i)
def sumF (h:Nat→Rat):Int:=((fullS ss h).map (shS ss)).sum
def restS (h:Nat→Rat):List Rat:=((List.range ss.length).filter fun i=>!decide (i∈fullS ss h)).map (rtS ss)
def leftS (h:Nat→Rat):Rat:=1-tq (restS ss h)
def outS (h:Nat→Rat) (i:Nat):Rat:=if i∈fullS ss h then leftS ss h*((shS ss i:Rat) / (sumF ss h:Rat)) else rtS ss i
def falS (h:Nat→Rat) (i:Nat):Rat:=outS ss h i-rtS ss i
def tmsS (h:Nat→Rat):List Rat:=((List.range ss.length).filter fun i=>decide (0<falS ss h i)).map fun i=>h i / falS ss h i
def tmS (h:Nat→Rat):Rat:=minL (tmsS ss h)
def nxH (h:Nat→Rat) (i:Nat):Rat:=h i-falS ss h i*tmS ss h
def crS:Nat→(Nat→Rat)×Rat
  | 0=>(fun i=>(buS ss i:Rat),0)
  | k+1=>(nxH ss (crS k).1,(crS k).2+tmS ss (crS k).1)
end
section
variable {ss:List S3} {h:Nat→Rat}
end
end Sw
namespace Sw
open L2
section
variable {ss:List S3} {h:Nat→Rat}
end
end Sw
namespace Sw
open L2
section
variable {ss:List S3} {h:Nat→Rat}
end
end Sw
namespace Sw
end Sw
namespace L2
open PySem PySem.Spec PyProof.Rows
theorem while_g {c:TT} {tb:TS} {D:Ends} {σ:St} {H:Hp} (W:Nat→St→Hp→Prop) {m0:Nat} (h0:W m0 σ H)
    (hs:∀ m σ H,W m σ H→∀ Q:Bool→Hp→Prop,(∀ H1,tb { D with nx:=fun σ' H'=>∃ m',m' < m∧W m' σ' H',ct:=fun σ' H'=>∃ m',m' < m∧W m' σ' H',bk:=D.nx } σ H1→Q true H1)→(∀ H1,D.nx σ H1→Q false H1)→c σ H Q):tWhile c tb D σ H:=by
  refine ⟨W,⟨_,h0⟩,fun m σ H p=>?_⟩
  exact hs m σ H p _ (fun H1 h=>⟨_,fun σ' H' z=>z,h⟩) fun H1 h=>h
def fr (n:Nat) (h:Nat→Rat):List Rat:=(List.range n).map h
def Sn2 (H:Hp) (p:Addr) (s:Sw.S3):Prop:=∃ pl pr,H p=some (.tup [.int s.1,.ref pl])∧H pl=some (.tup [.int s.2.1,.ref pr])∧H pr=some (.tup (fq s.2.2))
structure SnL (H:Hp) (l:Addr) (ps:List Addr) (ss:List Sw.S3):Prop where
  hl:H l=some (.lst (ps.map V.ref))
  r:Paired (Sn2 H) ps ss
def Pt3 (ss:List Sw.S3) (H:Hp) (p:Addr) (k:Nat):Prop:=∃ pm pa po os,H p=some (.tup [.ref pm,.ref pa,.ref po])∧H pm=some (.tup (fq (Sw.crS ss k).2))∧H pa=some (.tup (fq (Sw.crS ss (k+1)).2))∧Lst fq H po os (fr ss.length (Sw.outS ss (Sw.crS ss k).1))
def mn (H:Hp) (l:Addr):Hp:=fun b=>if b=l then none else H b
end L2
namespace Sw
open L2
theorem tq_take {l:List Rat} (h:∀ x∈l,0≤x) (i:Nat):0≤tq (l.take i)∧tq (l.take i)≤tq l:=by
  have e:=tq_app (l.take i) (l.drop i)
  rw [List.take_append_drop] at e
  have a:=tq_pos (l:=l.drop i) fun x hx=>h x (List.mem_of_mem_drop hx)
  have b:=tq_pos (l:=l.take i) fun x hx=>h x (List.mem_of_mem_take hx)
  constructor <;> grind
end Sw
namespace L2
end L2
namespace Sw
open L2
end Sw
namespace L2
open PySem PySem.Spec PyProof.Rows
end L2
namespace Sw
open L2
end Sw
namespace L2
open PySem PySem.Spec PyProof.Rows
section
variable {X:Cx}
end
end L2
namespace Sw
open L2
section
variable {ss:List S3}
variable {L:Int} {m:Nat}
end
end Sw
namespace Sw
open L2
section
variable {ss:List S3} {L:Int} {m:Nat}
end
end Sw
namespace L2
open PySem PySem.Spec PyProof.Rows
section
variable {prog:Program} {w:World} {A:Around} {E:Value→Shared→Prop} {s:Shared}
end
section
variable {prog:Program} {w:World} {A:Around} {E:Value→Shared→Prop} {s:Shared}
end
section
variable {X:Cx}
end
end L2
namespace L2
open PySem PySem.Spec PyProof.Rows
end L2
namespace Sw
open L2
end Sw
namespace L2
open PySem PySem.Spec PyProof.Rows
def ms (H:Hp) (S:List Addr):Hp:=fun b=>if b∈S then none else H b
def AllL (H:Hp) (S:List Addr):Prop:=∀ v∈S,∃ ys,H v=some (.lst ys)
theorem upd_tup {H:Hp} {v b:Addr} {ys zs xs:List V} (h:H v=some (.lst zs)) (e:H b=some (.tup xs)):upd H v (.lst ys) b=some (.tup xs):=by
  rw [upd_ne (ne_of e h (by intro z; cases z))]; exact e
def Ptv (S:List Addr) (ss:List Sw.S3) (H:Hp) (p:Addr) (x:Nat×Addr):Prop:=∃ pm pa os,ms H S p=some (.tup [.ref pm,.ref pa,.ref x.2])∧ms H S pm=some (.tup (fq (Sw.crS ss x.1).2))∧ms H S pa=some (.tup (fq (Sw.crS ss (x.1+1)).2))∧H x.2=some (.lst (os.map V.ref))∧TupsF fq (ms H S) os (fr ss.length (Sw.outS ss (Sw.crS ss x.1).1))
structure Wk (ss:List Sw.S3) (l l1 tl hl kl:Addr) (ps cp:List Addr) (xs:List (Nat×Addr)) (S:List Addr) (j:Nat) (g:Nat→Rat) (hp kp:List Addr) (pn:Addr) (H:Hp):Prop where
  A:AllL H S
  sl:SnL (ms H S) l ps ss
  sl1:SnL (ms H S) l1 ps ss
  htl:H tl=some (.lst (cp.map V.ref))
  hhl:H hl=some (.lst (hp.map V.ref))
  hr:TupsF fq (ms H S) hp (fr ss.length g)
  now:ms H S pn=some (.tup (fq (Sw.crS ss j).2))
  hkl:H kl=some (.lst (kp.map V.ref))
  kr:Paired (Pt3 ss (ms H S)) kp (List.range j)
  rest:∀ i p x,j≤i→cp[i]? = some p→xs[i]? = some x→Ptv S ss H p x
section
variable {ss:List Sw.S3} {l l1 tl hl kl pn:Addr} {ps cp hp kp S:List Addr} {xs:List (Nat×Addr)} {j:Nat} {g:Nat→Rat} {H H':Hp}
end
end L2
namespace Sw
open L2
abbrev WI:=Nat×Q4×Rat×Rat
def wT (i:WI):T3:=(i.2.2.1,i.2.2.2,i.2.1.2.2.2)
def wL (i:WI):Rat:=(i.2.1.2.2.1:Rat)
def wAt (i:WI):Int:=i.2.1.1
structure WIok (i:WI):Prop where
  b0:0≤i.2.2.1
  be:i.2.2.1<i.2.2.2
  fl:(i.2.1.2.2.2:Rat)*(i.2.2.2-i.2.2.1)=wL i
  l1:1≤i.2.1.2.2.1
  s1:1≤i.2.1.2.2.2
theorem tq_perm {a b:List Rat} (h:a.Perm b):tq a=tq b:=by
  induction h with
  | nil=>rfl
  | cons x _ ih=>show x+tq _=x+tq _; rw [ih]
  | swap x y l=>show y+(x+tq l)=x+(y+tq l); grind
  | trans _ _ h1 h2=>rw [h1,h2]
theorem went_tq (low high:Rat):∀ l:List WI,went low high (l.map wT)=tq (l.map fun i=>(i.2.1.2.2.2:Rat)*ov low high (wT i))
  | []=>rfl
  | i :: r=>by
    show (i.2.1.2.2.2:Rat)*ov low high (wT i)+went low high (r.map wT)=(i.2.1.2.2.2:Rat)*ov low high (wT i)+tq _
    rw [went_tq low high r]
theorem ov_le {i:WI} (h:WIok i) {m:Rat}:(i.2.1.2.2.2:Rat)*ov 0 m (wT i)≤wL i:=by
  have s0:(0:Rat)≤(i.2.1.2.2.2:Rat):=Rat.intCast_nonneg.mpr (by have:=h.s1; omega)
  have o:ov 0 m (wT i)≤i.2.2.2-i.2.2.1:=by
    have:=h.b0
    have:=h.be
    unfold ov wT
    dsimp only
    rw [if_pos (show (0:Rat)≤i.2.2.1 from h.b0)]
    split
    · grind
    · split
      · grind
      · split <;> grind
  have:=Rat.mul_le_mul_of_nonneg_left o s0
  rw [h.fl] at this
  exact this
theorem ov_lt {i:WI} (h:WIok i) {m:Rat} (hm:m<i.2.2.2):(i.2.1.2.2.2:Rat)*ov 0 m (wT i)<wL i:=by
  have s0:(0:Rat)<(i.2.1.2.2.2:Rat):=q_cast_pos (by have:=h.s1; omega)
  have o:ov 0 m (wT i)<i.2.2.2-i.2.2.1:=by
    have:=h.b0
    have:=h.be
    unfold ov wT
    dsimp only
    rw [if_pos (show (0:Rat)≤i.2.2.1 from h.b0)]
    split
    · grind
    · split
      · grind
      · split <;> grind
  have:=Rat.mul_lt_mul_of_pos_left o s0
  rw [h.fl] at this
  exact this
theorem ov_zero {i:WI} {m:Rat} (hm:m≤i.2.2.1):ov 0 m (wT i) = 0:=by
  unfold ov wT
  dsimp only
  rw [if_pos hm]
  split <;> rfl
theorem ov_full {i:WI} (h:WIok i) {m:Rat} (hm:i.2.2.2≤m):(i.2.1.2.2.2:Rat)*ov 0 m (wT i)=wL i:=by
  have o:ov 0 m (wT i)=i.2.2.2-i.2.2.1:=by
    have:=h.b0
    have:=h.be
    unfold ov wT
    dsimp only
    rw [if_neg (by grind),if_neg (by grind),if_pos hm,if_pos (by grind)]
  rw [o,h.fl]
theorem went_full {m:Rat}:∀ {l:List WI},(∀ i∈l,WIok i)→(∀ i∈l,i.2.2.2≤m)→went 0 m (l.map wT)=tq (l.map wL)
  | [],_,_=>rfl
  | i :: r,h1,h2=>by
    have ih:=went_full (m:=m) (l:=r) (fun x hx=>h1 x (List.mem_cons_of_mem _ hx)) fun x hx=>h2 x (List.mem_cons_of_mem _ hx)
    show (i.2.1.2.2.2:Rat)*ov 0 m (wT i)+went 0 m (r.map wT)=wL i+tq (r.map wL)
    rw [ih,ov_full (h1 i (by simp)) (h2 i (by simp))]
theorem tq_le {α:Type} {f g:α→Rat}:∀ {l:List α},(∀ x∈l,f x≤g x)→tq (l.map f)≤tq (l.map g)
  | [],_=>Rat.le_refl
  | x :: r,h=>by
    have ih:=tq_le (l:=r) fun y hy=>h y (List.mem_cons_of_mem _ hy)
    have:=h x (by simp)
    show f x+tq (r.map f)≤g x+tq (r.map g)
    grind
theorem tq_ltm {α:Type} {f g:α→Rat} {y:α} (hy:f y<g y):∀ {l:List α},(∀ x∈l,f x≤g x)→y∈l→tq (l.map f)<tq (l.map g)
  | [],_,h=>by cases h
  | x :: r,h,hm=>by
    have h1:=h x (by simp)
    have hr:∀ y∈r,f y≤g y:=fun y hy=>h y (List.mem_cons_of_mem _ hy)
    show f x+tq (r.map f)<g x+tq (r.map g)
    rcases List.mem_cons.mp hm with e | e
    · subst e
      have:=tq_le hr
      grind
    · have:=tq_ltm hy hr e
      grind
theorem tq_nul {α:Type}:∀ l:List α,tq (l.map fun _=>(0:Rat)) = 0
  | []=>rfl
  | _ :: r=>by
    show (0:Rat)+tq (r.map fun _=>(0:Rat)) = 0
    rw [tq_nul r]; grind
structure WInv (s:Ti) (free:Int) (T G Qu:List WI):Prop where
  pm:T.Perm (G++Qu)
  ok:∀ i∈T,WIok i
  al:AllIn (T.map wT) s.us s.re
  en:∀ w e,s.en w=some e→e≤s.re∨∃ v∈s.us,v.2.1=e∧v.1<v.2.1
  at_:∀ i∈Qu,wAt i≤s.lat
  wk:∀ t:Int,free≤t→s.lat≤t→tq (G.map wL)≤went 0 (markAt s.us s.lat s.re t) (T.map wT)
section
variable {s:Ti} {free:Int} {T G Qu:List WI} {D B:Int}
theorem flow_step (ok:∀ i∈T,WIok i) (al:AllIn (T.map wT) s.us s.re) (o:TideOk D B s.lat s.re s.us) {t1 t2:Int} (h1:s.lat≤t1) (h2:t1≤t2) :
    went 0 (markAt s.us s.lat s.re t2) (T.map wT)≤went 0 (markAt s.us s.lat s.re t1) (T.map wT)+((t2-t1:Int):Rat) ∧
    (went 0 (markAt s.us s.lat s.re t2) (T.map wT)=went 0 (markAt s.us s.lat s.re t1) (T.map wT)+((t2-t1:Int):Rat)∨went 0 (markAt s.us s.lat s.re t2) (T.map wT)=tq (T.map wL)):=by
  have be:∀ u∈T.map wT,u.1≤u.2.1:=fun u hu=>by
    obtain ⟨i,hi,rfl⟩:=List.mem_map.mp hu
    have:=(ok i hi).be
    show i.2.2.1≤i.2.2.2
    grind
  obtain ⟨_,m1,_⟩:=markAt_ok o h1
  have m0:0≤markAt s.us s.lat s.re t1:=by have:=o.re0; grind
  obtain ⟨mm,cs⟩:=al.went o.tus h1 h2
  have ad:=went_add m0 mm be
  rcases cs with ⟨_,e⟩ | ⟨full,e,_⟩
  · rw [ad,e]
    exact ⟨Rat.le_refl,.inl rfl⟩
  · refine ⟨by rw [ad]; grind,.inr ?_⟩
    exact went_full ok fun i hi=>full _ (List.mem_map.mpr ⟨i,hi,rfl⟩)
theorem WInv.lenG (h:WInv s free T G Qu):tq (T.map wL)=tq (G.map wL)+tq (Qu.map wL):=by
  rw [tq_perm (h.pm.map wL),List.map_append,tq_app]
theorem WInv.begun (h:WInv s free T G Qu) (o:TideOk D B s.lat s.re s.us) {t:Int} (h1:free≤t) (h2:s.lat≤t) (ne:Qu≠[]):∃ i∈Qu,¬ markAt s.us s.lat s.re t<i.2.2.1:=by
  refine Classical.byContradiction fun no=>?_
  have all:∀ i∈Qu,markAt s.us s.lat s.re t<i.2.2.1:=fun i hi=>Classical.byContradiction fun z=>no ⟨i,hi,z⟩
  have w:=h.wk t h1 h2
  generalize hm:markAt s.us s.lat s.re t=m at *
  have mem:∀ i,i∈T↔i∈G∨i∈Qu:=fun i=>by rw [h.pm.mem_iff,List.mem_append]
  rw [went_tq,tq_perm (h.pm.map _),List.map_append,tq_app] at w
  have z:tq (Qu.map fun i=>(i.2.1.2.2.2:Rat)*ov 0 m (wT i)) = 0:=by
    have:Qu.map (fun i=>(i.2.1.2.2.2:Rat)*ov 0 m (wT i))=Qu.map fun _=>(0:Rat):=List.map_congr_left fun i hi=>by
      have:=all i hi
      rw [ov_zero (by grind)]
      grind
    rw [this]
    exact tq_nul Qu
  rw [z] at w
  obtain ⟨u,hu⟩:=List.exists_mem_of_ne_nil _ ne
  obtain ⟨_,m1,_⟩:=markAt_ok o h2
  rw [hm] at m1
  have uT:=(mem u).mpr (.inr hu)
  have ub:=all u hu
  have ue:=(h.ok u uT).be
  have hus:wT u∈s.us:=by
    rcases h.al.sup (wT u) (List.mem_map.mpr ⟨u,uT,rfl⟩) with q | q
    · exfalso
      have q:u.2.2.2≤s.re:=q
      grind
    · exact q
  obtain ⟨hd,hh,he⟩:=chain_first (h.al.ch.on m1) _ (wT u) hus ub (Nat.le_refl _)
  obtain ⟨x1,x2⟩:=List.mem_filter.mp hh
  unfold isHd at x2
  rw [Bool.and_eq_true] at x2
  have hb:¬ m<hd.1:=by simpa using x2.1
  have hl:m<hd.2.1:=by simpa using x2.2
  obtain ⟨v,hv,ev⟩:=List.mem_map.mp (h.al.sub hd x1)
  have vb:¬ m<v.2.2.1:=by rw [← ev] at hb; exact hb
  have vl:m<v.2.2.2:=by rw [← ev] at hl; exact hl
  have vG:v∈G:=by
    rcases (mem v).mp hv with q | q
    · exact q
    · exact absurd (all v q) vb
  have lt:=tq_ltm (f:=fun i:WI=>(i.2.1.2.2.2:Rat)*ov 0 m (wT i)) (g:=wL) (ov_lt (h.ok v hv) vl) (fun i hi=>ov_le (h.ok i ((mem i).mpr (.inl hi)))) vG
  grind
theorem WInv.goes (h:WInv s free T G Qu) (o:TideOk D B s.lat s.re s.us) {t:Int} (h1:free≤t) (h2:s.lat≤t) {c:WI} (hc:c∈Qu):WInv s (t+c.2.1.2.2.1) T (G++[c]) (Qu.erase c):=by
  have pm:T.Perm ((G++[c])++Qu.erase c):=by
    rw [List.append_assoc]
    exact h.pm.trans ((List.perm_cons_erase hc).append_left G)
  refine ⟨pm,h.ok,h.al,h.en,fun i hi=>h.at_ i (List.mem_of_mem_erase hi),fun t' a b=>?_⟩
  have cT:c∈T:=h.pm.mem_iff.mpr (List.mem_append_right _ hc)
  have l1:=(h.ok c cT).l1
  have w:=h.wk t h1 h2
  obtain ⟨_,cs⟩:=flow_step h.ok h.al o h2 (show t≤t' by omega)
  have e:tq ((G++[c]).map wL)=tq (G.map wL)+wL c:=by rw [List.map_append,tq_app]; show _ + (wL c+0) = _; grind
  rcases cs with q | q
  · rw [e,q]
    have:wL c≤((t' - t:Int):Rat):=Rat.intCast_le_intCast.mpr (by omega)
    grind
  · rw [q,tq_perm (pm.map wL),List.map_append (l₁:=G++[c]),tq_app ((G++[c]).map wL)]
    have:0≤tq ((Qu.erase c).map wL):=tq_pos fun x hx=>by
      obtain ⟨i,hi,rfl⟩:=List.mem_map.mp hx
      have:i∈T:=h.pm.mem_iff.mpr (List.mem_append_right _ (List.mem_of_mem_erase hi))
      exact Rat.intCast_nonneg.mpr (by have:=(h.ok i this).l1; omega)
    grind
theorem WInv.comes (h:WInv s free T G Qu) (o:TideOk D B s.lat s.re s.us) {D' B':Int} {q:Q4} (o':TideOk D' B' (s.come q).lat (s.come q).re (s.come q).us) (hl:s.lat≤q.1) (l1:1≤q.2.2.1) (s1:1≤q.2.2.2) (b0:0≤s.beg q) (pl:Nat) :
    WInv (s.come q) free (T++[(pl,q,s.beg q,s.fin q)]) G (Qu++[(pl,q,s.beg q,s.fin q)]):=by
  have shp:(0:Rat)<(q.2.2.2:Rat):=q_cast_pos (by omega)
  have x0:0<(q.2.2.1:Rat) / (q.2.2.2:Rat):=by
    rw [Rat.lt_div_iff shp,Rat.zero_mul]
    exact q_cast_pos (by omega)
  obtain ⟨_,m1,_⟩:=markAt_ok o hl
  have rg:s.re≤s.rv q:=m1
  have bg:=(beg_ge s q).1
  obtain ⟨ch,en⟩:=chain_come (who:=q.2.1) (len:=q.2.2.1) (sh:=q.2.2.2) rg h.al.ch h.en x0
  have nok:WIok (pl,q,s.beg q,s.fin q):=by
    refine ⟨b0,?_,?_,l1,s1⟩
    · show s.beg q<s.beg q+(q.2.2.1:Rat) / (q.2.2.2:Rat)
      grind
    · show (q.2.2.2:Rat)*(s.beg q+(q.2.2.1:Rat) / (q.2.2.2:Rat)-s.beg q)=(q.2.2.1:Rat)
      have:(q.2.2.2:Rat)≠0:=by grind
      grind
  have al:AllIn ((T++[(pl,q,s.beg q,s.fin q)]).map wT) (s.come q).us (s.come q).re:=by
    rw [List.map_append]
    exact h.al.come rg ch (by show s.rv q≤s.beg q + _; grind)
  have ok:∀ i∈T++[(pl,q,s.beg q,s.fin q)],WIok i:=fun i hi=>by
    rcases List.mem_append.mp hi with z | z
    · exact h.ok i z
    · have:i = _:=List.mem_singleton.mp z
      rw [this]; exact nok
  refine ⟨?_,ok,al,en,fun i hi=>?_,fun t a b=>?_⟩
  · rw [← List.append_assoc]
    exact h.pm.append_right _
  · rcases List.mem_append.mp hi with z | z
    · have:=h.at_ i z
      show wAt i≤q.1
      omega
    · have:i = _:=List.mem_singleton.mp z
      rw [this]; exact Int.le_refl _
  · have b:q.1≤t:=b
    have w:=h.wk t a (by omega)
    obtain ⟨u1,_⟩:=flow_step h.ok h.al o hl b
    obtain ⟨_,cs⟩:=flow_step ok al o' (t1:=q.1) (Int.le_refl _) b
    have e0:markAt (s.come q).us (s.come q).lat (s.come q).re q.1=s.rv q:=markAt_self o'.tus
    have e1:went 0 (s.rv q) ((T++[(pl,q,s.beg q,s.fin q)]).map wT)=went 0 (s.rv q) (T.map wT):=by
      rw [List.map_append,went_cat]
      show _ + ((q.2.2.2:Rat)*ov 0 (s.rv q) (wT (pl,q,s.beg q,s.fin q))+0) = _
      rw [ov_zero (show s.rv q≤s.beg q from bg)]
      grind
    have e2:markAt s.us s.lat s.re q.1=s.rv q:=rfl
    rw [e0,e1] at cs
    rw [e2] at u1
    rcases cs with z | z
    · rw [z]; grind
    · rw [z,List.map_append,tq_app]
      have e3:=h.lenG
      have u2:went 0 (markAt s.us s.lat s.re t) (T.map wT)≤tq (T.map wL):=by
        rw [went_tq]
        exact tq_le fun i hi=>ov_le (h.ok i hi)
      have:0≤tq ([(pl,q,s.beg q,s.fin q)].map wL):=tq_pos fun x hx=>by
        have:x = _:=List.mem_singleton.mp hx
        rw [this]; exact Rat.intCast_nonneg.mpr (by show (0:Int)≤q.2.2.1; omega)
      grind
theorem WInv.nil:WInv Ti.nil 0 [] [] []:=⟨.nil,fun i h=>absurd h List.not_mem_nil,AllIn.nil,(fun w e h=>by cases h),fun i h=>absurd h List.not_mem_nil,fun t _ _=>Rat.le_refl⟩
end
def bestF (m:Rat) (i:WI) (c:Option WI):Option WI:=if m<i.2.2.1 then c else match c with | none=>some i | some d=>if i.2.2.2<d.2.2.2 then some i else some d
def nextF (m:Rat):List WI→Option WI→Option WI
  | [],c=>c
  | i :: r,c=>nextF m r (bestF m i c)
theorem nextF_mem {m:Rat}:∀ {l:List WI} {c:Option WI} {x:WI},nextF m l c=some x→(x∈l∧¬ m<x.2.2.1)∨c=some x
  | [],c,x,h=>.inr h
  | i :: r,c,x,h=>by
    have h:nextF m r (bestF m i c)=some x:=h
    rcases nextF_mem h with ⟨a,b⟩ | e
    · exact .inl ⟨List.mem_cons_of_mem _ a,b⟩
    · unfold bestF at e
      split at e
      · exact .inr e
      · rename_i nb
        cases c with
        | none =>
          have:i=x:=Option.some.inj e
          subst this
          exact .inl ⟨by simp,nb⟩
        | some d =>
          dsimp only at e
          split at e
          · have:i=x:=Option.some.inj e
            subst this
            exact .inl ⟨by simp,nb⟩
          · exact .inr e
theorem nextF_some {m:Rat}:∀ {l:List WI} {c:Option WI},(c.isSome=true∨∃ i∈l,¬ m<i.2.2.1)→∃ x,nextF m l c=some x
  | [],c,h=>by
    rcases h with h | ⟨i,hi,_⟩
    · exact Option.isSome_iff_exists.mp h
    · cases hi
  | i :: r,c,h=>by
    show ∃ x,nextF m r (bestF m i c)=some x
    refine nextF_some ?_
    unfold bestF
    by_cases nb:m<i.2.2.1
    · rw [if_pos nb]
      rcases h with h | ⟨j,hj,z⟩
      · exact .inl h
      · rcases List.mem_cons.mp hj with e | e
        · subst e; exact absurd nb z
        · exact .inr ⟨j,e,z⟩
    · rw [if_neg nb]
      left
      cases c with
      | none=>rfl
      | some d=>dsimp only; split <;> rfl
end Sw
namespace L2
open PySem PySem.Spec PyProof.Rows PySem.MeetsSeq
theorem rm_loop (l:Addr) (items:Array Value) (n:Nat) (x:Value) (e:Nat→Bool) (j:Nat) (hj:j<items.size) (hit:e j=true) (k:Nat) (hs1:items.size≤sizeLine) :
    ∀ i:Nat,j-i=k→i≤j→(∀ m,i≤m→m<j→e m=false)→Meets (Builtin.«list.remove.loop» ⟨[.ref l,x,rawInt i],[]⟩)
      (fun A R s=>(∀ m (hm:m<items.size),m≤j→SeqAt.EqAt A.in1 s items[m] x (e m))∧s.heap.get? l=some { cls:=.type "list", dict:=none,data:=.seq items n,slots:=#[] }∧R (.ok (.ret .none)) { s with heap:=s.heap.update l (Obj.mapSeq fun xs=>xs.eraseIdxIfInBounds j) }):=by
  induction k with
  | zero =>
    intro i hk hij hno prog w A R s h
    obtain ⟨hp,g,d,tk,os⟩:=s; obtain ⟨he,hl,h⟩:=h
    have hij':i=j:=by omega
    subst hij'
    wp_walk using wpAny_loadPart' hl
    have hi:items[((i:Nat):Int).toNat]? = some items[i]:=by simp [hj]
    rw [hi]
    refine wpAny_bind (he i hj (Nat.le_refl _) prog w _ _ ?_)
    rw [hit]
    have hz':(items.eraseIdxIfInBounds i).size≤sizeLine+1:=Nat.le_trans (size_erased items _) (Nat.le_succ_of_le hs1)
    wp_walk using (wpAny_updateSeq hl rfl (hz:=hs1) (_hz':=hz')),wpAny_loadPart' hl
    simpa using h
  | succ k ih =>
    intro i hk hij hno prog w A R s h
    obtain ⟨hp,g,d,tk,os⟩:=s; obtain ⟨he,hl,h⟩:=h
    have hlt:i<items.size:=by omega
    wp_walk using wpAny_loadPart' hl
    have hi:items[((i:Nat):Int).toNat]? = some items[i]:=by simp [hlt]
    have hc:((i:Int)+1)=((i+1:Nat):Int):=by push_cast; rfl
    rw [hi]
    refine wpAny_bind (he i hlt hij prog w _ _ ?_)
    rw [hno i (Nat.le_refl _) (by omega)]
    wp_walk
    rw [hc]
    exact ⟨plainId_quiet plain_remove_loop _,codeAny_builtin entry_remove_loop (by
      rw [Around.under_plainId plain_remove_loop _]
      exact ih (i+1) (by omega) (by omega) (fun m h1 h2=>hno m (by omega) h2) prog w A R _ ⟨he,hl,h⟩)⟩
theorem rm_meets (l:Addr) (items:Array Value) (n:Nat) (x:Value) (e:Nat→Bool) (j:Nat) (hj:j<items.size) (hit:e j=true) (hno:∀ m,m<j→e m=false) (hs1:items.size≤sizeLine) :
    Meets (Builtin.«list.remove» ⟨[.ref l,x],[]⟩)
      (fun A R s=>(∀ m (hm:m<items.size),m≤j→SeqAt.EqAt A.in1 s items[m] x (e m))∧s.heap.get? l=some { cls:=.type "list", dict:=none,data:=.seq items n,slots:=#[] }∧R (.ok (.ret .none)) { s with heap:=s.heap.update l (Obj.mapSeq fun xs=>xs.eraseIdxIfInBounds j) }):=by
  intro prog w A R s h
  obtain ⟨hp,g,d,tk,os⟩:=s; obtain ⟨he,hl,h⟩:=h
  wp_walk using wpAny_loadPart' hl
  exact ⟨plainId_quiet plain_remove_loop _,codeAny_builtin entry_remove_loop (by
    rw [Around.under_plainId plain_remove_loop _]
    exact rm_loop l items n x e j hj hit _ hs1 0 rfl (Nat.zero_le _) (fun m _ h2=>hno m h2) prog w A R _ ⟨he,hl,h⟩)⟩
def rRemove (K:PySem.W.Frag):V→List V→Hp→VK→Prop:=fun x vs H Q=>∃ l xs y j d ds,x = .ref l∧vs = [y]∧H l=some (.lst xs)∧xs.length<sizeLine∧j<xs.length∧Deep K H y d∧PySem.SeqAt.shaped d=true∧DeepAll K H (xs.take (j+1)) ds∧(∀ e∈ds,PySem.SeqAt.shaped e=true) ∧
  ds[j]?.map (fun e=>PyData.eqv e d)=some true∧(∀ m e,m<j→ds[m]? = some e→PyData.eqv e d=false)∧Q .non (upd H l (.lst (xs.eraseIdx j)))
theorem vals_get:∀ {xs:List V} {us:List Value} {m:Nat} {u:Value},Vals xs us→us[m]? = some u→∃ x,xs[m]? = some x∧RelV x u
  | _,_,0,u,.cons r _,h=>by
    have:_=u:=Option.some.inj h
    subst this
    exact ⟨_,rfl,r⟩
  | _,_,m+1,u,.cons _ t,h=>by
    obtain ⟨x,h1,h2⟩:=vals_get (m:=m) t (by simpa using h)
    exact ⟨x,by simpa using h1,h2⟩
theorem deepAll_get {K:PySem.W.Frag} {H:Hp}:∀ {xs:List V} {ds:List PyData} {m:Nat} {x:V},DeepAll K H xs ds→xs[m]? = some x→∃ d,ds[m]? = some d∧Deep K H x d
  | _,_,0,x,.cons r _,h=>by
    have:_=x:=Option.some.inj h
    subst this
    exact ⟨_,rfl,r⟩
  | _,_,m+1,x,.cons _ t,h=>by
    obtain ⟨d,h1,h2⟩:=deepAll_get (m:=m) t (by simpa using h)
    exact ⟨d,by simpa using h1,h2⟩
theorem vals_erase:∀ {xs:List V} {us:List Value} (j:Nat),Vals xs us→Vals (xs.eraseIdx j) (us.eraseIdx j)
  | _,_,_,.nil=>.nil
  | _,_,0,.cons _ t=>t
  | _,_,j+1,.cons r t=>.cons r (vals_erase j t)
section
variable {X:Cx}
theorem mt_remove (K:PySem.W.Frag) (h:X.K=K) (hu:X.A.units+66<cLine):MtM X "list.remove" (rRemove K):=by
  subst h
  intro pins s σ H x vs v us Q I rx rv h
  obtain ⟨l,xs,y,j,d,ds,rfl,rfl,hH,hz,hj,dy,sy,dx,sx,hit,hno,q⟩:=h
  cases rx
  obtain ⟨u,rfl,ru⟩:=rv.one
  obtain ⟨z,its,n,r,hl,e⟩:=I.lstM hH
  have len:=r.length
  obtain ⟨as,ra⟩:=deep_reads I dy ru
  have eq:∀ m (hm:m<its.toArray.size),m≤j→SeqAt.EqAt X.A.in1 s its.toArray[m] u ((ds[m]?.map fun e=>PyData.eqv e d).getD false):=fun m hm hmj=>by
    have hm2:m<its.length:=by simpa using hm
    have e1:its[m]? = some its.toArray[m]:=by rw [List.getElem?_eq_getElem hm2]; simp
    obtain ⟨x,h1,h2⟩:=vals_get r e1
    have h3:(xs.take (j+1))[m]? = some x:=by rw [List.getElem?_take,if_pos (by omega)]; exact h1
    obtain ⟨e',h4,h5⟩:=deepAll_get dx h3
    obtain ⟨bs,rb⟩:=deep_reads I h5 h2
    have se:=sx e' (List.mem_of_getElem? h4)
    rw [h4]
    exact SeqAt.eqAt_reads e' d X.A.in1 s _ _ bs as rb ra (PySem.SeqAt.canLay_of_shaped se) (PySem.SeqAt.canLay_of_shaped sy) (PySem.SeqAt.room_of_shaped se (by show X.A.units+1+64<cLine; omega))
  have hit':(ds[j]?.map fun e=>PyData.eqv e d).getD false=true:=by rw [hit]; rfl
  have hno':∀ m,m<j→(ds[m]?.map fun e=>PyData.eqv e d).getD false=false:=fun m hm=>by
    cases c:ds[m]? with
    | none=>rfl
    | some e=>exact hno m e hm c
  refine call_meets F.slot_list_remove ⟨_,e,rfl⟩ F.entry_list_remove (F.args_list_remove_2 _ _) (rm_meets l its.toArray n u (fun m=>(ds[m]?.map fun e=>PyData.eqv e d).getD false) j (by rw [List.size_toArray]; omega) hit' hno' (by rw [List.size_toArray]; omega)) ⟨eq,e,?_⟩
  refine ⟨.non,_,I.lset (its':=its.eraseIdx j) hH e ?_ (vals_erase j r) ?_,rfl,q⟩
  · simp [Array.eraseIdxIfInBounds]
    exact fun c=>absurd c (by omega)
  · rw [List.length_eraseIdx]
    split <;> omega
end
end L2
namespace L2
open PySem PySem.Spec PyProof.Rows
theorem Room.units66 {k:Nat} {A:Around} (r:Room k A):A.units+66<cLine:=by have:=r.un; omega
section
variable {X:Cx}
end
end L2
namespace Sw
open L2
abbrev WS:=Int×List WI×List (Nat×Int)
def ctime (free:Int):List WI→Int
  | []=>free
  | i :: _=>if wAt i > free then wAt i else free
def pickF (s:Ti) (x:WS):Option WI:=nextF (markAt s.us s.lat s.re (ctime x.1 x.2.1)) x.2.1 none
def goF (s:Ti) (x:WS):WS:=match pickF s x with
  | some c=>(ctime x.1 x.2.1+c.2.1.2.2.1,x.2.1.erase c,x.2.2++[(c.1,ctime x.1 x.2.1)])
  | none=>x
def goOn (lim:Option Int) (x:WS):Prop:=x.2.1≠[]∧∀ a,lim=some a→ctime x.1 x.2.1<a
instance (lim:Option Int) (x:WS):Decidable (goOn lim x):=by
  unfold goOn
  cases lim with
  | none=>exact decidable_of_iff (x.2.1≠[]) ⟨fun h=>⟨h,fun a e=>by cases e⟩,fun h=>h.1⟩
  | some b=>exact decidable_of_iff (x.2.1≠[]∧ctime x.1 x.2.1<b) ⟨fun h=>⟨h.1,fun a e=>by cases e; exact h.2⟩,fun h=>⟨h.1,h.2 b rfl⟩⟩
def runF (s:Ti) (lim:Option Int):Nat→WS→WS
  | 0,x=>x
  | n+1,x=>if goOn lim x then runF s lim n (goF s x) else x
structure WOk (s:Ti) (T:List WI) (G:List WI) (x:WS):Prop where
  iv:WInv s x.1 T G x.2.1
  nd:(x.2.1.map (·.1)).Nodup
  tl:x.2.1≠[]→s.lat≤ctime x.1 x.2.1
  f0:0≤x.1
section
variable {s:Ti} {T G:List WI} {x:WS} {D B:Int}
theorem ctime_ge (free:Int) (l:List WI):free≤ctime free l:=by
  cases l with
  | nil=>exact Int.le_refl _
  | cons i r =>
    show free≤if wAt i > free then wAt i else free
    split <;> omega
theorem WOk.pick (w:WOk s T G x) (o:TideOk D B s.lat s.re s.us) (ne:x.2.1≠[]):∃ c,pickF s x=some c∧c∈x.2.1:=by
  obtain ⟨i,hi,nb⟩:=w.iv.begun o (ctime_ge _ _) (w.tl ne) ne
  obtain ⟨c,hc⟩:=nextF_some (m:=markAt s.us s.lat s.re (ctime x.1 x.2.1)) (l:=x.2.1) (c:=none) (.inr ⟨i,hi,nb⟩)
  refine ⟨c,hc,?_⟩
  rcases nextF_mem hc with ⟨a,_⟩ | e
  · exact a
  · cases e
theorem nd_erase:∀ {l:List WI} {c:WI},(l.map (·.1)).Nodup→((l.erase c).map (·.1)).Nodup:=fun {l c} h=>by
  have:((l.erase c).map (·.1)).Sublist (l.map (·.1)):=(List.erase_sublist).map _
  exact this.nodup h
theorem WOk.step (w:WOk s T G x) (o:TideOk D B s.lat s.re s.us) (ne:x.2.1≠[]):∃ c,c∈x.2.1∧pickF s x=some c∧WOk s T (G++[c]) (goF s x)∧(goF s x).2.1.length+1=x.2.1.length:=by
  obtain ⟨c,hc,cm⟩:=w.pick o ne
  have e:goF s x=(ctime x.1 x.2.1+c.2.1.2.2.1,x.2.1.erase c,x.2.2++[(c.1,ctime x.1 x.2.1)]):=by unfold goF; rw [hc]
  have cT:c∈T:=w.iv.pm.mem_iff.mpr (List.mem_append_right _ cm)
  have l1:=(w.iv.ok c cT).l1
  have f0:=w.f0
  have cg:=ctime_ge x.1 x.2.1
  refine ⟨c,cm,hc,?_,?_⟩
  · rw [e]
    refine ⟨w.iv.goes o (ctime_ge _ _) (w.tl ne) cm,nd_erase w.nd,fun _=>?_,?_⟩
    · have a:=ctime_ge (ctime x.1 x.2.1+c.2.1.2.2.1) (x.2.1.erase c)
      have b:=w.tl ne
      show s.lat≤ctime (ctime x.1 x.2.1+c.2.1.2.2.1) (x.2.1.erase c)
      omega
    · show 0≤ctime x.1 x.2.1+c.2.1.2.2.1
      omega
  · rw [e]
    show (x.2.1.erase c).length+1=x.2.1.length
    rw [List.length_erase_of_mem cm]
    have:=List.length_pos_of_mem cm
    omega
theorem WOk.comes (w:WOk s T G x) (o:TideOk D B s.lat s.re s.us) {D' B':Int} {q:Q4} (o':TideOk D' B' (s.come q).lat (s.come q).re (s.come q).us) (hl:s.lat≤q.1) (l1:1≤q.2.2.1) (s1:1≤q.2.2.2) (b0:0≤s.beg q) {pl:Nat} (np:∀ i∈x.2.1,i.1≠pl) (en:¬ goOn (some q.1) x) :
    WOk (s.come q) (T++[(pl,q,s.beg q,s.fin q)]) G (x.1,x.2.1++[(pl,q,s.beg q,s.fin q)],x.2.2):=by
  refine ⟨w.iv.comes o o' hl l1 s1 b0 pl,?_,fun _=>?_,w.f0⟩
  · rw [List.map_append]
    refine List.nodup_append.mpr ⟨w.nd,by simp,fun a ha b hb=>?_⟩
    obtain ⟨i,hi,rfl⟩:=List.mem_map.mp ha
    have:b=pl:=by simpa using hb
    subst this
    exact np i hi
  · show q.1≤ctime x.1 (x.2.1++[(pl,q,s.beg q,s.fin q)])
    cases c:x.2.1 with
    | nil =>
      show q.1≤if q.1 > x.1 then q.1 else x.1
      split <;> omega
    | cons i r =>
      have:¬ ctime x.1 x.2.1<q.1:=fun z=>en ⟨by rw [c]; simp,fun a e=>by cases e; exact z⟩
      rw [c] at this
      show q.1≤ctime x.1 (i :: r)
      omega
theorem WOk.nil:WOk Ti.nil [] [] (0,[],[]):=⟨WInv.nil,by simp,fun z=>absurd rfl z,Int.le_refl _⟩
theorem runF_go {lim:Option Int} {n:Nat} (h:goOn lim x):runF s lim (n+1) x=runF s lim n (goF s x):=by
  show (if goOn lim x then runF s lim n (goF s x) else x) = _
  rw [if_pos h]
theorem runF_stop {lim:Option Int} (h:¬ goOn lim x):∀ n,runF s lim n x=x
  | 0=>rfl
  | n+1=>by
    show (if goOn lim x then runF s lim n (goF s x) else x) = _
    rw [if_neg h]
end
theorem nextF_snoc {m:Rat} {i:WI}:∀ {l:List WI} {c:Option WI},nextF m (l++[i]) c=bestF m i (nextF m l c)
  | [],c=>rfl
  | j :: r,c=>nextF_snoc (l:=r)
theorem erase_idx:∀ {l:List WI} {c:WI} {k:Nat},(l.map (·.1)).Nodup→l[k]? = some c→l.erase c=l.eraseIdx k
  | [],c,k,_,h=>by simp at h
  | i :: r,c,0,_,h=>by
    have:i=c:=by simpa using h
    subst this
    simp
  | i :: r,c,k+1,nd,h=>by
    have h:r[k]? = some c:=by simpa using h
    rw [List.map_cons,List.nodup_cons] at nd
    have ne:i≠c:=fun e=>nd.1 (by rw [e]; exact List.mem_map.mpr ⟨c,List.mem_of_getElem? h,rfl⟩)
    rw [List.erase_cons_tail (by simpa using ne),List.eraseIdx_cons_succ,erase_idx nd.2 h]
end Sw
namespace L2
open PySem PySem.Spec PyProof.Rows
structure SrcD (K:PySem.W.Frag) (mg:Str→Option Value) (x:Str) (st:Stmt) (ps:List Str) (dss:List (List V)):Prop where
  ex:∃ (f:Addr) (fd:FuncData),FunE K x x st f fd∧(∀ dvs∈dss,BindsV K fd ps dvs)∧PySem.W.keepIn K (.ref f)=true∧mg x=some (.ref f)
structure DefD (P:Program) (w:World) (K:PySem.W.Frag) (mg:Str→Option Value) (base:Heap) (CX:CXT) (k:Nat) (x:Str) (ps:List Str) (dss:List (List V)) (sp:Sp):Prop where
  ex:∃ (f:Addr) (fd:FuncData),FnOk P w K mg base CX k f fd ps sp∧(∀ dvs∈dss,BindsV K fd ps dvs)∧PySem.W.keepIn K (.ref f)=true∧mg x=some (.ref f)
theorem SrcD.okN {P:Program} {w:World} {K:PySem.W.Frag} {mg:Str→Option Value} {base:Heap} {CX:CXT} {x:Str} {st:Stmt} {N ps:List Str} {dss:List (List V)} {k:Nat} {sp:Sp} (F:SrcD K mg x st ps dss) (S:FnScope N ps (defScope st)) (len:∀ vs H Q E,sp vs H Q E→vs.length=ps.length)
    (hbody:∀ (f:Addr) (cdv:Value) (A:Around) (outer:List Env) (s:Shared) (H:Hp) (vs:List V) (Q:VK) (E:XK),Room k (A.deeper (envOfC x (defScope st) s.heap.objs.size f cdv))→sp vs H Q E →
      ∃ t,PSs (cxOf CX P w K mg base N x (defScope st) f cdv A outer s H E).nox (defBody st) t∧t { nx:=fun _ H'=>Q .non H',rt:=Q } (start N vs) H):DefD P w K mg base CX (k+1) x ps dss sp:=by
  obtain ⟨f,fd,F,b,kp,m⟩:=F.ex
  obtain ⟨oc,od,dV,kV,doc,pm,an,cdv,ct,osl,rfl,lk,hcd⟩:=F.ex
  exact ⟨f,_,fn_of lk hcd S len fun A outer s H vs Q E hr hsp=>by
    obtain ⟨t,h,q⟩:=hbody f cdv A outer s H vs Q E hr hsp
    exact ⟨t,h.nox,q⟩,b,kp,m⟩
theorem pe_callXD {X:Cx} {CX:CXT} {k:Nat} {x:Str} {ps:List Str} {dvs:List V} {dss:List (List V)} {sp:Sp} {Ek:XH} {p pos:Pos} {e:Expr} {es:List Expr} {t:TA} (D:DefD X.prog X.w X.K X.mg X.base CX k x ps dss sp) (hin:dvs∈dss) (hr:Room k X.A) (hg:Gl X x) (hx:PassesX CX X Ek) (ha:PA X (e :: es) t)
    (hdb:(x == ("__debug__" : Str))=false:=by decide) (he:starEach (e :: es) X.env=(false,eval e X.env) :: starEach es X.env:=by rfl) (hpl:(backTo pos (starEach es X.env)).any (·.1)=false:=by rfl) :
    PE X (.Call (.Name x p) (e :: es) [] pos) (tCallX (fun vs=>sp (vs++dvs)) Ek t):=by
  obtain ⟨f,fd,F,hb,hk,hm⟩:=D.ex
  intro pins s σ H Q I h
  refine wpAny_Call_Name_kw (ld_glob I hg hm ?_ hdb)
  exact PySem.W.callWith_K (h₀:=X.base) I.ok.mod.kin hk (thn (ha pos pins s σ H _ I h) fun us s1 ⟨vs,H1,I1,r,q⟩=>⟨I1.kIn,run_fnX F hr (hb _ hin) hx I1 r q⟩) he hpl
end L2
namespace Sw
open L2
def dealS (qs:List Q4):Nat→WS
  | 0=>(0,[],[])
  | k+1=>match qs[k]? with
    | some q=>((runF (Ti.nil.after (qs.take k)) (some q.1) (dealS qs k).2.1.length (dealS qs k)).1,(runF (Ti.nil.after (qs.take k)) (some q.1) (dealS qs k).2.1.length (dealS qs k)).2.1++[(k,q,(Ti.nil.after (qs.take k)).beg q,(Ti.nil.after (qs.take k)).fin q)],(runF (Ti.nil.after (qs.take k)) (some q.1) (dealS qs k).2.1.length (dealS qs k)).2.2)
    | none=>dealS qs k
theorem dealS_go {qs:List Q4} {k:Nat} {q:Q4} (e:qs[k]? = some q):dealS qs (k+1)=((runF (Ti.nil.after (qs.take k)) (some q.1) (dealS qs k).2.1.length (dealS qs k)).1,(runF (Ti.nil.after (qs.take k)) (some q.1) (dealS qs k).2.1.length (dealS qs k)).2.1++[(k,q,(Ti.nil.after (qs.take k)).beg q,(Ti.nil.after (qs.take k)).fin q)],(runF (Ti.nil.after (qs.take k)) (some q.1) (dealS qs k).2.1.length (dealS qs k)).2.2):=by
  rw [dealS,e]
def dealtF (qs:List Q4):WS:=runF (Ti.nil.after qs) none (dealS qs qs.length).2.1.length (dealS qs qs.length)
structure DI (n:Nat) (M:Int) (c:Nat) (s:Ti) (k:Nat) (T G:List WI) (D:Int) (x:WS):Prop where
  ro:RunOk n M c s k D
  wo:WOk s T G x
  ln:x.2.1.length+x.2.2.length=k
  zi:∀ i∈x.2.1,SzQ 2000 i.2.2.1∧SzQ 2000 i.2.2.2
  tb:∀ i∈x.2.1,0≤wAt i∧wAt i<100000000000000∧i.2.1.2.2.1≤1000000
  pl:∀ i∈x.2.1,i.1<k
  fb:x.1+1000000*x.2.1.length≤100000000000000+1000000*k
section
variable {n:Nat} {M:Int} {a c:Nat} {s:Ti} {k:Nat} {T G:List WI} {D:Int} {x:WS}
theorem DI.step (h:DI n M c s k T G D x) (ne:x.2.1≠[]):∃ G',DI n M c s k T G' D (goF s x)∧(goF s x).2.1.length+1=x.2.1.length:=by
  obtain ⟨d,cm,hc,w,l⟩:=h.wo.step h.ro.ok ne
  have e:goF s x=(ctime x.1 x.2.1+d.2.1.2.2.1,x.2.1.erase d,x.2.2++[(d.1,ctime x.1 x.2.1)]):=by unfold goF; rw [hc]
  have ln:=h.ln
  obtain ⟨_,_,cb⟩:=h.tb d cm
  have fb:=h.fb
  refine ⟨G++[d],⟨h.ro,w,?_,?_,?_,?_,?_⟩,l⟩
  · rw [e] at l ⊢
    have l:(x.2.1.erase d).length+1=x.2.1.length:=l
    show (x.2.1.erase d).length+(x.2.2++[(d.1,ctime x.1 x.2.1)]).length=k
    rw [List.length_append]
    simp only [List.length_cons,List.length_nil]
    omega
  · rw [e]; exact fun i hi=>h.zi i (List.mem_of_mem_erase hi)
  · rw [e]; exact fun i hi=>h.tb i (List.mem_of_mem_erase hi)
  · rw [e]; exact fun i hi=>h.pl i (List.mem_of_mem_erase hi)
  · rw [e] at l ⊢
    have l:(x.2.1.erase d).length+1=x.2.1.length:=l
    show ctime x.1 x.2.1+d.2.1.2.2.1+1000000*((x.2.1.erase d).length:Int)≤_
    have:ctime x.1 x.2.1≤100000000000000+1000000*k-1000000*(x.2.1.length:Int):=by
      cases q:x.2.1 with
      | nil=>exact absurd q ne
      | cons i r =>
        have ti:=h.tb i (by rw [q]; simp)
        rw [q] at fb ln
        show (if wAt i > x.1 then wAt i else x.1)≤_
        split <;> omega
    omega
theorem DI.run (lim:Option Int):∀ (m:Nat) {G:List WI} {x:WS},DI n M c s k T G D x→x.2.1.length≤m→∃ G',DI n M c s k T G' D (runF s lim m x)∧¬ goOn lim (runF s lim m x)
  | 0,G,x,w,h=>⟨G,w,fun z=>z.1 (List.eq_nil_of_length_eq_zero (by show x.2.1.length = 0; omega))⟩
  | m+1,G,x,w,h=>by
    unfold runF
    by_cases d:goOn lim x
    · rw [if_pos d]
      obtain ⟨G',w',l⟩:=w.step d.1
      exact DI.run lim m w' (by omega)
    · rw [if_neg d]
      exact ⟨G,w,d⟩
theorem DI.comes (F:Fit n M a c) (h:DI n M c s k T G D x) {q:Q4} (hk:k<n) (p:PcOk M q) (hl:s.lat≤q.1) (en:¬ goOn (some q.1) x) :
    ∃ D',DI n M c (s.come q) (k+1) (T++[(k,q,s.beg q,s.fin q)]) G D' (x.1,x.2.1++[(k,q,s.beg q,s.fin q)],x.2.2):=by
  obtain ⟨D',j,_,_,ro,g1,g2,b0,be,eB⟩:=h.ro.come F hk p hl
  obtain ⟨p0,p1,n1,n2,s1,s2⟩:=p
  have ln:=h.ln
  have fb:=h.fb
  refine ⟨D',ro,h.wo.comes h.ro.ok ro.ok hl n1 s1 b0 (fun i hi=>by have:=h.pl i hi; omega) en,?_,fun i hi=>?_,fun i hi=>?_,fun i hi=>?_,?_⟩
  · show (x.2.1++[(k,q,s.beg q,s.fin q)]).length+x.2.2.length=k+1
    rw [List.length_append]
    simp only [List.length_cons,List.length_nil]
    omega
  · rcases List.mem_append.mp hi with z | z
    · exact h.zi i z
    · have:i = _:=List.mem_singleton.mp z
      rw [this]
      exact ⟨(ro.ok.gb.szB g1 b0 (by grind)).mono (by decide),(ro.ok.gb.szB g2 (by grind) eB).mono (by decide)⟩
  · rcases List.mem_append.mp hi with z | z
    · exact h.tb i z
    · have:i = _:=List.mem_singleton.mp z
      rw [this]; exact ⟨p0,p1,n2⟩
  · rcases List.mem_append.mp hi with z | z
    · have:=h.pl i z; omega
    · have:i = _:=List.mem_singleton.mp z
      rw [this]; exact Nat.lt_succ_self k
  · show x.1+1000000*((x.2.1++[(k,q,s.beg q,s.fin q)]).length:Int)≤_
    rw [List.length_append]
    simp only [List.length_cons,List.length_nil]
    omega
theorem DI.nil:DI n M c Ti.nil 0 [] [] 1 (0,[],[]):=⟨RunOk.nil,WOk.nil,rfl,fun i h=>absurd h List.not_mem_nil,fun i h=>absurd h List.not_mem_nil,fun i h=>absurd h List.not_mem_nil,by decide⟩
end
theorem deal_ok {n:Nat} {M:Int} {a c:Nat} {qs:List Q4} (g:Good n M a c qs):∀ {k:Nat},k≤qs.length→∃ T G D,DI n M c (Ti.nil.after (qs.take k)) k T G D (dealS qs k)
  | 0,_=>⟨[],[],1,DI.nil⟩
  | k+1,hk=>by
    obtain ⟨T,G,D,h⟩:=deal_ok g (k:=k) (by omega)
    have e:qs[k]? = some (qs[k]'(by omega)):=List.getElem?_eq_getElem _
    generalize qs[k]'(by omega)=q at e
    obtain ⟨G',h',en⟩:=h.run (some q.1) _ (Nat.le_refl _)
    obtain ⟨D',h2⟩:=h'.comes g.F (by have:=g.ln; omega) (g.pc q (List.mem_of_getElem? e)) (lat_to (s:=Ti.nil) (fun q h=>(g.pc q h).1) g.pw e) en
    refine ⟨T++[(k,q,(Ti.nil.after (qs.take k)).beg q,(Ti.nil.after (qs.take k)).fin q)],G',D',?_⟩
    rw [take_succ_of e,Ti.after_snoc,dealS_go e]
    exact h2
end Sw
namespace Sw
open L2
def lenAt (qs:List Q4) (p:Nat):Int:=((qs[p]?).map fun q=>q.2.2.1).getD 0
def freeOf (qs:List Q4) (gn:List (Nat×Int)):Int:=match gn.getLast? with
  | none=>0
  | some g=>g.2+lenAt qs g.1
theorem nextF_least {m:Rat}:∀ {l:List WI} {c:Option WI} {x:WI},nextF m l c=some x→(∀ i∈l,¬ m<i.2.2.1→x.2.2.2≤i.2.2.2)∧∀ d,c=some d→x.2.2.2≤d.2.2.2
  | [],c,x,h=>⟨fun i hi=>absurd hi List.not_mem_nil,fun d e=>by
      have h:c=some x:=h
      rw [e] at h
      cases h
      exact Rat.le_refl⟩
  | i :: r,c,x,h=>by
    have h:nextF m r (bestF m i c)=some x:=h
    obtain ⟨a,b⟩:=nextF_least h
    have key:(¬ m<i.2.2.1→x.2.2.2≤i.2.2.2)∧∀ d,c=some d→x.2.2.2≤d.2.2.2:=by
      unfold bestF at b
      by_cases nb:m<i.2.2.1
      · rw [if_pos nb] at b
        exact ⟨fun z=>absurd nb z,b⟩
      · rw [if_neg nb] at b
        cases c with
        | none=>exact ⟨fun _=>b i rfl,fun d e=>by cases e⟩
        | some d =>
          dsimp only at b
          by_cases lt:i.2.2.2<d.2.2.2
          · rw [if_pos lt] at b
            have:=b i rfl
            exact ⟨fun _=>this,fun d' e=>by cases e; grind⟩
          · rw [if_neg lt] at b
            have:=b d rfl
            exact ⟨fun _=>by grind,fun d' e=>by cases e; exact this⟩
    refine ⟨fun j hj nb=>?_,key.2⟩
    rcases List.mem_cons.mp hj with e | e
    · subst e; exact key.1 nb
    · exact a j e nb
section
variable {n:Nat} {M:Int} {a c:Nat} {qs:List Q4} {s:Ti} {k:Nat} {T G:List WI} {D:Int} {x:WS}
end
end Sw
namespace Sw
open L2
def pileF (l:List WI) (w:Int):Int:=(l.map fun i=>if i.2.1.2.1=w then i.2.1.2.2.1 else 0).sum
def overF (rm:Int→Option Int) (l:List WI) (q:Q4):Bool:=match rm q.2.1 with
  | none=>false
  | some r=>decide (pileF l q.2.1+q.2.2.1 > r)
def dealR1 (rm:Int→Option Int) (k:Nat) (q:Q4) (z:Ti×WS×List Nat):Ti×WS×List Nat :=
  let y:=runF z.1 (some q.1) z.2.1.2.1.length z.2.1
  if overF rm y.2.1 q then (z.1,y,z.2.2++[k]) else (z.1.come q,(y.1,y.2.1++[(k,q,z.1.beg q,z.1.fin q)],y.2.2),z.2.2)
def dealR (rm:Int→Option Int) (qs:List Q4):Nat→Ti×WS×List Nat
  | 0=>(Ti.nil,(0,[],[]),[])
  | k+1=>match qs[k]? with
    | some q=>dealR1 rm k q (dealR rm qs k)
    | none=>dealR rm qs k
theorem dealR_go {rm:Int→Option Int} {qs:List Q4} {k:Nat} {q:Q4} (e:qs[k]? = some q):dealR rm qs (k+1)=dealR1 rm k q (dealR rm qs k):=by
  rw [dealR,e]
def dealtR (rm:Int→Option Int) (qs:List Q4):WS:=runF (dealR rm qs qs.length).1 none (dealR rm qs qs.length).2.1.2.1.length (dealR rm qs qs.length).2.1
def droppedR (rm:Int→Option Int) (qs:List Q4):List Nat:=(dealR rm qs qs.length).2.2
structure DR (n:Nat) (M:Int) (c:Nat) (s:Ti) (t k:Nat) (T G:List WI) (D:Int) (x:WS):Prop where
  ro:RunOk n M c s t D
  wo:WOk s T G x
  ln:x.2.1.length+x.2.2.length=t
  zi:∀ i∈x.2.1,SzQ 2000 i.2.2.1∧SzQ 2000 i.2.2.2
  tb:∀ i∈x.2.1,0≤wAt i∧wAt i<100000000000000∧i.2.1.2.2.1≤1000000
  pl:∀ i∈x.2.1,i.1<k
  fb:x.1+1000000*x.2.1.length≤100000000000000+1000000*t
section
variable {n:Nat} {M:Int} {a c:Nat} {s:Ti} {t k:Nat} {T G:List WI} {D:Int} {x:WS}
theorem DR.step (h:DR n M c s t k T G D x) (ne:x.2.1≠[]):∃ G',DR n M c s t k T G' D (goF s x)∧(goF s x).2.1.length+1=x.2.1.length:=by
  obtain ⟨d,cm,hc,w,l⟩:=h.wo.step h.ro.ok ne
  have e:goF s x=(ctime x.1 x.2.1+d.2.1.2.2.1,x.2.1.erase d,x.2.2++[(d.1,ctime x.1 x.2.1)]):=by unfold goF; rw [hc]
  have ln:=h.ln
  obtain ⟨_,_,cb⟩:=h.tb d cm
  have fb:=h.fb
  refine ⟨G++[d],⟨h.ro,w,?_,?_,?_,?_,?_⟩,l⟩
  · rw [e] at l ⊢
    have l:(x.2.1.erase d).length+1=x.2.1.length:=l
    show (x.2.1.erase d).length+(x.2.2++[(d.1,ctime x.1 x.2.1)]).length=t
    rw [List.length_append]
    simp only [List.length_cons,List.length_nil]
    omega
  · rw [e]; exact fun i hi=>h.zi i (List.mem_of_mem_erase hi)
  · rw [e]; exact fun i hi=>h.tb i (List.mem_of_mem_erase hi)
  · rw [e]; exact fun i hi=>h.pl i (List.mem_of_mem_erase hi)
  · rw [e] at l ⊢
    have l:(x.2.1.erase d).length+1=x.2.1.length:=l
    show ctime x.1 x.2.1+d.2.1.2.2.1+1000000*((x.2.1.erase d).length:Int)≤_
    have:ctime x.1 x.2.1≤100000000000000+1000000*t-1000000*(x.2.1.length:Int):=by
      cases q:x.2.1 with
      | nil=>exact absurd q ne
      | cons i r =>
        have ti:=h.tb i (by rw [q]; simp)
        rw [q] at fb ln
        show (if wAt i > x.1 then wAt i else x.1)≤_
        split <;> omega
    omega
theorem DR.run (lim:Option Int):∀ (m:Nat) {G:List WI} {x:WS},DR n M c s t k T G D x→x.2.1.length≤m→∃ G',DR n M c s t k T G' D (runF s lim m x)∧¬ goOn lim (runF s lim m x)
  | 0,G,x,w,h=>⟨G,w,fun z=>z.1 (List.eq_nil_of_length_eq_zero (by show x.2.1.length = 0; omega))⟩
  | m+1,G,x,w,h=>by
    unfold runF
    by_cases d:goOn lim x
    · rw [if_pos d]
      obtain ⟨G',w',l⟩:=w.step d.1
      exact DR.run lim m w' (by omega)
    · rw [if_neg d]
      exact ⟨G,w,d⟩
theorem DR.next (h:DR n M c s t k T G D x):DR n M c s t (k+1) T G D x:=⟨h.ro,h.wo,h.ln,h.zi,h.tb,fun i hi=>Nat.lt_succ_of_lt (h.pl i hi),h.fb⟩
theorem DR.comes (F:Fit n M a c) (h:DR n M c s t k T G D x) {q:Q4} (hk:t<n) (p:PcOk M q) (hl:s.lat≤q.1) (en:¬ goOn (some q.1) x) :
    ∃ D',DR n M c (s.come q) (t+1) (k+1) (T++[(k,q,s.beg q,s.fin q)]) G D' (x.1,x.2.1++[(k,q,s.beg q,s.fin q)],x.2.2):=by
  obtain ⟨D',j,_,_,ro,g1,g2,b0,be,eB⟩:=h.ro.come F hk p hl
  obtain ⟨p0,p1,n1,n2,s1,s2⟩:=p
  have ln:=h.ln
  have fb:=h.fb
  refine ⟨D',ro,h.wo.comes h.ro.ok ro.ok hl n1 s1 b0 (fun i hi=>by have:=h.pl i hi; omega) en,?_,fun i hi=>?_,fun i hi=>?_,fun i hi=>?_,?_⟩
  · show (x.2.1++[(k,q,s.beg q,s.fin q)]).length+x.2.2.length=t+1
    rw [List.length_append]
    simp only [List.length_cons,List.length_nil]
    omega
  · rcases List.mem_append.mp hi with z | z
    · exact h.zi i z
    · have:i = _:=List.mem_singleton.mp z
      rw [this]
      exact ⟨(ro.ok.gb.szB g1 b0 (by grind)).mono (by decide),(ro.ok.gb.szB g2 (by grind) eB).mono (by decide)⟩
  · rcases List.mem_append.mp hi with z | z
    · exact h.tb i z
    · have:i = _:=List.mem_singleton.mp z
      rw [this]; exact ⟨p0,p1,n2⟩
  · rcases List.mem_append.mp hi with z | z
    · have:=h.pl i z; omega
    · have:i = _:=List.mem_singleton.mp z
      rw [this]; exact Nat.lt_succ_self k
  · show x.1+1000000*((x.2.1++[(k,q,s.beg q,s.fin q)]).length:Int)≤_
    rw [List.length_append]
    simp only [List.length_cons,List.length_nil]
    omega
theorem DR.nil:DR n M c Ti.nil 0 0 [] [] 1 (0,[],[]):=⟨RunOk.nil,WOk.nil,rfl,fun i h=>absurd h List.not_mem_nil,fun i h=>absurd h List.not_mem_nil,fun i h=>absurd h List.not_mem_nil,by decide⟩
end
end Sw
namespace Sw
open L2
def tideOf (T:List WI):Ti:=Ti.nil.after (T.map fun i=>i.2.1)
inductive LP (T:List WI):List (Nat×Int)→Nat→List WI→Prop
  | nil:LP T [] 0 []
  | go {gs:List (Nat×Int)} {t t':Nat} {Q:List WI} {g:Nat×Int} {c:WI}:LP T gs t Q→t≤t'→t'≤T.length→(∀ i∈(T.take t').drop t,wAt i≤g.2)→(∀ i,T[t']? = some i→g.2<wAt i) →
      nextF (markAt (tideOf (T.take t')).us (tideOf (T.take t')).lat (tideOf (T.take t')).re g.2) (Q++(T.take t').drop t) none=some c→c.1=g.1→LP T (gs++[g]) t' ((Q++(T.take t').drop t).erase c)
theorem LP.more {T:List WI} {i:WI}:∀ {gs:List (Nat×Int)} {t:Nat} {Q:List WI},LP T gs t Q→(∀ g∈gs,g.2<wAt i)→LP (T++[i]) gs t Q
  | _,_,_,.nil,_=>.nil
  | _,_,_,.go (t:=t) (t':=t') (g:=g) h a b c d e f,hg=>by
    have et:(T++[i]).take t'=T.take t':=List.take_append_of_le_length b
    rw [← et] at c e ⊢
    refine .go (h.more fun g' hg'=>hg g' (List.mem_append.mpr (.inl hg'))) a (by rw [List.length_append]; omega) c (fun j hj=>?_) e f
    by_cases lt:t' < T.length
    · rw [List.getElem?_append_left lt] at hj
      exact d j hj
    · have:t'=T.length:=by omega
      rw [this] at hj
      have:i=j:=by simpa using hj
      rw [← this]
      exact hg g (List.mem_append.mpr (.inr (List.mem_singleton.mpr rfl)))
structure JR (T:List WI) (s:Ti) (x:WS):Prop where
  td:s=tideOf T
  ex:∃ t Q,LP T x.2.2 t Q∧t≤T.length∧x.2.1=Q++T.drop t
  mo:x.2.2.Pairwise (fun a b=>a.2≤b.2)
  fr:∀ g∈x.2.2,g.2≤x.1
  bd:∀ g∈x.2.2,g.2<1000000000000000
section
variable {n:Nat} {M:Int} {a c:Nat} {s:Ti} {t k:Nat} {T G:List WI} {D:Int} {x:WS}
theorem JR.step (hn:n≤60) (h:DR n M c s t k T G D x) (j:JR T s x) (ne:x.2.1≠[]):∃ G',DR n M c s t k T G' D (goF s x)∧JR T s (goF s x)∧(goF s x).2.1.length+1=x.2.1.length∧∃ g,(goF s x).2.2=x.2.2++[g]∧g.2=ctime x.1 x.2.1:=by
  obtain ⟨d,cm,hc,w,l⟩:=h.wo.step h.ro.ok ne
  obtain ⟨G1,d1,_⟩:=h.step ne
  have e:goF s x=(ctime x.1 x.2.1+d.2.1.2.2.1,x.2.1.erase d,x.2.2++[(d.1,ctime x.1 x.2.1)]):=by unfold goF; rw [hc]
  obtain ⟨t0,Q,lp,tl,eq⟩:=j.ex
  have lat:∀ i∈T.drop t0,wAt i≤ctime x.1 x.2.1:=fun i hi=>by
    have m1:i∈x.2.1:=by rw [eq]; exact List.mem_append.mpr (.inr hi)
    have a1:wAt i≤s.lat:=h.wo.iv.at_ i m1
    have a2:=h.wo.tl ne
    omega
  have ct:=ctime_ge x.1 x.2.1
  have cl:ctime x.1 x.2.1<1000000000000000:=by
    have fb:=h.fb
    have kn:=h.ro.kn
    have tb:=h.tb
    cases hx:x.2.1 with
    | nil=>exact absurd hx ne
    | cons i r =>
      have:=(tb i (by rw [hx]; simp)).2.1
      show (if wAt i > x.1 then wAt i else x.1) < _
      split <;> omega
  have dl:1≤d.2.1.2.2.1:=(h.wo.iv.ok d (h.wo.iv.pm.mem_iff.mpr (List.mem_append.mpr (.inr cm)))).l1
  refine ⟨G1,d1,⟨j.td,⟨T.length,x.2.1.erase d,?_,Nat.le_refl _,?_⟩,?_,?_,?_⟩,l,(d.1,ctime x.1 x.2.1),?_,rfl⟩
  · rw [e]
    have key:=LP.go (T:=T) (t':=T.length) (g:=(d.1,ctime x.1 x.2.1)) (c:=d) lp tl (Nat.le_refl _) (by rw [List.take_length]; exact lat) (fun i hi=>by simp at hi) (by
      rw [List.take_length,← eq,← j.td]; exact hc) rfl
    rw [List.take_length,← eq] at key
    exact key
  · rw [e,List.drop_length,List.append_nil]
  · rw [e]
    refine List.pairwise_append.mpr ⟨j.mo,List.pairwise_singleton _ _,fun a ha b hb=>?_⟩
    rw [List.mem_singleton.mp hb]
    have:=j.fr a ha
    show a.2≤ctime x.1 x.2.1
    omega
  · rw [e]
    intro g hg
    show g.2≤ctime x.1 x.2.1+d.2.1.2.2.1
    rcases List.mem_append.mp hg with z | z
    · have:=j.fr g z
      omega
    · rw [List.mem_singleton.mp z]
      show ctime x.1 x.2.1≤_
      omega
  · rw [e]
    intro g hg
    rcases List.mem_append.mp hg with z | z
    · exact j.bd g z
    · rw [List.mem_singleton.mp z]
      exact cl
  · rw [e]
theorem JR.run (hn:n≤60) (lim:Option Int):∀ (m:Nat) {G:List WI} {x:WS},DR n M c s t k T G D x→JR T s x→x.2.1.length≤m→∃ G',DR n M c s t k T G' D (runF s lim m x)∧JR T s (runF s lim m x)∧¬ goOn lim (runF s lim m x)∧∀ b,lim=some b→(∀ g∈x.2.2,g.2<b)→∀ g∈(runF s lim m x).2.2,g.2<b
  | 0,G,x,w,j,h=>⟨G,w,j,fun z=>z.1 (List.eq_nil_of_length_eq_zero (by show x.2.1.length = 0; omega)),fun b _ hb=>hb⟩
  | m+1,G,x,w,j,h=>by
    unfold runF
    by_cases d:goOn lim x
    · rw [if_pos d]
      obtain ⟨G',w',j',l,g,eg,gt⟩:=JR.step hn w j d.1
      obtain ⟨G2,w2,j2,en,gb⟩:=JR.run hn lim m w' j' (by omega)
      refine ⟨G2,w2,j2,en,fun b hb h0=>gb b hb fun g' hg'=>?_⟩
      rw [eg] at hg'
      rcases List.mem_append.mp hg' with z | z
      · exact h0 g' z
      · have:g'=g:=List.mem_singleton.mp z
        rw [this,gt]
        exact d.2 b hb
    · rw [if_neg d]
      exact ⟨G,w,j,d,fun b _ hb=>hb⟩
theorem JR.comes (j:JR T s x) {q:Q4} {k:Nat} (gb:∀ g∈x.2.2,g.2<q.1):JR (T++[(k,q,s.beg q,s.fin q)]) (s.come q) (x.1,x.2.1++[(k,q,s.beg q,s.fin q)],x.2.2):=by
  obtain ⟨t0,Q,lp,tl,eq⟩:=j.ex
  refine ⟨?_,⟨t0,Q,lp.more gb,by rw [List.length_append]; omega,?_⟩,j.mo,j.fr,j.bd⟩
  · have:=j.td
    unfold tideOf at this ⊢
    rw [List.map_append]
    show s.come q=Ti.nil.after (_++[q])
    rw [Ti.after_snoc,← this]
  · show x.2.1++_ = _
    rw [eq,List.drop_append_of_le_length tl,List.append_assoc]
end
structure TR (qs:List Q4) (k:Nat) (T:List WI) (dr:List Nat):Prop where
  pl:T.map (fun i=>i.1)=(List.range k).filter fun p=>!dr.contains p
  it:∀ i∈T,qs[i.1]? = some i.2.1
  dk:∀ p∈dr,p<k
  tg:∀ (t:Nat) (i:WI),T[t]? = some i→i.2.2.1=(tideOf (T.take t)).beg i.2.1∧i.2.2.2=(tideOf (T.take t)).fin i.2.1
theorem TR.drop {qs:List Q4} {k:Nat} {T:List WI} {dr:List Nat} (h:TR qs k T dr):TR qs (k+1) T (dr++[k]):=by
  refine ⟨?_,h.it,fun p hp=>?_,h.tg⟩
  · rw [h.pl,List.range_succ,List.filter_append,List.filter_cons_of_neg (by simp),List.filter_nil,List.append_nil]
    refine List.filter_congr fun p hp=>?_
    have:=List.mem_range.mp hp
    rw [List.contains_append]
    have ne:¬ p=k:=by omega
    simp [ne]
  · rcases List.mem_append.mp hp with z | z
    · have:=h.dk p z; omega
    · have:p=k:=List.mem_singleton.mp z
      omega
theorem TR.come {qs:List Q4} {k:Nat} {T:List WI} {dr:List Nat} (h:TR qs k T dr) {q:Q4} {s:Ti} (td:s=tideOf T) (hq:qs[k]? = some q):TR qs (k+1) (T++[(k,q,s.beg q,s.fin q)]) dr:=by
  have nk:¬ k∈dr:=fun z=>by have:=h.dk k z; omega
  refine ⟨?_,fun i hi=>?_,fun p hp=>by have:=h.dk p hp; omega,fun t i hi=>?_⟩
  · rw [List.map_append,h.pl,List.range_succ,List.filter_append,List.filter_cons_of_pos (by simpa using nk),List.filter_nil]
    rfl
  · rcases List.mem_append.mp hi with z | z
    · exact h.it i z
    · have:i = _:=List.mem_singleton.mp z
      rw [this]; exact hq
  · by_cases lt:t<T.length
    · rw [List.getElem?_append_left lt] at hi
      rw [List.take_append_of_le_length (by omega)]
      exact h.tg t i hi
    · have e:t=T.length:=by
        have:=(List.getElem?_eq_some_iff.mp hi).1
        rw [List.length_append] at this
        simp only [List.length_cons,List.length_nil] at this
        omega
      subst e
      have:(k,q,s.beg q,s.fin q)=i:=by simpa using hi
      subst this
      rw [List.take_append_of_le_length (Nat.le_refl _),List.take_of_length_le (Nat.le_refl _),← td]
      exact ⟨rfl,rfl⟩
theorem dealR_tr {n:Nat} {M:Int} {a c:Nat} {rm:Int→Option Int} {qs:List Q4} (g:Good n M a c qs):∀ {k:Nat},k≤qs.length→∃ t T G D,t≤k∧DR n M c (dealR rm qs k).1 t k T G D (dealR rm qs k).2.1∧JR T (dealR rm qs k).1 (dealR rm qs k).2.1∧TR qs k T (dealR rm qs k).2.2∧(∀ j q,k≤j→qs[j]? = some q→(dealR rm qs k).1.lat≤q.1)∧(∀ j q,k≤j→qs[j]? = some q→∀ g∈(dealR rm qs k).2.1.2.2,g.2<q.1)∧t+(dealR rm qs k).2.2.length=k
  | 0,_=>⟨0,[],[],1,Nat.le_refl _,DR.nil,⟨rfl,⟨0,[],.nil,Nat.le_refl _,rfl⟩,.nil,fun g h=>absurd h List.not_mem_nil,fun g h=>absurd h List.not_mem_nil⟩,⟨rfl,fun i h=>absurd h List.not_mem_nil,fun p h=>absurd h List.not_mem_nil,fun t i h=>by cases h⟩,fun j q _ hq=>(g.pc q (List.mem_of_getElem? hq)).1,fun j q _ _ g h=>absurd h List.not_mem_nil,rfl⟩
  | k+1,hk=>by
    obtain ⟨t,T,G,D,tk,h,jr,tr,hl,gb,le⟩:=dealR_tr (rm:=rm) g (k:=k) (by omega)
    have e:qs[k]? = some (qs[k]'(by omega)):=List.getElem?_eq_getElem _
    generalize qs[k]'(by omega)=q at e
    obtain ⟨G',h',jr',en,gb'⟩:=JR.run g.F.n1 (some q.1) _ h jr (Nat.le_refl _)
    have gb2:=gb' q.1 rfl (gb k q (Nat.le_refl _) e)
    have later:∀ j q',k+1≤j→qs[j]? = some q'→q.1≤q'.1:=fun j q' hj hq'=>by
      have:=g.pw
      rw [List.pairwise_iff_getElem] at this
      have b1:=(List.getElem?_eq_some_iff.mp e)
      have b2:=(List.getElem?_eq_some_iff.mp hq')
      have:=this k j b1.1 b2.1 (by omega)
      rw [b1.2,b2.2] at this
      exact this
    rw [dealR_go e]
    unfold dealR1
    dsimp only
    by_cases o:overF rm (runF (dealR rm qs k).1 (some q.1) (dealR rm qs k).2.1.2.1.length (dealR rm qs k).2.1).2.1 q=true
    · rw [if_pos o]
      refine ⟨t,T,G',D,by omega,h'.next,jr',tr.drop,fun j q' hj hq'=>hl j q' (by omega) hq',fun j q' hj hq' g1 hg1=>?_,?_⟩
      · have:=gb2 g1 hg1
        have:=later j q' hj hq'
        omega
      show t+((dealR rm qs k).2.2++[k]).length=k+1
      rw [List.length_append]
      simp only [List.length_cons,List.length_nil]
      omega
    · rw [if_neg o]
      obtain ⟨D',h2⟩:=h'.comes g.F (by have:=g.ln; omega) (g.pc q (List.mem_of_getElem? e)) (hl k q (Nat.le_refl _) e) en
      refine ⟨t+1,_,G',D',by omega,h2,jr'.comes gb2,tr.come jr'.td e,fun j q' hj hq'=>later j q' hj hq',fun j q' hj hq' g1 hg1=>?_,by show t+1+(dealR rm qs k).2.2.length=k+1; omega⟩
      have:=gb2 g1 hg1
      have:=later j q' hj hq'
      omega
theorem dealtR_tr {n:Nat} {M:Int} {a c:Nat} {rm:Int→Option Int} {qs:List Q4} (g:Good n M a c qs):∃ T:List WI,TR qs qs.length T (droppedR rm qs)∧LP T (dealtR rm qs).2.2 T.length []∧(dealtR rm qs).2.2.Pairwise (fun a b=>a.2≤b.2)∧∀ g∈(dealtR rm qs).2.2,g.2<1000000000000000:=by
  obtain ⟨t,T,G,D,tk,h,jr,tr,hl,gb,le⟩:=dealR_tr (rm:=rm) g (k:=qs.length) (Nat.le_refl _)
  obtain ⟨G',h',jr',en,_⟩:=JR.run g.F.n1 none _ h jr (Nat.le_refl _)
  refine ⟨T,tr,?_⟩
  obtain ⟨t0,Q,lp,tl,eq⟩:=jr'.ex
  have e0:(dealtR rm qs).2.1 = []:=by
    cases z:(dealtR rm qs).2.1 with
    | nil=>rfl
    | cons i r=>exact absurd ⟨(by show (dealtR rm qs).2.1≠[]; rw [z]; simp),fun a y=>by cases y⟩ en
  have e1:Q++T.drop t0 = []:=by rw [← eq]; exact e0
  rw [List.append_eq_nil_iff] at e1
  have e2:T.length-t0 = 0:=by rw [← List.length_drop,e1.2]; rfl
  have e3:t0=T.length:=by omega
  rw [e1.1,e3] at lp
  exact ⟨lp,jr'.mo,jr'.bd⟩
theorem TR.good {n:Nat} {M:Int} {a c:Nat} {qs:List Q4} (g:Good n M a c qs) {T:List WI} {dr:List Nat} (h:TR qs qs.length T dr):Good n M a c (T.map fun i=>i.2.1):=by
  have lt:T.length≤qs.length:=by
    have e:=congrArg List.length h.pl
    have:=List.length_filter_le (fun p=>!dr.contains p) (List.range qs.length)
    rw [List.length_range] at this
    rw [List.length_map] at e
    omega
  have pw:T.Pairwise (fun i j=>i.1<j.1):=by
    have:(T.map fun i=>i.1).Pairwise (· < ·):=by rw [h.pl]; exact List.pairwise_lt_range.filter _
    exact List.pairwise_map.mp this
  refine ⟨g.F,by rw [List.length_map]; have:=g.ln; omega,fun q hq=>?_,?_⟩
  · obtain ⟨i,hi,rfl⟩:=List.mem_map.mp hq
    exact g.pc _ (List.mem_of_getElem? (h.it i hi))
  · rw [List.pairwise_map]
    have all:T.Pairwise (fun i j=>i∈T∧j∈T∧i.1<j.1):=by
      rw [List.pairwise_iff_getElem] at pw ⊢
      exact fun x y hx hy lt=>⟨List.getElem_mem _,List.getElem_mem _,pw x y hx hy lt⟩
    refine all.imp fun {i j} ⟨hi,hj,lt⟩=>?_
    have q:=g.pw
    rw [List.pairwise_iff_getElem] at q
    have b1:=(List.getElem?_eq_some_iff.mp (h.it i hi))
    have b2:=(List.getElem?_eq_some_iff.mp (h.it j hj))
    have:=q i.1 j.1 b1.1 b2.1 lt
    rw [b1.2,b2.2] at this
    exact this
theorem tideOf_snoc {T:List WI} {i:WI}:tideOf (T++[i])=(tideOf T).come i.2.1:=by
  unfold tideOf
  rw [List.map_append]
  exact Ti.after_snoc
theorem lat_up {T:List WI} {z:Int} (h0:0≤z) (h:∀ i∈T,wAt i≤z):(tideOf T).lat≤z:=by
  rcases List.eq_nil_or_concat T with e | ⟨l,x,e⟩
  · subst e
    exact h0
  · subst e
    rw [List.concat_eq_append] at h ⊢
    rw [tideOf_snoc]
    exact h x (List.mem_append.mpr (.inr (List.mem_singleton.mpr rfl)))
def LF (T:List WI):List (Nat×Int)→Nat→List WI→Prop
  | [],t,Q=>t=T.length∧Q = []
  | g :: gs,t,Q=>∃ t' c,t≤t'∧t'≤T.length∧(∀ i∈(T.take t').drop t,wAt i≤g.2)∧(∀ i,T[t']? = some i→g.2<wAt i) ∧
      nextF (markAt (tideOf (T.take t')).us (tideOf (T.take t')).lat (tideOf (T.take t')).re g.2) (Q++(T.take t').drop t) none=some c∧c.1=g.1∧LF T gs t' ((Q++(T.take t').drop t).erase c)
theorem LP.front {T:List WI}:∀ {gs:List (Nat×Int)} {t:Nat} {Q:List WI},LP T gs t Q→∀ {rest:List (Nat×Int)},LF T rest t Q→LF T (gs++rest) 0 []
  | _,_,_,.nil,_,h=>h
  | _,_,_,.go (t':=t') (g:=g) (c:=c) p a b c1 d e f,rest,h=>by
    rw [List.append_assoc]
    exact p.front (rest:=[g]++rest) ⟨t',c,a,b,c1,d,e,f,h⟩
theorem dealtR_front {n:Nat} {M:Int} {a c:Nat} {rm:Int→Option Int} {qs:List Q4} (g:Good n M a c qs):∃ T:List WI,TR qs qs.length T (droppedR rm qs)∧LF T (dealtR rm qs).2.2 0 []∧(dealtR rm qs).2.2.Pairwise (fun a b=>a.2≤b.2)∧∀ g∈(dealtR rm qs).2.2,g.2<1000000000000000:=by
  obtain ⟨T,tr,lp,mo,bd⟩:=dealtR_tr (rm:=rm) g
  refine ⟨T,tr,?_,mo,bd⟩
  have:=lp.front (rest:=[]) ⟨rfl,rfl⟩
  rw [List.append_nil] at this
  exact this
end Sw
namespace L2
open PySem PySem.Spec PyProof.Rows
section
variable {X:Cx}
end
section
variable {X:Cx} {pins:List (Addr×Obj)} {σ:St} {H:Hp} {s:Shared} {a vw:Addr} {kvs:List (Key×V)} {Q:VK}
end
end L2
namespace Sw
open L2
section
variable {fs:List F4} {w:Nat→Int}
theorem emits_at:∀ {N j:Nat} {x:Sch},(flowF fs N 0 0)[j]? = some x→∃ k,k<N∧hdP fs (stS fs k).1 (stS fs k).2≠[]∧x=((stS fs k).1,(stS fs (k+1)).1,prt fs (stS fs k).1 (stS fs k).2)∧(flowF fs N 0 0).take j=flowF fs k 0 0∧(flowF fs N 0 0).take (j+1)=flowF fs (k+1) 0 0
  | 0,j,x,h=>by cases h
  | N+1,j,x,h=>by
    rw [flowF_snoc] at h ⊢
    by_cases lt:j<(flowF fs N 0 0).length
    · rw [List.getElem?_append_left lt] at h
      obtain ⟨k,a,b,c,d,e⟩:=emits_at h
      refine ⟨k,by omega,b,c,?_,?_⟩
      · rw [List.take_append_of_le_length (by omega)]; exact d
      · rw [List.take_append_of_le_length (by omega)]; exact e
    · rw [List.getElem?_append_right (by omega)] at h
      unfold emit at h ⊢
      by_cases z:hdP fs (stS fs N).1 (stS fs N).2 = []
      · rw [if_pos z] at h; cases h
      · rw [if_neg z] at h ⊢
        have j0:j-(flowF fs N 0 0).length = 0:=by
          have:=(List.getElem?_eq_some_iff.mp h).1
          simp only [List.length_cons,List.length_nil] at this
          omega
        rw [j0] at h
        have ex:x=((stS fs N).1,(stS fs (N+1)).1,prt fs (stS fs N).1 (stS fs N).2):=by simpa using h.symm
        have ej:j=(flowF fs N 0 0).length:=by omega
        refine ⟨N,by omega,z,ex,?_,?_⟩
        · rw [ej,List.take_append_of_le_length (Nat.le_refl _),List.take_length]
        · rw [flowF_snoc]
          unfold emit
          rw [if_neg z,ej,List.take_of_length_le (by rw [List.length_append]; exact Nat.le_refl _)]
structure St1 (fs:List F4) (k:Nat):Prop where
  lt:(stS fs k).1<(stS fs (k+1)).1
  ma:(stS fs (k+1)).2=(stS fs k).2+((stS fs (k+1)).1-(stS fs k).1) / (shP fs (hdP fs (stS fs k).1 (stS fs k).2):Rat)
  le:∀ (i:Nat) (f:F4),i∈hdP fs (stS fs k).1 (stS fs k).2→fs[i]? = some f→(stS fs (k+1)).2≤f.2.2.1
  way:(∃ i f,i∈hdP fs (stS fs k).1 (stS fs k).2∧fs[i]? = some f∧(stS fs (k+1)).2=f.2.2.1)∨∃ f∈fs,(stS fs (k+1)).1=(f.1:Rat)
  no:∀ f∈fs,¬ ((stS fs k).1<(f.1:Rat)∧(f.1:Rat)<(stS fs (k+1)).1)
theorem Run.st1 (R:Run fs w) {k:Nat} (h:hdP fs (stS fs k).1 (stS fs k).2≠[]):St1 fs k:=by
  have hc:=chA_ne h
  rcases stS_turn R.s1 k with ⟨z,_⟩ | ⟨_,t⟩
  · exact absurd z hc
  have ema:(stS fs (k+1)).2=(stS fs k).2+((stS fs (k+1)).1-(stS fs k).1) / (shP fs (hdP fs (stS fs k).1 (stS fs k).2):Rat):=by
    have:=ms_nx hc
    unfold ms at this
    rw [if_neg h] at this
    exact this.symm
  refine ⟨t.gt,ema,fun i f hi hf=>?_,?_,fun f hf ⟨h1,h2⟩=>?_⟩
  · have l1:=t.le h
    have l2:lstE fs (stS fs k).1 (stS fs k).2≤enP fs i:=minL_le (List.mem_map.mpr ⟨i,hi,rfl⟩)
    rw [enP_at hf] at l2
    exact Rat.le_trans l1 l2
  · rcases t.way with ⟨f,hf,_,e⟩ | ⟨_,_,e,_⟩
    · exact .inr ⟨f,hf,e⟩
    · left
      have mem:=minL_mem (l:=(hdP fs (stS fs k).1 (stS fs k).2).map (enP fs)) (by simpa using h)
      obtain ⟨i,hi,e2⟩:=List.mem_map.mp mem
      obtain ⟨f,e3,_⟩:=hdP_mem.mp hi
      exact ⟨i,f,hi,e3,by rw [e]; unfold lstE; rw [← e2,enP_at e3]⟩
  · have:=nx_le (fs:=fs) (k:=k) (x:=(f.1:Rat)) (by unfold chA; exact List.mem_append.mpr (.inl (chs_mem.mpr ⟨f,hf,h1,rfl⟩)))
    grind
end
end Sw
namespace L2
open PySem PySem.Spec PyProof.Rows
section
variable {X:Cx}
end
end L2
namespace L2
open PySem PySem.Spec PyProof.Rows
theorem ends_hide {t:TS} {D:Ends} {σ:L2.St} {H:Hp} (h:∀ D':Ends,(∀ σ H,D.nx σ H→D'.nx σ H)→(∀ v H,D.rt v H→D'.rt v H)→t D' σ H):t D σ H:=h D (fun _ _ x=>x) fun _ _ x=>x
section
variable {X:Cx}
end
end L2
namespace Sw
open L2
def hL (qs:List Q4) (dn:List Nat) (mo:Rat):Nat→List Nat
  | 0=>[]
  | i+1=>match qs[i]? with
    | some q=>if i ∉ dn∧q.2.1 ∉ (hL qs dn mo i).map (whoAt qs)∧(q.1:Rat)≤mo then hL qs dn mo i++[i] else hL qs dn mo i
    | none=>hL qs dn mo i
end Sw
namespace Sw
open L2
section
variable {fs:List F4} {w:Nat→Int}
def cT (fs:List F4) (t:Rat) (i k:Nat):Rat:=if i∈hdP fs (stS fs k).1 (stS fs k).2∧(stS fs k).1<t then (shr fs i:Rat) / (shP fs (hdP fs (stS fs k).1 (stS fs k).2):Rat)*(min (stS fs (k+1)).1 t-(stS fs k).1) else 0
def cF (fs:List F4) (i k:Nat):Rat:=if i∈hdP fs (stS fs k).1 (stS fs k).2 then (shr fs i:Rat)*((stS fs (k+1)).2-(stS fs k).2) else 0
def aT (fs:List F4) (t:Rat) (i N:Nat):Rat:=tq ((List.range N).map (cT fs t i))
def aF (fs:List F4) (i N:Nat):Rat:=tq ((List.range N).map (cF fs i))
theorem aT_succ (t:Rat) (i N:Nat):aT fs t i (N+1)=aT fs t i N+cT fs t i N:=by
  unfold aT
  rw [List.range_succ,List.map_append,tq_app]
  show _ + (cT fs t i N+0) = _
  grind
theorem aF_succ (i N:Nat):aF fs i (N+1)=aF fs i N+cF fs i N:=by
  unfold aF
  rw [List.range_succ,List.map_append,tq_app]
  show _ + (cF fs i N+0) = _
  grind
theorem Run.shr1 (R:Run fs w) {i:Nat} {f:F4} (hf:fs[i]? = some f):(0:Rat)<(shr fs i:Rat):=by
  rw [shr_at hf]
  exact q_cast_pos (by have:=R.s1 f (List.mem_of_getElem? hf); omega)
theorem Run.cF_eq (R:Run fs w) {i k:Nat} (h:i∈hdP fs (stS fs k).1 (stS fs k).2):cF fs i k=(shr fs i:Rat) / (shP fs (hdP fs (stS fs k).1 (stS fs k).2):Rat)*((stS fs (k+1)).1-(stS fs k).1):=by
  have ne:hdP fs (stS fs k).1 (stS fs k).2≠[]:=fun z=>by rw [z] at h; cases h
  have st:=R.st1 ne
  have sp:(0:Rat)<(shP fs (hdP fs (stS fs k).1 (stS fs k).2):Rat):=q_cast_pos (by have:=shP_pos R.s1 ne; omega)
  unfold cF
  rw [if_pos h,st.ma]
  generalize (shP fs (hdP fs (stS fs k).1 (stS fs k).2):Rat)=S at *
  grind
theorem Run.cT_le (R:Run fs w) {t:Rat} {i k:Nat}:0≤cT fs t i k∧cT fs t i k≤cF fs i k:=by
  by_cases h:i∈hdP fs (stS fs k).1 (stS fs k).2
  · have ne:hdP fs (stS fs k).1 (stS fs k).2≠[]:=fun z=>by rw [z] at h; cases h
    have st:=R.st1 ne
    obtain ⟨f,hf,_⟩:=hdP_mem.mp h
    have s0:=R.shr1 hf
    have sp:(0:Rat)<(shP fs (hdP fs (stS fs k).1 (stS fs k).2):Rat):=q_cast_pos (by have:=shP_pos R.s1 ne; omega)
    have r0:(0:Rat)≤(shr fs i:Rat) / (shP fs (hdP fs (stS fs k).1 (stS fs k).2):Rat):=by
      have:=div_mono sp (show (0:Rat)≤(shr fs i:Rat) by grind)
      have e:(0:Rat) / (shP fs (hdP fs (stS fs k).1 (stS fs k).2):Rat) = 0:=by grind
      rw [e] at this
      exact this
    have lt:=st.lt
    rw [R.cF_eq h]
    unfold cT
    by_cases c:(stS fs k).1<t
    · rw [if_pos ⟨h,c⟩]
      have m1:min (stS fs (k+1)).1 t-(stS fs k).1≤(stS fs (k+1)).1-(stS fs k).1:=by rw [Rat.min_def]; split <;> grind
      have m0:0≤min (stS fs (k+1)).1 t-(stS fs k).1:=by rw [Rat.min_def]; split <;> grind
      exact ⟨Rat.mul_nonneg r0 m0,Rat.mul_le_mul_of_nonneg_left m1 r0⟩
    · rw [if_neg (fun z=>c z.2)]
      exact ⟨Rat.le_refl,Rat.mul_nonneg r0 (by grind)⟩
  · unfold cT cF
    rw [if_neg (fun z=>h z.1),if_neg h]
    exact ⟨Rat.le_refl,Rat.le_refl⟩
theorem Run.aF_at (R:Run fs w) {i k1 k2:Nat} {f:F4} (hf:fs[i]? = some f) (L:Lives fs i f k1 k2):∀ N,(N≤k1→aF fs i N = 0)∧(k1≤N→N≤k2→aF fs i N=(shr fs i:Rat)*((stS fs N).2-f.2.1))∧(k2≤N→aF fs i N=(shr fs i:Rat)*(f.2.2.1-f.2.1))
  | 0=>by
    have lt:=L.lt
    have b:=(R.born hf L).1
    refine ⟨fun _=>rfl,fun h _=>?_,fun h=>by omega⟩
    have:k1 = 0:=by omega
    rw [this] at b
    show (0:Rat) = _
    rw [b]; grind
  | N+1=>by
    obtain ⟨a1,a2,a3⟩:=R.aF_at hf L N
    have lt:=L.lt
    have b:=(R.born hf L).1
    have en:=L.en
    rw [aF_succ]
    have hd:i∈hdP fs (stS fs N).1 (stS fs N).2↔k1≤N∧N<k2:=by rw [← hdAt_mem]; exact L.hd N
    refine ⟨fun h=>?_,fun h1 h2=>?_,fun h=>?_⟩
    · rw [a1 (by omega)]
      unfold cF
      rw [if_neg (fun z=>by have:=hd.mp z; omega)]
      grind
    · by_cases c:k1≤N
      · rw [a2 c (by omega)]
        unfold cF
        rw [if_pos (hd.mpr ⟨c,by omega⟩)]
        grind
      · have e:k1=N+1:=by omega
        rw [a1 (by omega)]
        unfold cF
        rw [if_neg (fun z=>by have:=hd.mp z; omega),← e,b]
        grind
    · by_cases c:k2≤N
      · rw [a3 c]
        unfold cF
        rw [if_neg (fun z=>by have:=hd.mp z; omega)]
        grind
      · have e:k2=N+1:=by omega
        rw [a2 (by omega) (by omega)]
        unfold cF
        rw [if_pos (hd.mpr ⟨by omega,by omega⟩),← e,en]
        grind
theorem Run.aT_le (R:Run fs w) {t:Rat} {i:Nat}:∀ N,0≤aT fs t i N∧aT fs t i N≤aF fs i N
  | 0=>⟨Rat.le_refl,Rat.le_refl⟩
  | N+1=>by
    have a:=R.aT_le (t:=t) (i:=i) N
    have b:=R.cT_le (t:=t) (i:=i) (k:=N)
    rw [aT_succ,aF_succ]
    exact ⟨by grind,by grind⟩
theorem Run.aT_none (R:Run fs w) {t:Rat} {i k1 k2:Nat} {f:F4} (L:Lives fs i f k1 k2) (h:t≤(stS fs k1).1):∀ N,aT fs t i N = 0
  | 0=>rfl
  | N+1=>by
    rw [aT_succ,R.aT_none L h N]
    unfold cT
    rw [if_neg (fun z=>by
      have hd:=(L.hd N).mp (hdAt_mem.mpr z.1)
      have mo:=(stS_mono R.s1 hd.1).1
      have:=z.2
      grind)]
    grind
theorem Run.aT_all (R:Run fs w) {t:Rat} {i k1 k2:Nat} {f:F4} (L:Lives fs i f k1 k2) (h:(stS fs k2).1≤t):∀ N,aT fs t i N=aF fs i N
  | 0=>rfl
  | N+1=>by
    rw [aT_succ,aF_succ,R.aT_all L h N]
    congr 1
    by_cases c:i∈hdP fs (stS fs N).1 (stS fs N).2
    · have ne:hdP fs (stS fs N).1 (stS fs N).2≠[]:=fun z=>by rw [z] at c; cases c
      have hd:=(L.hd N).mp (hdAt_mem.mpr c)
      have mo:=(stS_mono R.s1 (show N+1≤k2 by omega)).1
      have lt:=(R.st1 ne).lt
      rw [R.cF_eq c]
      unfold cT
      rw [if_pos ⟨c,by grind⟩]
      have e:min (stS fs (N+1)).1 t=(stS fs (N+1)).1:=by rw [Rat.min_def]; split <;> grind
      rw [e]
    · unfold cT cF
      rw [if_neg (fun z=>c z.1),if_neg c]
theorem tq_filter {α:Type} (p:α→Bool) (f:α→Rat):∀ l:List α,tq ((l.filter p).map f)=tq (l.map fun x=>if p x=true then f x else 0)
  | []=>rfl
  | x :: r=>by
    rw [List.filter_cons,List.map_cons]
    show _=(if p x=true then f x else 0)+tq (r.map fun x=>if p x=true then f x else 0)
    rw [← tq_filter p f r]
    by_cases c:p x=true
    · rw [if_pos c,if_pos c]; rfl
    · rw [if_neg c,if_neg c]; grind
theorem tq_add {α:Type} (f g:α→Rat):∀ l:List α,tq (l.map fun x=>f x+g x)=tq (l.map f)+tq (l.map g)
  | []=>by show (0:Rat) = 0+0; grind
  | x :: r=>by
    show f x+g x+tq (r.map fun x=>f x+g x)=f x+tq (r.map f)+(g x+tq (r.map g))
    rw [tq_add f g r]
    grind
theorem tq_congr {α:Type} {f g:α→Rat} {l:List α} (h:∀ x∈l,f x=g x):tq (l.map f)=tq (l.map g):=by rw [List.map_congr_left h]
def fwL (v:Nat→Int) (who:Int) (t:Rat) (xs:List Sch):List Rat:=xs.flatMap fun x=>if x.1<t then (x.2.2.filter fun p=>decide (v p.1=who)).map fun p=>p.2*(min x.2.1 t-x.1) else []
theorem fwL_app (v:Nat→Int) (who:Int) (t:Rat) (xs ys:List Sch):fwL v who t (xs++ys)=fwL v who t xs++fwL v who t ys:=by unfold fwL; rw [List.flatMap_append]
def gT (fs:List F4) (v:Nat→Int) (who:Int) (t:Rat) (N:Nat):Rat:=tq ((List.range fs.length).map fun i=>if v i=who then aT fs t i N else 0)
theorem emit_sum (v:Nat→Int) (who:Int) (t:Rat) (k:Nat):tq (fwL v who t (emit fs k))=tq ((List.range fs.length).map fun i=>if v i=who then cT fs t i k else 0):=by
  have zero:∀ l:List Nat,tq (l.map fun _=>(0:Rat)) = 0:=fun l=>by
    induction l with
    | nil=>rfl
    | cons x r ih=>show (0:Rat)+tq (r.map fun _=>(0:Rat)) = 0; rw [ih]; grind
  have mem:∀ i∈List.range fs.length,(i∈hdP fs (stS fs k).1 (stS fs k).2↔hdI fs (stS fs k).1 (stS fs k).2 i=true):=fun i hi=>by
    rw [hdP_eq,List.mem_filter]
    exact ⟨fun z=>z.2,fun z=>⟨hi,z⟩⟩
  unfold emit
  by_cases e:hdP fs (stS fs k).1 (stS fs k).2 = []
  · rw [if_pos e]
    refine (zero (List.range fs.length)).symm.trans (tq_congr fun i _=>?_)
    have:cT fs t i k = 0:=by unfold cT; rw [if_neg (fun z=>by rw [e] at z; cases z.1)]
    rw [this]; split <;> rfl
  · rw [if_neg e]
    show tq (((if (stS fs k).1<t then ((prt fs (stS fs k).1 (stS fs k).2).filter fun p=>decide (v p.1=who)).map fun p=>p.2*(min (stS fs (k+1)).1 t-(stS fs k).1) else [])++[])) = _
    rw [List.append_nil]
    by_cases c:(stS fs k).1<t
    · rw [if_pos c,tq_filter]
      unfold prt
      rw [List.map_map,hdP_eq,tq_filter]
      refine tq_congr fun i hi=>?_
      have m:=mem i hi
      rw [hdP_eq] at m
      unfold cT
      by_cases d:hdI fs (stS fs k).1 (stS fs k).2 i=true
      · rw [if_pos d]
        show (if decide (v i=who)=true then _ else _) = _
        by_cases vw:v i=who
        · rw [if_pos (decide_eq_true vw),if_pos vw,if_pos ⟨by rw [hdP_eq]; exact m.mpr d,c⟩,hdP_eq]
        · rw [if_neg (by rw [decide_eq_true_eq]; exact vw),if_neg vw]
      · rw [if_neg d,hdP_eq,if_neg (show ¬ (i∈(List.range fs.length).filter (hdI fs (stS fs k).1 (stS fs k).2)∧(stS fs k).1<t) from fun z=>d (m.mp z.1))]
        split <;> rfl
    · rw [if_neg c]
      refine (zero (List.range fs.length)).symm.trans (tq_congr fun i _=>?_)
      have:cT fs t i k = 0:=by unfold cT; rw [if_neg (fun z=>c z.2)]
      rw [this]; split <;> rfl
theorem fw_sum (v:Nat→Int) (who:Int) (t:Rat):∀ N,tq (fwL v who t (flowF fs N 0 0))=gT fs v who t N
  | 0=>by
    show (0:Rat)=gT fs v who t 0
    unfold gT
    have:∀ l:List Nat,tq (l.map fun i=>if v i=who then aT fs t i 0 else 0) = 0:=fun l=>by
      induction l with
      | nil=>rfl
      | cons x r ih =>
        show (if v x=who then aT fs t x 0 else 0)+tq _ = 0
        rw [ih]
        have:aT fs t x 0 = 0:=rfl
        rw [this]
        split <;> grind
    exact (this _).symm
  | N+1=>by
    rw [flowF_snoc,fwL_app,tq_app,fw_sum v who t N,emit_sum]
    unfold gT
    rw [← tq_add]
    refine tq_congr fun i _=>?_
    rw [aT_succ]
    split
    · rfl
    · grind
theorem tq_zero {α:Type}:∀ l:List α,tq (l.map fun _=>(0:Rat)) = 0
  | []=>rfl
  | _ :: r=>by show (0:Rat)+tq (r.map fun _=>(0:Rat)) = 0; rw [tq_zero r]; grind
theorem tq_pick {α:Type} [DecidableEq α] {a:Rat} {u:α}:∀ {ws:List α},ws.Nodup→u∈ws→tq (ws.map fun x=>if u=x then a else 0)=a
  | [],_,h=>by cases h
  | x :: r,nd,h=>by
    obtain ⟨n1,n2⟩:=List.nodup_cons.mp nd
    show (if u=x then a else 0)+tq (r.map fun x=>if u=x then a else 0)=a
    by_cases c:u=x
    · subst c
      have z:tq (r.map fun x=>if u=x then a else 0) = 0:=(tq_congr fun y hy=>by rw [if_neg (fun e=>n1 (by rw [e]; exact hy))]).trans (tq_zero r)
      rw [if_pos rfl,z]; grind
    · rw [if_neg c,tq_pick n2 ((List.mem_cons.mp h).resolve_left c)]; grind
def bsT (t:Rat) (x:Sch):Rat:=if x.1<t then min x.2.1 t-x.1 else 0
theorem tq_mul {α:Type} (f:α→Rat) (c:Rat):∀ l:List α,tq (l.map fun x=>f x*c)=tq (l.map f)*c
  | []=>by show (0:Rat) = 0*c; grind
  | x :: r=>by
    show f x*c+tq (r.map fun x=>f x*c)=(f x+tq (r.map f))*c
    rw [tq_mul f c r]; grind
theorem tq_cast (f:Nat→Int):∀ l:List Nat,tq (l.map fun i=>(f i:Rat))=((l.map f).sum:Rat)
  | []=>rfl
  | x :: r=>by
    show (f x:Rat)+tq (r.map fun i=>(f i:Rat))=((f x+(r.map f).sum:Int):Rat)
    rw [tq_cast f r,Rat.intCast_add]
theorem Run.emit_all (R:Run fs w) (t:Rat) (k:Nat):tq ((List.range fs.length).map fun i=>cT fs t i k)=tq ((emit fs k).map (bsT t)):=by
  have e1:tq ((List.range fs.length).map fun i=>cT fs t i k)=tq ((hdP fs (stS fs k).1 (stS fs k).2).map fun i=>if (stS fs k).1<t then (shr fs i:Rat) / (shP fs (hdP fs (stS fs k).1 (stS fs k).2):Rat)*(min (stS fs (k+1)).1 t-(stS fs k).1) else 0):=by
    conv=>rhs; rw [show (hdP fs (stS fs k).1 (stS fs k).2).map (fun i=>if (stS fs k).1<t then (shr fs i:Rat) / (shP fs (hdP fs (stS fs k).1 (stS fs k).2):Rat)*(min (stS fs (k+1)).1 t-(stS fs k).1) else 0)=((List.range fs.length).filter (hdI fs (stS fs k).1 (stS fs k).2)).map (fun i=>if (stS fs k).1<t then (shr fs i:Rat) / (shP fs (hdP fs (stS fs k).1 (stS fs k).2):Rat)*(min (stS fs (k+1)).1 t-(stS fs k).1) else 0) from rfl,tq_filter]
    refine tq_congr fun i hi=>?_
    have m:i∈hdP fs (stS fs k).1 (stS fs k).2↔hdI fs (stS fs k).1 (stS fs k).2 i=true:=by
      rw [hdP_eq,List.mem_filter]
      exact ⟨fun z=>z.2,fun z=>⟨hi,z⟩⟩
    unfold cT
    by_cases d:hdI fs (stS fs k).1 (stS fs k).2 i=true
    · rw [if_pos d]
      by_cases c:(stS fs k).1<t
      · rw [if_pos ⟨m.mpr d,c⟩,if_pos c]
      · rw [if_neg (fun z=>c z.2),if_neg c]
    · rw [if_neg d,if_neg (fun z=>d (m.mp z.1))]
  rw [e1]
  unfold emit
  by_cases e:hdP fs (stS fs k).1 (stS fs k).2 = []
  · rw [if_pos e,e]; rfl
  · rw [if_neg e]
    show _=(if (stS fs k).1<t then min (stS fs (k+1)).1 t-(stS fs k).1 else 0)+0
    by_cases c:(stS fs k).1<t
    · have sp:(shP fs (hdP fs (stS fs k).1 (stS fs k).2):Rat)≠0:=q_cast_ne (by have:=shP_pos R.s1 e; omega)
      rw [if_pos c,show (fun i=>if (stS fs k).1<t then (shr fs i:Rat) / (shP fs (hdP fs (stS fs k).1 (stS fs k).2):Rat)*(min (stS fs (k+1)).1 t-(stS fs k).1) else 0)=fun i=>(shr fs i:Rat)*((1 / (shP fs (hdP fs (stS fs k).1 (stS fs k).2):Rat))*(min (stS fs (k+1)).1 t-(stS fs k).1)) from funext fun i=>by rw [if_pos c]; grind]
      rw [tq_mul,tq_cast]
      show (shP fs (hdP fs (stS fs k).1 (stS fs k).2):Rat) * _ = _
      generalize (shP fs (hdP fs (stS fs k).1 (stS fs k).2):Rat)=S at *
      grind
    · rw [if_neg c,tq_congr (g:=fun _=>(0:Rat)) fun i _=>by rw [if_neg c],tq_zero]
      grind
theorem Run.busy (R:Run fs w) (t:Rat):∀ N,tq ((List.range fs.length).map fun i=>aT fs t i N)=tq ((flowF fs N 0 0).map (bsT t))
  | 0=>(tq_congr (g:=fun _=>(0:Rat)) fun i _=>rfl).trans (tq_zero _)
  | N+1=>by
    rw [flowF_snoc,List.map_append,tq_app,← R.busy t N,← R.emit_all t N,← tq_add]
    exact tq_congr fun i _=>aT_succ t i N
end
end Sw
namespace Sw
open L2
section
variable {n:Nat} {M:Int} {a c:Nat} {fs:List F4} {D:Int} {w:Nat→Int}
theorem st_all (o:FOk n M a c fs D):∀ N,∃ G,FSt n M a c fs D (stS fs N).1 (stS fs N).2 G∧∀ k,k≤N→Grd G (stS fs k).1∧Grd G (stS fs k).2
  | 0=>⟨D,.start o,fun k h=>by
      have:k = 0:=by omega
      subst this
      exact ⟨(FSt.start o).gm,(FSt.start o).gk⟩⟩
  | N+1=>by
    obtain ⟨G,s,al⟩:=st_all o N
    have step:∃ G' j:Int,j≠0∧G'=G*j∧FSt n M a c fs D (nxS fs (stS fs N)).1 (nxS fs (stS fs N)).2 G':=by
      unfold nxS
      by_cases ce:chA fs (stS fs N).1 (stS fs N).2 = []
      · rw [if_pos ce]; exact ⟨G,1,by decide,by omega,s⟩
      · rw [if_neg ce]
        by_cases he:hdP fs (stS fs N).1 (stS fs N).2 = []
        · rw [if_pos he]
          have t1:=turn_rest he ce
          refine ⟨G,1,by decide,by omega,s.rest o t1 ?_⟩
          rcases t1.way with z | z
          · exact z
          · exact absurd he z.1
        · rw [if_neg he]
          exact s.go2 o he
    obtain ⟨G',j,j0,e,s'⟩:=step
    refine ⟨G',s',fun k hk=>?_⟩
    by_cases c:k=N+1
    · subst c; exact ⟨s'.gm,s'.gk⟩
    · obtain ⟨x,y⟩:=al k (by omega)
      have g0:=s.g0
      rw [e]
      exact ⟨x.more (by omega) j0,y.more (by omega) j0⟩
theorem fwL_mem {v:Nat→Int} {who:Int} {t x:Rat}:∀ {N:Nat},x∈fwL v who t (flowF fs N 0 0)→∃ k i,k<N∧i∈hdP fs (stS fs k).1 (stS fs k).2∧(stS fs k).1<t∧x=cT fs t i k
  | 0,h=>by cases h
  | N+1,h=>by
    rw [flowF_snoc,fwL_app] at h
    rcases List.mem_append.mp h with z | z
    · obtain ⟨k,i,h1,h2⟩:=fwL_mem z
      exact ⟨k,i,by omega,h2⟩
    · unfold emit at z
      by_cases e:hdP fs (stS fs N).1 (stS fs N).2 = []
      · rw [if_pos e] at z; cases z
      · rw [if_neg e] at z
        unfold fwL at z
        obtain ⟨y,hy,hx⟩:=List.mem_flatMap.mp z
        have hy:=List.mem_singleton.mp hy
        subst hy
        dsimp only at hx
        by_cases c:(stS fs N).1<t
        · rw [if_pos c] at hx
          obtain ⟨p,hp,rfl⟩:=List.mem_map.mp hx
          have hp:=(List.mem_filter.mp hp).1
          unfold prt at hp
          obtain ⟨i,hi,rfl⟩:=List.mem_map.mp hp
          refine ⟨N,i,by omega,hi,c,?_⟩
          unfold cT
          rw [if_pos ⟨hi,c⟩]
        · rw [if_neg c] at hx; cases hx
theorem Grd.zero {B:Int} (h:B≠0):Grd B 0:=Grd.int h 0
theorem Run.bot (R:Run fs w) (o:FOk n M a c fs D) (t:Int) (N:Nat):∃ B:Int,0<B∧Sz 2060 B∧∀ k i,k<N→i∈hdP fs (stS fs k).1 (stS fs k).2→Grd B (cT fs (t:Rat) i k):=by
  obtain ⟨G,s,al⟩:=st_all o N
  have g0:=s.g0
  have gz:=s.z60 o
  have whole:∀ k i,k<N→i∈hdP fs (stS fs k).1 (stS fs k).2→(stS fs (k+1)).1≤(t:Rat)→Grd G (cT fs (t:Rat) i k):=fun k i hk hi le=>by
    have ne:hdP fs (stS fs k).1 (stS fs k).2≠[]:=fun z=>by rw [z] at hi; cases hi
    have lt:=(R.st1 ne).lt
    have e:cT fs (t:Rat) i k=cF fs i k:=by
      rw [R.cF_eq hi]
      unfold cT
      rw [if_pos ⟨hi,by grind⟩]
      have e:min (stS fs (k+1)).1 (t:Rat)=(stS fs (k+1)).1:=by rw [Rat.min_def]; split <;> grind
      rw [e]
    rw [e]
    unfold cF
    rw [if_pos hi,Rat.mul_comm]
    exact ((al (k+1) (by omega)).2.sub (al k (by omega)).2).muli _
  by_cases ex:∃ k,k<N∧hdP fs (stS fs k).1 (stS fs k).2≠[]∧(stS fs k).1<(t:Rat)∧(t:Rat)<(stS fs (k+1)).1
  · obtain ⟨k0,h1,h2,h3,h4⟩:=ex
    obtain ⟨S1,_,S3,_⟩:=o.shB h2
    have zS:Sz 59 (shP fs (hdP fs (stS fs k0).1 (stS fs k0).2)):=sz_of (by omega) (by omega)
    refine ⟨G*shP fs (hdP fs (stS fs k0).1 (stS fs k0).2),Int.mul_pos g0 (by omega),(gz.mul zS).mono (by decide),fun k i hk hi=>?_⟩
    by_cases c:(stS fs (k+1)).1≤(t:Rat)
    · exact (whole k i hk hi c).more (by omega) (by omega)
    · by_cases c2:(stS fs k).1<(t:Rat)
      · have ek:k=k0:=by
          rcases Nat.lt_trichotomy k k0 with z | z | z
          · exfalso
            have:=(stS_mono R.s1 (show k+1≤k0 from z)).1
            grind
          · exact z
          · exfalso
            have:=(stS_mono R.s1 (show k0+1≤k from z)).1
            grind
        subst ek
        unfold cT
        rw [if_pos ⟨hi,c2⟩]
        have e:min (stS fs (k+1)).1 (t:Rat)=(t:Rat):=by rw [Rat.min_def]; split <;> grind
        have gk:=(al k (by omega)).1
        rw [e]
        generalize shP fs (hdP fs (stS fs k).1 (stS fs k).2)=S at *
        have e2:(shr fs i:Rat) / (S:Rat)*((t:Rat)-(stS fs k).1)=((t:Rat)-(stS fs k).1) / (S:Rat)*(shr fs i:Rat):=by grind
        rw [e2]
        exact (Grd.divi (by omega) ((Grd.int (by omega) t).sub gk) (by omega)).muli _
      · unfold cT
        rw [if_neg (fun z=>c2 z.2)]
        exact Grd.zero (Int.mul_ne_zero (by omega) (by omega))
  · refine ⟨G,g0,gz.mono (by decide),fun k i hk hi=>?_⟩
    by_cases c:(stS fs (k+1)).1≤(t:Rat)
    · exact whole k i hk hi c
    · by_cases c2:(stS fs k).1<(t:Rat)
      · exact absurd ⟨k,hk,(fun z=>by rw [z] at hi; cases hi),c2,by grind⟩ ex
      · unfold cT
        rw [if_neg (fun z=>c2 z.2)]
        exact Grd.zero (by omega)
theorem Run.bs_le (R:Run fs w) (t:Rat):∀ N,tq ((flowF fs N 0 0).map (bsT t))≤(stS fs N).1
  | 0=>Rat.le_refl
  | N+1=>by
    have b:=R.bs_le t N
    rw [flowF_snoc,List.map_append,tq_app]
    have mo:=(stS_le R.s1 N).1
    unfold emit
    by_cases e:hdP fs (stS fs N).1 (stS fs N).2 = []
    · rw [if_pos e]
      show _ + (0:Rat)≤_
      grind
    · rw [if_neg e]
      have lt:=(R.st1 e).lt
      have m:bsT t ((stS fs N).1,(stS fs (N+1)).1,prt fs (stS fs N).1 (stS fs N).2)≤(stS fs (N+1)).1-(stS fs N).1:=by
        unfold bsT
        show (if (stS fs N).1<t then min (stS fs (N+1)).1 t-(stS fs N).1 else 0)≤_
        split
        · rw [Rat.min_def]; split <;> grind
        · grind
      show _ + (bsT t ((stS fs N).1,(stS fs (N+1)).1,prt fs (stS fs N).1 (stS fs N).2)+0)≤_
      grind
theorem Run.gT_le (R:Run fs w) (v:Nat→Int) (who:Int) (t:Rat) (N:Nat):gT fs v who t N≤(stS fs N).1:=by
  have h1:gT fs v who t N≤tq ((List.range fs.length).map fun i=>aT fs t i N):=tq_le fun i _=>by
    have:=(R.aT_le (t:=t) (i:=i) N).1
    split <;> grind
  have h2:=R.bs_le t N
  rw [← R.busy] at h2
  exact Rat.le_trans h1 h2
theorem Run.fw_sz (R:Run fs w) (o:FOk n M a c fs D) (v:Nat→Int) (who:Int) (t:Int) (N:Nat):(∀ x∈fwL v who (t:Rat) (flowF fs N 0 0),0≤x∧SzQ 2130 x)∧∀ j,SzQ 2130 (tq ((fwL v who (t:Rat) (flowF fs N 0 0)).take j)):=by
  obtain ⟨B,B0,Bz,gr⟩:=R.bot o t N
  obtain ⟨G,s,_⟩:=st_all o N
  have mo:=s.moB o
  have g:∀ x∈fwL v who (t:Rat) (flowF fs N 0 0),Grd B x:=fun x hx=>by
    obtain ⟨k,i,h1,h2,_,rfl⟩:=fwL_mem hx
    exact gr k i h1 h2
  have p:∀ x∈fwL v who (t:Rat) (flowF fs N 0 0),0≤x:=fun x hx=>by
    obtain ⟨k,i,h1,h2,_,rfl⟩:=fwL_mem hx
    exact R.cT_le.1
  have le:=R.gT_le v who (t:Rat) N
  rw [← fw_sum] at le
  have m1:((-10000000000000000000:Int):Rat)≤0:=by decide +kernel
  have m2:((1000000000000000000:Int):Rat)≤((10000000000000000000:Int):Rat):=by decide +kernel
  refine ⟨fun x hx=>⟨p x hx,big_sz B0 Bz (g x hx) ?_ ?_⟩,fun j=>?_⟩
  · have:=p x hx; grind
  · have:=tq_one p hx; grind
  · obtain ⟨t1,t2⟩:=tq_take p j
    exact big_sz B0 Bz (tq_grd (by omega) fun x hx=>g x (List.mem_of_mem_take hx)) (by grind) (by grind)
theorem Run.x_sz (R:Run fs w) (o:FOk n M a c fs D) {t:Int} (t0:0≤t) (t1:t<1000000000000000) {N:Nat} {x:Sch} (hx:x∈flowF fs N 0 0):SzQ 2130 x.1∧SzQ 2130 x.2.1∧SzQ 2130 (min x.2.1 (t:Rat)-x.1)∧x.2.2.length≤60∧∀ p∈x.2.2,p.1<fs.length∧SzQ 70 p.2:=by
  obtain ⟨j,hj⟩:=List.getElem?_of_mem hx
  obtain ⟨k,k0,k1,rfl,_⟩:=emits_at hj
  obtain ⟨G,s,al⟩:=st_all o N
  have g0:=s.g0
  have gz:=(s.z60 o).mono (show 2001≤2060 by decide)
  have mo:=s.moB o
  have a0:=(stS_mono R.s1 (Nat.zero_le k)).1
  have a1:=(stS_le R.s1 k).1
  have a2:=(stS_mono R.s1 (show k+1≤N from k0)).1
  have z0:(stS fs 0).1 = 0:=rfl
  rw [z0] at a0
  have g1:=(al k (by omega)).1
  have g2:=(al (k+1) (by omega)).1
  have m1:((-10000000000000000000:Int):Rat)≤-((1000000000000000000:Int):Rat):=by decide +kernel
  have m2:((1000000000000000000:Int):Rat)≤((10000000000000000000:Int):Rat):=by decide +kernel
  have m3:(0:Rat)≤((1000000000000000000:Int):Rat):=by decide +kernel
  have q0:(0:Rat)≤(t:Rat):=Rat.intCast_le_intCast.mpr t0
  have q1:(t:Rat)≤((1000000000000000000:Int):Rat):=Rat.intCast_le_intCast.mpr (by omega)
  obtain ⟨S1,_,S3,_⟩:=o.shB k1
  have hl:=hdP_len fs (stS fs k).1 (stS fs k).2
  have ln:=o.ln
  have n1:=o.F.n1
  refine ⟨big_sz g0 gz g1 (by dsimp only; grind) (by dsimp only; grind),big_sz g0 gz g2 (by dsimp only; grind) (by dsimp only; grind),?_,?_,fun p hp=>?_⟩
  · dsimp only
    refine big_sz g0 gz ?_ ?_ ?_
    · refine Grd.sub ?_ g1
      rw [Rat.min_def]
      split
      · exact g2
      · exact Grd.int (by omega) t
    · rw [Rat.min_def]; split <;> grind
    · rw [Rat.min_def]; split <;> grind
  · show (prt fs (stS fs k).1 (stS fs k).2).length≤60
    unfold prt
    rw [List.length_map]
    omega
  · have hp:p∈prt fs (stS fs k).1 (stS fs k).2:=hp
    unfold prt at hp
    obtain ⟨i,hi,rfl⟩:=List.mem_map.mp hp
    obtain ⟨f,hf,_⟩:=hdP_mem.mp hi
    have sh:=o.sh f (List.mem_of_getElem? hf)
    have M2:=o.F.M2
    refine ⟨(List.getElem?_eq_some_iff.mp hf).1,?_⟩
    show SzQ 70 ((shr fs i:Rat) / (shP fs (hdP fs (stS fs k).1 (stS fs k).2):Rat))
    rw [shr_at hf]
    exact SzQ.of (by omega) rfl (Sz.r18 (by omega) (by omega)) (Sz.r18 (by omega) (by omega))
end
end Sw
namespace Sw
open L2
structure KR (qs:List Q4) (k:Nat) (dr:List Nat) (x:WS):Prop where
  pm:(x.2.2.map (·.1)++x.2.1.map (·.1)).Perm ((List.range k).filter fun p=>!dr.contains p)
  it:∀ i∈x.2.1,qs[i.1]? = some i.2.1
  so:x.2.1.Pairwise (fun i j=>i.1<j.1)
  dk:∀ p∈dr,p<k
  fr:x.1=freeOf qs x.2.2
  bz:∀ (j:Nat) (g:Nat×Int),x.2.2[j]? = some g→∃ p q,qs[p]? = some q∧g.2=(if q.1 > freeOf qs (x.2.2.take j) then q.1 else freeOf qs (x.2.2.take j))∧p<k∧p ∉ dr∧p ∉ (x.2.2.take j).map (·.1)∧∀ p',p' < p→p'∈dr∨p'∈(x.2.2.take j).map (·.1)
section
variable {qs:List Q4} {k:Nat} {dr:List Nat} {x:WS} {s:Ti}
theorem KR.mem (h:KR qs k dr x) {p:Nat}:(p∈x.2.2.map (·.1)∨p∈x.2.1.map (·.1))↔p<k∧p ∉ dr:=by
  rw [← List.mem_append,h.pm.mem_iff,List.mem_filter,List.mem_range]
  simp
theorem KR.nd (h:KR qs k dr x):(x.2.2.map (·.1)++x.2.1.map (·.1)).Nodup:=h.pm.nodup_iff.mpr (List.nodup_range.filter _)
theorem KR.nil (qs:List Q4):KR qs 0 [] (0,[],[]):=⟨.refl _,fun i h=>absurd h List.not_mem_nil,.nil,fun p h=>absurd h List.not_mem_nil,rfl,fun j g h=>by cases h⟩
theorem KR.go (h:KR qs k dr x):KR qs k dr (goF s x)∧(goF s x=x∨∃ c∈x.2.1,goF s x=(ctime x.1 x.2.1+c.2.1.2.2.1,x.2.1.erase c,x.2.2++[(c.1,ctime x.1 x.2.1)])):=by
  unfold goF
  cases hc:pickF s x with
  | none=>exact ⟨h,.inl rfl⟩
  | some c =>
    have cm:c∈x.2.1:=by
      rcases nextF_mem hc with ⟨a,_⟩ | e
      · exact a
      · cases e
    refine ⟨⟨?_,fun i hi=>h.it i (List.mem_of_mem_erase hi),h.so.sublist List.erase_sublist,h.dk,?_,?_⟩,.inr ⟨c,cm,rfl⟩⟩
    · refine List.Perm.trans ?_ h.pm
      dsimp only
      rw [List.map_append,List.append_assoc]
      refine List.Perm.append_left _ ?_
      exact ((List.perm_cons_erase cm).map (·.1)).symm
    · dsimp only
      unfold freeOf
      rw [List.getLast?_append]
      show _=ctime x.1 x.2.1+lenAt qs c.1
      unfold lenAt
      rw [h.it c cm]
      rfl
    · intro j g hg
      dsimp only at hg ⊢
      by_cases lt:j<x.2.2.length
      · rw [List.getElem?_append_left lt] at hg
        rw [List.take_append_of_le_length (by omega)]
        exact h.bz j g hg
      · have ej:j=x.2.2.length:=by
          have:=(List.getElem?_eq_some_iff.mp hg).1
          rw [List.length_append] at this
          simp only [List.length_cons,List.length_nil] at this
          omega
        subst ej
        have eg:(c.1,ctime x.1 x.2.1)=g:=by simpa using hg
        subst eg
        rw [List.take_append_of_le_length (Nat.le_refl _),List.take_of_length_le (Nat.le_refl _)]
        have nd:=h.nd
        have so:=h.so
        have it:=h.it
        have mem:=fun p=>h.mem (p:=p)
        have fr:=h.fr
        cases hx:x.2.1 with
        | nil=>rw [hx] at cm; cases cm
        | cons i r =>
          rw [hx] at nd so it mem
          have mi:=(mem i.1).mp (.inr (by simp))
          refine ⟨i.1,i.2.1,it i (by simp),?_,mi.1,mi.2,fun z=>?_,fun p' lt'=>?_⟩
          · rw [← fr]; rfl
          · exact (List.nodup_append.mp nd).2.2 _ z _ (by simp) rfl
          · by_cases pd:p'∈dr
            · exact .inl pd
            · right
              rcases (mem p').mpr ⟨by omega,pd⟩ with y | y
              · exact y
              · exfalso
                rw [List.map_cons,List.mem_cons] at y
                rcases y with y | y
                · omega
                · obtain ⟨i',hi',rfl⟩:=List.mem_map.mp y
                  have:=(List.pairwise_cons.mp so).1 i' hi'
                  omega
theorem KR.come (h:KR qs k dr x) {q:Q4} {b e:Rat} (hq:qs[k]? = some q):KR qs (k+1) dr (x.1,x.2.1++[(k,q,b,e)],x.2.2):=by
  have nk:k ∉ dr:=fun z=>by have:=h.dk k z; omega
  refine ⟨?_,fun i hi=>?_,?_,fun p hp=>by have:=h.dk p hp; omega,h.fr,fun j g hg=>?_⟩
  · dsimp only
    rw [List.map_append,← List.append_assoc,List.range_succ,List.filter_append,List.filter_cons_of_pos (by simpa using nk),List.filter_nil]
    exact h.pm.append_right _
  · rcases List.mem_append.mp hi with z | z
    · exact h.it i z
    · rw [List.mem_singleton.mp z]; exact hq
  · refine List.pairwise_append.mpr ⟨h.so,List.pairwise_singleton _ _,fun i hi j hj=>?_⟩
    rw [List.mem_singleton.mp hj]
    exact (h.mem.mp (.inr (List.mem_map.mpr ⟨i,hi,rfl⟩))).1
  · obtain ⟨p,q',a1,a2,a3,a4⟩:=h.bz j g hg
    exact ⟨p,q',a1,a2,by omega,a4⟩
theorem KR.drop (h:KR qs k dr x):KR qs (k+1) (dr++[k]) x:=by
  refine ⟨?_,h.it,h.so,fun p hp=>?_,h.fr,fun j g hg=>?_⟩
  · refine h.pm.trans (.of_eq ?_)
    rw [List.range_succ,List.filter_append,List.filter_cons_of_neg (by simp),List.filter_nil,List.append_nil]
    refine List.filter_congr fun p hp=>?_
    have:=List.mem_range.mp hp
    rw [List.contains_append]
    have ne:¬ p=k:=by omega
    simp [ne]
  · rcases List.mem_append.mp hp with z | z
    · have:=h.dk p z; omega
    · have:p=k:=List.mem_singleton.mp z
      omega
  · obtain ⟨p,q',a1,a2,a3,a4,a5,a6⟩:=h.bz j g hg
    refine ⟨p,q',a1,a2,by omega,fun z=>?_,a5,fun p' lt=>?_⟩
    · rcases List.mem_append.mp z with y | y
      · exact a4 y
      · have:p=k:=List.mem_singleton.mp y
        omega
    · rcases a6 p' lt with y | y
      · exact .inl (List.mem_append.mpr (.inl y))
      · exact .inr y
def NB (b:Int) (x:WS):Prop:=x.2.1≠[]→b≤ctime x.1 x.2.1
theorem KR.run (l0:∀ q∈qs,0≤q.2.2.1) (lim:Option Int):∀ (m:Nat) {x:WS},KR qs k dr x→KR qs k dr (runF s lim m x)∧∀ b,NB b x→NB b (runF s lim m x)∧∃ rest,(runF s lim m x).2.2=x.2.2++rest∧∀ g∈rest,b≤g.2
  | 0,x,h=>⟨h,fun b nb=>⟨nb,[],(List.append_nil _).symm,fun g hg=>absurd hg List.not_mem_nil⟩⟩
  | m+1,x,h=>by
    unfold runF
    by_cases d:goOn lim x
    · rw [if_pos d]
      obtain ⟨h1,way⟩:=h.go (s:=s)
      obtain ⟨h2,al⟩:=KR.run l0 lim m h1
      refine ⟨h2,fun b nb=>?_⟩
      rcases way with e | ⟨c,cm,e⟩
      · rw [e] at al ⊢
        exact al b nb
      · have lc:=l0 _ (List.mem_of_getElem? (h.it c cm))
        have bc:=nb d.1
        have nb1:NB b (goF s x):=fun _=>by
          have:=ctime_ge (goF s x).1 (goF s x).2.1
          have e1:(goF s x).1=ctime x.1 x.2.1+c.2.1.2.2.1:=by rw [e]
          omega
        obtain ⟨n2,rest,er,ge⟩:=al b nb1
        refine ⟨n2,(c.1,ctime x.1 x.2.1) :: rest,?_,fun g hg=>?_⟩
        · rw [er,e]
          simp
        · rcases List.mem_cons.mp hg with y | y
          · rw [y]; exact bc
          · exact ge g y
    · rw [if_neg d]
      exact ⟨h,fun b nb=>⟨nb,[],(List.append_nil _).symm,fun g hg=>absurd hg List.not_mem_nil⟩⟩
end
section
variable {n:Nat} {M:Int} {a c:Nat} {rm:Int→Option Int} {qs:List Q4}
theorem Good.l0 (g:Good n M a c qs):∀ q∈qs,0≤q.2.2.1:=fun q hq=>by have:=(g.pc q hq).2.2.1; omega
theorem dealR_kr (g:Good n M a c qs):∀ {k:Nat},k≤qs.length→KR qs k (dealR rm qs k).2.2 (dealR rm qs k).2.1
  | 0,_=>KR.nil qs
  | k+1,hk=>by
    have h:=dealR_kr g (k:=k) (by omega)
    have e:qs[k]? = some (qs[k]'(by omega)):=List.getElem?_eq_getElem _
    generalize qs[k]'(by omega)=q at e
    have h1:=(KR.run (s:=(dealR rm qs k).1) g.l0 (some q.1) (dealR rm qs k).2.1.2.1.length h).1
    rw [dealR_go e]
    unfold dealR1
    dsimp only
    split
    · exact h1.drop
    · exact h1.come e
theorem isum_perm {a b:List Int} (h:a.Perm b):a.sum=b.sum:=by
  induction h with
  | nil=>rfl
  | cons x _ ih=>rw [List.sum_cons,List.sum_cons,ih]
  | swap x y l=>simp only [List.sum_cons]; omega
  | trans _ _ i1 i2=>rw [i1,i2]
theorem dealtR_kr (g:Good n M a c qs):KR qs qs.length (droppedR rm qs) (dealtR rm qs):=(KR.run (s:=(dealR rm qs qs.length).1) g.l0 none (dealR rm qs qs.length).2.1.2.1.length (dealR_kr (rm:=rm) g (Nat.le_refl _))).1
theorem dealtR_nil (g:Good n M a c qs):(dealtR rm qs).2.1 = []:=by
  obtain ⟨t,T,G,D,tk,h,_⟩:=dealR_tr (rm:=rm) g (k:=qs.length) (Nat.le_refl _)
  obtain ⟨G',h',en⟩:=DR.run none _ h (Nat.le_refl _)
  cases z:(dealtR rm qs).2.1 with
  | nil=>rfl
  | cons i r=>exact absurd ⟨(by show (dealtR rm qs).2.1≠[]; rw [z]; simp),fun a y=>by cases y⟩ en
end
end Sw
namespace L2
open PySem PySem.Spec PyProof.Rows
section
variable {X:Cx}
end
section
variable {X:Cx}
end
end L2
namespace L2
open PySem PySem.Spec PyProof.Rows
section
variable {X:Cx}
end
end L2
namespace Sw
open L2
section
variable {fs:List F4} {w:Nat→Int}
def clp (s u x:Rat):Rat:=max s (min u x)
theorem bs_clp {s u:Rat} (su:s≤u) {x y:Rat} (xy:x≤y):(if x<u then min y u-x else 0)-(if x<s then min y s-x else 0)=clp s u y-clp s u x:=by
  unfold clp
  simp only [Rat.max_def,Rat.min_def]
  repeat' split
  all_goals grind
theorem clp_mono {s u x y:Rat} (su:s≤u) (xy:x≤y):clp s u x≤clp s u y:=by
  unfold clp
  simp only [Rat.max_def,Rat.min_def]
  repeat' split
  all_goals grind
theorem clp_in {s u:Rat} (su:s≤u) (x:Rat):s≤clp s u x∧clp s u x≤u:=by
  unfold clp
  simp only [Rat.max_def,Rat.min_def]
  repeat' split
  all_goals constructor
  all_goals grind
theorem Run.work (R:Run fs w) {s u:Rat} (su:s≤u):∀ N,tq ((flowF fs N 0 0).map (bsT u))-tq ((flowF fs N 0 0).map (bsT s))≤clp s u (stS fs N).1-clp s u (stS fs 0).1
  | 0=>by
    show tq [] - tq []≤_
    grind
  | N+1=>by
    have ih:=R.work su N
    have mo:=(stS_le R.s1 N).1
    have cm:=clp_mono su mo
    rw [flowF_snoc,List.map_append,List.map_append,tq_app,tq_app]
    have st:tq ((emit fs N).map (bsT u))-tq ((emit fs N).map (bsT s))≤clp s u (stS fs (N+1)).1-clp s u (stS fs N).1:=by
      unfold emit
      split
      · show tq [] - tq []≤_
        grind
      · have:=bs_clp su mo
        show (bsT u _ + tq [])-(bsT s _ + tq [])≤_
        unfold bsT
        show ((if (stS fs N).1<u then min (stS fs (N+1)).1 u-(stS fs N).1 else 0)+0)-((if (stS fs N).1<s then min (stS fs (N+1)).1 s-(stS fs N).1 else 0)+0)≤_
        grind
    grind
theorem Run.cT_mono (R:Run fs w) {s u:Rat} (su:s≤u) (i k:Nat):cT fs s i k≤cT fs u i k:=by
  by_cases h:i∈hdP fs (stS fs k).1 (stS fs k).2∧(stS fs k).1<s
  · have h2:i∈hdP fs (stS fs k).1 (stS fs k).2∧(stS fs k).1<u:=⟨h.1,by grind⟩
    unfold cT
    rw [if_pos h,if_pos h2]
    obtain ⟨f,hf,_⟩:=hdP_mem.mp h.1
    have p1:=R.shr1 hf
    have p2:(0:Rat)<(shP fs (hdP fs (stS fs k).1 (stS fs k).2):Rat):=by
      have:=shP_pos R.s1 (fun z=>by rw [z] at h; cases h.1:hdP fs (stS fs k).1 (stS fs k).2≠[])
      exact q_cast_pos (by omega)
    have d0:0≤(shr fs i:Rat) / (shP fs (hdP fs (stS fs k).1 (stS fs k).2):Rat):=by
      have:=div_mono p2 (Rat.le_of_lt p1)
      grind
    refine Rat.mul_le_mul_of_nonneg_left ?_ d0
    simp only [Rat.min_def]
    split <;> split <;> grind
  · have:=(R.cT_le (t:=u) (i:=i) (k:=k)).1
    have e:cT fs s i k = 0:=by unfold cT; rw [if_neg h]
    rw [e]
    exact this
theorem Run.aT_mono (R:Run fs w) {s u:Rat} (su:s≤u) (i:Nat):∀ N,aT fs s i N≤aT fs u i N
  | 0=>Rat.le_refl
  | N+1=>by
    rw [aT_succ,aT_succ]
    have:=R.aT_mono su i N
    have:=R.cT_mono su i N
    grind
structure Spn (fs:List F4) (p:Nat) (b u:Rat):Prop where
  ex:∃ f k1 k2,fs[p]? = some f∧Lives fs p f k1 k2∧b=(stS fs k1).1∧u=(stS fs k2).1
def lnF (fs:List F4) (p:Nat):Rat:=(shr fs p:Rat)*(enP fs p-((fs[p]?).map fun f=>f.2.1).getD 0)
theorem lnF_at {p:Nat} {f:F4} (h:fs[p]? = some f):lnF fs p=(shr fs p:Rat)*(f.2.2.1-f.2.1):=by
  unfold lnF enP
  rw [h]
  rfl
theorem Run.room (R:Run fs w) {s u:Rat} (su:s≤u) {S:List Nat} (nd:S.Nodup) (h:∀ p∈S,∃ b e,Spn fs p b e∧s≤b∧e≤u):tq (S.map (lnF fs))≤u-s:=by
  have inr:∀ p∈S,p<fs.length:=fun p hp=>by
    obtain ⟨b,e,sp,_⟩:=h p hp
    obtain ⟨f,_,_,hf,_⟩:=sp.ex
    exact (List.getElem?_eq_some_iff.mp hf).1
  have N0:=2*fs.length+1
  have each:∀ p∈S,lnF fs p=aT fs u p (2*fs.length+1)-aT fs s p (2*fs.length+1):=fun p hp=>by
    obtain ⟨b,e,sp,h1,h2⟩:=h p hp
    obtain ⟨f,k1,k2,hf,L,rfl,rfl⟩:=sp.ex
    have lk:=L.le R.s1 (Nat.le_refl _)
    rw [R.aT_all L h2,R.aT_none L h1,(R.aF_at hf L _).2.2 lk,lnF_at hf]
    grind
  have pm:S.Perm ((List.range fs.length).filter fun p=>S.contains p):=(List.perm_ext_iff_of_nodup nd (List.nodup_range.filter _)).mpr fun p=>by
    rw [List.mem_filter,List.mem_range]
    simp only [List.contains_iff_mem]
    exact ⟨fun z=>⟨inr p z,z⟩,fun z=>z.2⟩
  have e1:tq (S.map (lnF fs))=tq (S.map fun p=>aT fs u p (2*fs.length+1)-aT fs s p (2*fs.length+1)):=tq_congr each
  have e2:=tq_perm (pm.map fun p=>aT fs u p (2*fs.length+1)-aT fs s p (2*fs.length+1))
  have e3:=tq_filter (fun p=>S.contains p) (fun p=>aT fs u p (2*fs.length+1)-aT fs s p (2*fs.length+1)) (List.range fs.length)
  have le:tq ((List.range fs.length).map fun p=>if S.contains p=true then aT fs u p (2*fs.length+1)-aT fs s p (2*fs.length+1) else 0)≤tq ((List.range fs.length).map fun p=>aT fs u p (2*fs.length+1)-aT fs s p (2*fs.length+1)):=tq_le fun p _=>by
    have:=R.aT_mono su p (2*fs.length+1)
    split <;> grind
  have sub:=tq_sub (fun p=>aT fs u p (2*fs.length+1)) (fun p=>aT fs s p (2*fs.length+1)) (List.range fs.length)
  have b1:=R.busy u (2*fs.length+1)
  have b2:=R.busy s (2*fs.length+1)
  have wk:=R.work su (2*fs.length+1)
  have c1:=clp_in su (stS fs (2*fs.length+1)).1
  have c2:=clp_in su (stS fs 0).1
  grind
theorem Run.tag_le (R:Run fs w) {k p k1 k2:Nat} {f:F4} {t:Rat} (hf:fs[p]? = some f) (L:Lives fs p f k1 k2) (I:In fs k t) (h:(stS fs k1).1≤t):f.2.1≤ms fs k t:=by
  have e:=(R.born hf L).1
  have a1:=I.ma_le R.s1
  rcases Nat.lt_or_ge k k1 with lt | ge
  · by_cases c:chA fs (stS fs k).1 (stS fs k).2 = []
    · have:=stS_stay c (Nat.le_of_lt lt)
      rw [this] at e
      grind
    · have a2:=I.le c
      have a3:=(stS_mono R.s1 (Nat.succ_le_of_lt lt)).1
      have et:t=(stS fs (k+1)).1:=by grind
      have:=ms_nx c
      rw [et,this]
      have:=ma_of_mo R.s1 (j:=k1) (k:=k+1) (by grind)
      grind
  · have:=(stS_mono R.s1 ge).2
    grind
theorem Run.begun (R:Run fs w) {k p k1 k2:Nat} {f:F4} {t:Rat} (hf:fs[p]? = some f) (L:Lives fs p f k1 k2) (I:In fs k t) (hc:(f.1:Rat)≤t) (h:f.2.1≤ms fs k t):(stS fs k1).1≤t:=by
  have e:=(R.born hf L).1
  have bt:=R.bt p f hf
  by_cases c:(stS fs k1).1≤t
  · exact c
  exfalso
  have lt:k<k1:=by
    rcases Nat.lt_or_ge k k1 with z | z
    · exact z
    · have:=(stS_mono R.s1 z).1
      have:=I.ge
      grind
  have no:∀ j,j<k1→¬ hdAt fs p (stS fs j):=fun j hj z=>by
    have:=((L.hd j).mp z).1
    omega
  have a2:=I.le_ma R.s1
  have a3:=(stS_mono R.s1 (Nat.succ_le_of_lt lt)).2
  have em:ms fs k t=f.2.1:=by grind
  have e1:(stS fs (k+1)).2=f.2.1:=by grind
  have hne:chA fs (stS fs k).1 (stS fs k).2≠[]:=fun z=>by
    have:=stS_stay z (Nat.le_of_lt lt)
    have:=I.ge
    grind
  have tl:t≤(stS fs (k+1)).1:=I.le hne
  by_cases hd:hdP fs (stS fs k).1 (stS fs k).2 = []
  · have e0:(stS fs k).2=f.2.1:=by
      rw [← em]
      unfold ms
      rw [if_pos hd]
    by_cases cm:(f.1:Rat)≤(stS fs k).1
    · exact no k lt ⟨f,hf,cm,by grind,by grind⟩
    · have:(f.1:Rat)∈chA fs (stS fs k).1 (stS fs k).2:=by
        unfold chA
        exact List.mem_append.mpr (.inl (chs_mem.mpr ⟨f,List.mem_of_getElem? hf,by grind,rfl⟩))
      have n1:=nx_le this
      have k2':k+1<k1:=by
        rcases Nat.lt_or_ge (k+1) k1 with z | z
        · exact z
        · have:k1=k+1:=by omega
          rw [this] at c
          grind
      exact no (k+1) k2' ⟨f,hf,by grind,by grind,by grind⟩
  · have lt2:t<(stS fs (k+1)).1∨t=(stS fs (k+1)).1:=by grind
    rcases lt2 with z | z
    · have:=In.ma_lt R.s1 hd z
      grind
    · have k2':k+1<k1:=by
        rcases Nat.lt_or_ge (k+1) k1 with y | y
        · exact y
        · have:k1=k+1:=by omega
          rw [this] at c
          grind
      exact no (k+1) k2' ⟨f,hf,by grind,by grind,by grind⟩
structure Btt (fs:List F4) (us:List T3) (lat re0 t:Rat):Prop where
  s1:∀ f∈fs,1≤f.2.2.2
  sep:∀ f∈fs,(f.1:Rat)≤lat∨t<(f.1:Rat)
  hd:∀ mo ma,lat≤mo→mo≤t→re0≤ma→hdT fs mo ma=hds us ma
theorem run_in {us:List T3} {lat re0 t:Rat} (b:Btt fs us lat re0 t) (us1:∀ u∈us,1≤u.2.2):∀ (n k:Nat) (mo re:Rat),stS fs k=(mo,re)→lat≤mo→mo≤t→re0≤re→ahead us re<n→∃ k',In fs k' t∧ms fs k' t=markF us t n mo re
  | 0,_,_,_,_,_,_,_,h=>absurd h (Nat.not_lt_zero _)
  | n+1,k,mo,re,e,h1,h2,h3,h4=>by
    have hT:=b.hd mo re h1 h2 h3
    have c2:∀ y∈chs fs mo,t<y:=fun y hy=>by
      obtain ⟨f,hf,h,e⟩:=chs_mem.mp hy
      rw [e]
      rcases b.sep f hf with z | z
      · grind
      · exact z
    have step:stS fs (k+1)=nxS fs (mo,re):=by show nxS fs (stS fs k) = _; rw [e]
    have nx:chA fs (stS fs k).1 (stS fs k).2≠[]→(stS fs (k+1)).1∈chA fs mo re:=fun z=>by
      rw [nx_eq z,e]
      rw [e] at z
      exact minL_mem z
    unfold markF
    by_cases hh:hds us re = []
    · rw [if_pos hh]
      have hd:hdP fs mo re = []:=(hdP_T fs mo re).mpr (by rw [hT,hh])
      refine ⟨k,⟨by rw [e]; exact h2,fun z=>?_⟩,?_⟩
      · have:=nx z
        unfold chA at this
        rw [if_pos hd,List.append_nil] at this
        exact Rat.le_of_lt (c2 _ this)
      · unfold ms
        rw [e,if_pos hd]
    · rw [if_neg hh]
      have hd:hdP fs mo re≠[]:=fun z=>hh (by rw [← hT]; exact (hdP_T fs mo re).mp z)
      have eS:shP fs (hdP fs mo re)=sumS (hds us re):=by rw [shP_T,hT]
      have eE:lstE fs mo re=fstE (hds us re):=by rw [lstE_T,hT]
      have e1:fst1 fs mo re=mo+(fstE (hds us re)-re)*(sumS (hds us re):Rat):=by
        show mo+(lstE fs mo re-re) * _ = _
        rw [eE,eS]
      have ech:∀ x,x∈chA fs mo re↔x∈chs fs mo∨x=fst1 fs mo re:=fun x=>by
        unfold chA
        rw [if_neg hd,List.mem_append]
        simp
      by_cases c:t<mo+(fstE (hds us re)-re)*(sumS (hds us re):Rat)
      · rw [if_pos c]
        refine ⟨k,⟨by rw [e]; exact h2,fun z=>?_⟩,?_⟩
        · rcases (ech _).mp (nx z) with y | y
          · exact Rat.le_of_lt (c2 _ y)
          · rw [y,e1]; exact Rat.le_of_lt c
        · unfold ms
          rw [e,if_neg hd,eS]
      · rw [if_neg c]
        have ce:chA fs mo re≠[]:=fun z=>by
          have:=(ech (fst1 fs mo re)).mpr (.inr rfl)
          rw [z] at this
          cases this
        have em:minL (chA fs mo re)=fst1 fs mo re:=minL_eq ((ech _).mpr (.inr rfl)) fun y hy=>by
          rcases (ech y).mp hy with z | z
          · have:=c2 y z
            rw [e1]; grind
          · rw [z]; exact Rat.le_refl
        have tg:=turn_go b.s1 hd
        rw [em,e1,eS] at tg
        have gt:=tg.gt
        have gE:=fstE_gt hh
        have S1:1≤sumS (hds us re):=by
          have:=shP_pos b.s1 hd
          rw [eS] at this
          exact this
        have S0:(0:Rat)<(sumS (hds us re):Rat):=q_cast_pos (by omega)
        have ema:re+(mo+(fstE (hds us re)-re)*(sumS (hds us re):Rat)-mo) / (sumS (hds us re):Rat)=fstE (hds us re):=by
          have:(sumS (hds us re):Rat)≠0:=by grind
          grind
        have st:stS fs (k+1)=(mo+(fstE (hds us re)-re)*(sumS (hds us re):Rat),fstE (hds us re)):=by
          rw [step]
          unfold nxS
          rw [if_neg ce,if_neg hd,em,e1,eS,ema]
        have al:=ahead_lt hh
        exact run_in b us1 n (k+1) _ _ st (by grind) (by grind) (by grind) (by omega)
end
end Sw
namespace Sw
open L2
theorem Good.btt {n:Nat} {M:Int} {a c:Nat} {qs:List Q4} (g:Good n M a c qs) {i:Nat} (hi:i≤qs.length) {t:Int} (nx:∀ q,qs[i]? = some q→t<q.1):Btt (fsOf qs (Ti.nil.tags qs)) (Ti.nil.after (qs.take i)).us ((Ti.nil.after (qs.take i)).lat:Rat) (Ti.nil.after (qs.take i)).re (t:Rat):=by
  obtain ⟨D,ok⟩:=fs_ok g.F g.ln g.pc g.pw
  have pwi:=List.pairwise_iff_getElem.mp g.pw
  have at_:∀ {j:Nat} {f:F4},(fsOf qs (Ti.nil.tags qs))[j]? = some f→∃ r,qs[j]? = some r∧f.1=r.1:=fun {j f} h=>by
    have hj:j<qs.length:=by
      have:=(List.getElem?_eq_some_iff.mp h).1
      rw [fsOf_len Ti.tags_len] at this
      exact this
    have e1:qs[j]? = some (qs[j]'hj):=List.getElem?_eq_getElem _
    obtain ⟨t,e2⟩:=fs_mem_at e1
    rw [h] at e2
    cases e2
    exact ⟨_,e1,rfl⟩
  have low:∀ {j:Nat} {r:Q4},qs[j]? = some r→j<i→r.1≤(Ti.nil.after (qs.take i)).lat:=fun {j r} h hj=>by
    obtain ⟨i',rfl⟩:∃ i',i=i' + 1:=⟨i-1,by omega⟩
    have e1:qs[i']? = some (qs[i']'(by omega)):=List.getElem?_eq_getElem _
    rw [lat_of e1]
    have hj2:=(List.getElem?_eq_some_iff.mp h).1
    have ej:qs[j]'hj2=r:=(List.getElem?_eq_some_iff.mp h).2
    by_cases c:j=i'
    · subst c
      rw [ej]
      exact Int.le_refl _
    · have:=pwi j i' hj2 (by omega) (by omega)
      rw [ej] at this
      exact this
  have high:∀ {j:Nat} {r:Q4},qs[j]? = some r→i≤j→t<r.1:=fun {j r} h hj=>by
    have hj2:=(List.getElem?_eq_some_iff.mp h).1
    have ej:qs[j]'hj2=r:=(List.getElem?_eq_some_iff.mp h).2
    have hil:i<qs.length:=by omega
    have ei:=nx _ (List.getElem?_eq_getElem hil)
    by_cases c:j=i
    · subst c
      rw [← ej]
      exact ei
    · have:=pwi i j hil hj2 (by omega)
      rw [ej] at this
      omega
  refine ⟨ok.s1,fun f hf=>?_,fun mo ma h1 h2 h3=>?_⟩
  · obtain ⟨j,hj⟩:=List.getElem?_of_mem hf
    obtain ⟨r,hr,er⟩:=at_ hj
    rw [er,Rat.intCast_le_intCast,Rat.intCast_lt_intCast]
    by_cases c:j<i
    · exact .inl (low hr c)
    · exact .inr (high hr (by omega))
  · have sp:fsOf qs (Ti.nil.tags qs)=(fsOf qs (Ti.nil.tags qs)).take i++(fsOf qs (Ti.nil.tags qs)).drop i:=(List.take_append_drop _ _).symm
    unfold hdT
    rw [sp,List.filter_append]
    have e1:((fsOf qs (Ti.nil.tags qs)).drop i).filter (hdB mo ma) = []:=by
      refine List.filter_eq_nil_iff.mpr fun f hf=>?_
      obtain ⟨j,hj⟩:=List.getElem?_of_mem hf
      rw [List.getElem?_drop] at hj
      obtain ⟨r,hr,er⟩:=at_ hj
      have:=high hr (by omega)
      have:(t:Rat)<(r.1:Rat):=Rat.intCast_lt_intCast.mpr this
      intro z
      obtain ⟨z1,_⟩:=hdB_iff.mp z
      rw [er] at z1
      grind
    have e2:((fsOf qs (Ti.nil.tags qs)).take i).filter (hdB mo ma)=((fsOf qs (Ti.nil.tags qs)).take i).filter fun f=>isHd ma f.2:=by
      refine List.filter_congr fun f hf=>?_
      obtain ⟨j,hj⟩:=List.getElem?_of_mem hf
      have hji:j<i:=by
        have:=(List.getElem?_eq_some_iff.mp hj).1
        rw [List.length_take] at this
        omega
      rw [List.getElem?_take,if_pos hji] at hj
      obtain ⟨r,hr,er⟩:=at_ hj
      have:=low hr hji
      have:(r.1:Rat)≤((Ti.nil.after (qs.take i)).lat:Rat):=Rat.intCast_le_intCast.mpr this
      unfold hdB
      rw [er,decide_eq_false (by grind)]
      rfl
    rw [e1,List.append_nil,e2,g.hds hi ma h3,← fs_take,List.filter_map]
    rfl
theorem Good.mark_in {n:Nat} {M:Int} {a c:Nat} {qs:List Q4} (g:Good n M a c qs) {i:Nat} (hi:i≤qs.length) {t:Int} (lt:(Ti.nil.after (qs.take i)).lat≤t) (nx:∀ q,qs[i]? = some q→t<q.1):∃ k,In (fsOf qs (Ti.nil.tags qs)) k (t:Rat)∧ms (fsOf qs (Ti.nil.tags qs)) k (t:Rat)=markAt (Ti.nil.after (qs.take i)).us (Ti.nil.after (qs.take i)).lat (Ti.nil.after (qs.take i)).re t:=by
  obtain ⟨k,hk⟩:=g.at_coming hi
  obtain ⟨D,r⟩:=g.run hi
  exact run_in (g.btt hi nx) (fun u hu=>(r.ok.tus u hu).s1) ((Ti.nil.after (qs.take i)).us.length+1) k _ _ hk Rat.le_refl (Rat.intCast_le_intCast.mpr lt) Rat.le_refl (by have:=ahead_le (Ti.nil.after (qs.take i)).us (Ti.nil.after (qs.take i)).re; omega)
structure Cho (T:List WI) (s:Int) (c:WI) (rest:List WI):Prop where
  ex:∃ t m,t≤T.length∧(∀ i∈T.take t,wAt i≤s)∧(∀ i,T[t]? = some i→s<wAt i)∧m=markAt (tideOf (T.take t)).us (tideOf (T.take t)).lat (tideOf (T.take t)).re s∧c∈T.take t∧¬ m<c.2.2.1∧∀ d∈rest,d∈T.drop t∨m<d.2.2.1∨c.2.2.2≤d.2.2.2
inductive Chs (T:List WI):List (Nat×Int)→List WI→Prop
  | nil:Chs T [] []
  | cons {g:Nat×Int} {c:WI} {gs:List (Nat×Int)} {cs:List WI}:c.1=g.1→Cho T g.2 c cs→Chs T gs cs→Chs T (g :: gs) (c :: cs)
theorem LF.walk {T:List WI}:∀ {gs:List (Nat×Int)} {t:Nat} {Q:List WI},LF T gs t Q→t≤T.length→(∀ i∈Q,i∈T.take t)→gs.Pairwise (fun a b=>a.2≤b.2)→(∀ g∈gs,∀ i∈T.take t,wAt i≤g.2)→∃ cs,cs.Perm (Q++T.drop t)∧Chs T gs cs
  | [],t,Q,h,_,_,_,_=>by
    obtain ⟨e1,e2⟩:=h
    subst e1 e2
    exact ⟨[],by rw [List.drop_length]; exact .refl _,.nil⟩
  | g :: gs,t,Q,h,ht,hQ,mo,past=>by
    obtain ⟨t',c,a1,a2,a3,a4,a5,a6,a7⟩:=h
    have sp:T.take t++(T.take t').drop t=T.take t':=by
      have:=List.take_append_drop t (T.take t')
      rw [List.take_take,Nat.min_eq_left a1] at this
      exact this
    have all1:∀ i∈T.take t',wAt i≤g.2:=fun i hi=>by
      rw [← sp] at hi
      rcases List.mem_append.mp hi with z | z
      · exact past g (List.mem_cons_self ..) i z
      · exact a3 i z
    have inL:∀ i∈Q++(T.take t').drop t,i∈T.take t':=fun i hi=>by
      rw [← sp]
      rcases List.mem_append.mp hi with z | z
      · exact List.mem_append.mpr (.inl (hQ i z))
      · exact List.mem_append.mpr (.inr z)
    have cm:c∈Q++(T.take t').drop t∧¬ markAt (tideOf (T.take t')).us (tideOf (T.take t')).lat (tideOf (T.take t')).re g.2<c.2.2.1:=by
      rcases nextF_mem a5 with z | z
      · exact z
      · cases z
    obtain ⟨mo1,mo2⟩:=List.pairwise_cons.mp mo
    obtain ⟨cs,pm,ch⟩:=LF.walk a7 a2 (fun i hi=>inL i (List.mem_of_mem_erase hi)) mo2 fun g' hg' i hi=>by
      have:=mo1 g' hg'
      have:=all1 i hi
      omega
    have sd:T.drop t=(T.take t').drop t++T.drop t':=by
      have e:T.drop t=(T.take t'++T.drop t').drop t:=by rw [List.take_append_drop]
      rw [e,List.drop_append_of_le_length (by rw [List.length_take]; omega)]
    refine ⟨c :: cs,?_,.cons a6 ⟨t',_,a2,all1,a4,rfl,inL c cm.1,cm.2,fun d hd=>?_⟩ ch⟩
    · rw [sd,← List.append_assoc]
      refine (pm.cons c).trans ?_
      exact ((List.perm_cons_erase cm.1).append_right (T.drop t')).symm
    · rcases List.mem_append.mp (pm.subset hd) with z | z
      · right
        have dm:=List.mem_of_mem_erase z
        by_cases y:markAt (tideOf (T.take t')).us (tideOf (T.take t')).lat (tideOf (T.take t')).re g.2<d.2.2.1
        · exact .inl y
        · exact .inr ((nextF_least a5).1 d dm y)
      · exact .inl z
theorem Chs.len {T:List WI}:∀ {gs:List (Nat×Int)} {cs:List WI},Chs T gs cs→cs.map (·.1)=gs.map (·.1)
  | _,_,.nil=>rfl
  | _,_,.cons e _ h=>by rw [List.map_cons,List.map_cons,h.len,e]
theorem Chs.at {T:List WI}:∀ {gs:List (Nat×Int)} {cs:List WI},Chs T gs cs→∀ {k:Nat} {g:Nat×Int} {c:WI},gs[k]? = some g→cs[k]? = some c→Cho T g.2 c (cs.drop (k+1))
  | _,_,.cons (cs:=cs) e h r,0,g,c,e1,e2=>by
    cases e1
    cases e2
    exact h
  | _,_,.cons e h r,k+1,g,c,e1,e2=>r.at (k:=k) e1 e2
end Sw
namespace Sw
open L2
structure Told (n:Nat) (M:Int) (a c:Nat) (T:List WI):Prop where
  g:Good n M a c (T.map fun i=>i.2.1)
  tg:∀ (t:Nat) (i:WI),T[t]? = some i→i.2.2.1=(tideOf (T.take t)).beg i.2.1∧i.2.2.2=(tideOf (T.take t)).fin i.2.1
  nd:(T.map fun i=>i.1).Nodup
def fsT (T:List WI):List F4:=fsOf (T.map fun i=>i.2.1) (Ti.nil.tags (T.map fun i=>i.2.1))
def wLen (i:WI):Int:=i.2.1.2.2.1
def SpT (T:List WI) (c:WI) (b u:Rat):Prop:=∃ p k1 k2,T[p]? = some c∧(fsT T)[p]? = some (c.2.1.1,c.2.2.1,c.2.2.2,c.2.1.2.2.2)∧Lives (fsT T) p (c.2.1.1,c.2.2.1,c.2.2.2,c.2.1.2.2.2) k1 k2∧b=(stS (fsT T) k1).1∧u=(stS (fsT T) k2).1
section
variable {n:Nat} {M:Int} {a c:Nat} {T:List WI}
theorem nd_of {α β:Type} {f:α→β}:∀ {l:List α},(l.map f).Nodup→l.Nodup:=fun {l} h=>by
  unfold List.Nodup at h ⊢
  rw [List.pairwise_map] at h
  exact h.imp fun ne z=>ne (by rw [z])
theorem Told.run (h:Told n M a c T):Run (fsT T) (whoAt (T.map fun i=>i.2.1)):=h.g.runs
theorem Told.fs (h:Told n M a c T) {p:Nat} {i:WI} (e:T[p]? = some i):(fsT T)[p]? = some (i.2.1.1,i.2.2.1,i.2.2.2,i.2.1.2.2.2):=by
  have e1:(T.map fun i=>i.2.1)[p]? = some i.2.1:=by rw [List.getElem?_map,e]; rfl
  have e2:=tag_at e1
  obtain ⟨t1,t2⟩:=h.tg p i e
  unfold tideOf at t1 t2
  rw [List.map_take] at t1 t2
  rw [← t1,← t2] at e2
  exact fsOf_get e1 e2
theorem Told.sp (h:Told n M a c T) {i:WI} (hi:i∈T):∃ b u,SpT T i b u:=by
  obtain ⟨p,hp⟩:=List.getElem?_of_mem hi
  obtain ⟨k1,k2,L⟩:=h.run.live p _ (h.fs hp)
  exact ⟨_,_,p,k1,k2,hp,h.fs hp,L,rfl,rfl⟩
theorem Told.len (h:Told n M a c T) {p:Nat} {i:WI} (e:T[p]? = some i):lnF (fsT T) p=(wLen i:Rat):=by
  rw [lnF_at (h.fs e),shr_at (h.fs e)]
  obtain ⟨t1,t2⟩:=h.tg p i e
  have pc:=h.g.pc i.2.1 (List.mem_map.mpr ⟨i,List.mem_of_getElem? e,rfl⟩)
  obtain ⟨_,_,_,_,p1,_⟩:=pc
  have s0:(0:Rat)<(i.2.1.2.2.2:Rat):=q_cast_pos (by omega)
  show (i.2.1.2.2.2:Rat)*(i.2.2.2-i.2.2.1) = _
  rw [t2,t1]
  unfold Ti.fin wLen
  have:(i.2.1.2.2.2:Rat)≠0:=by grind
  grind
theorem SpT.lt (h:Told n M a c T) {i:WI} {b u:Rat} (s:SpT T i b u):b≤u∧(wAt i:Rat)≤b:=by
  obtain ⟨p,k1,k2,hp,hf,L,rfl,rfl⟩:=s
  refine ⟨(stS_mono h.run.s1 (Nat.le_of_lt L.lt)).1,?_⟩
  obtain ⟨f,hf',h1,_⟩:=(L.hd k1).mpr ⟨Nat.le_refl _,L.lt⟩
  rw [hf] at hf'
  cases hf'
  exact h1
theorem SpT.le (h:Told n M a c T) {i j:WI} {b u b' u':Rat} (s:SpT T i b u) (s':SpT T j b' u') (le:i.2.2.2≤j.2.2.2):u≤u':=by
  obtain ⟨p,k1,k2,hp,hf,L,rfl,rfl⟩:=s
  obtain ⟨p',l1,l2,hp',hf',L',rfl,rfl⟩:=s'
  have:=(L.pa l2).mp (by rw [L'.en]; exact le)
  exact (stS_mono h.run.s1 this).1
theorem Told.room (h:Told n M a c T) {s u:Rat} (su:s≤u) {S:List WI} (nd:S.Nodup) (hS:∀ i∈S,∃ b e,SpT T i b e∧s≤b∧e≤u):((S.map wLen).sum:Rat)≤u-s:=by
  have ndT:T.Nodup:=nd_of h.nd
  have mem:∀ i∈S,i∈T:=fun i hi=>by
    obtain ⟨b,e,⟨p,_,_,hp,_⟩,_⟩:=hS i hi
    exact List.mem_of_getElem? hp
  have ix:∀ i∈S,T[T.idxOf i]? = some i:=fun i hi=>by
    have lt:=List.idxOf_lt_length_of_mem (mem i hi)
    rw [List.getElem?_eq_getElem lt,List.getElem_idxOf lt]
  have nd2:(S.map fun i=>T.idxOf i).Nodup:=by
    unfold List.Nodup at nd ⊢
    rw [List.pairwise_map]
    refine List.Pairwise.imp_of_mem (fun {x y} hx hy ne z=>ne ?_) nd
    have e1:=ix x hx
    rw [z,ix y hy] at e1
    exact (Option.some.inj e1).symm
  have:=h.run.room su nd2 fun p hp=>by
    obtain ⟨i,hi,rfl⟩:=List.mem_map.mp hp
    obtain ⟨b,e,⟨p,k1,k2,hp,hf,L,rfl,rfl⟩,h1,h2⟩:=hS i hi
    have:p=T.idxOf i:=(List.getElem?_inj (List.getElem?_eq_some_iff.mp hp).1 ndT).mp (hp.trans (ix i hi).symm)
    subst this
    exact ⟨_,_,⟨_,_,_,hf,L,rfl,rfl⟩,h1,h2⟩
  rw [List.map_map] at this
  have e:tq (S.map (lnF (fsT T) ∘ fun i=>T.idxOf i))=((S.map wLen).sum:Rat):=by
    have e1:tq (S.map (lnF (fsT T) ∘ fun i=>T.idxOf i))=tq (S.map fun i=>(wLen i:Rat)):=tq_congr fun i hi=>h.len (ix i hi)
    rw [e1]
    clear e1 this nd2 ix mem hS nd
    induction S with
    | nil=>rfl
    | cons x r ih =>
      show (wLen x:Rat) + _ = _
      rw [ih,List.map_cons,List.sum_cons,Rat.intCast_add]
  rw [e] at this
  exact this
theorem take_lat (h:Told n M a c T) {t:Nat} {s:Int} (s0:0≤s) (al:∀ i∈T.take t,wAt i≤s):(Ti.nil.after ((T.map fun i=>i.2.1).take t)).lat≤s:=by
  have:=lat_up s0 al
  unfold tideOf at this
  rw [List.map_take] at this
  exact this
theorem Cho.begun (h:Told n M a c T) {s:Int} {i:WI} {rest:List WI} (ch:Cho T s i rest) {b u:Rat} (sp:SpT T i b u):b≤(s:Rat):=by
  obtain ⟨t,m,ht,al,nx,em,im,le,_⟩:=ch.ex
  obtain ⟨p,k1,k2,hp,hf,L,rfl,rfl⟩:=sp
  have ai:=al i im
  have a0:0≤wAt i:=(h.g.pc i.2.1 (List.mem_map.mpr ⟨i,List.mem_of_mem_take im,rfl⟩)).1
  obtain ⟨k,I,ek⟩:=h.g.mark_in (i:=t) (by rw [List.length_map]; exact ht) (take_lat h (show 0≤s by omega) al) fun q hq=>by
    rw [List.getElem?_map] at hq
    cases e:T[t]? with
    | none=>rw [e] at hq; cases hq
    | some j =>
      rw [e] at hq
      have:j.2.1=q:=Option.some.inj hq
      rw [← this]
      exact nx j e
  unfold tideOf at em
  rw [List.map_take] at em
  rw [← em] at ek
  refine h.run.begun hf L I (Rat.intCast_le_intCast.mpr ai) ?_
  show i.2.2.1≤ms (fsOf (T.map fun i=>i.2.1) (Ti.nil.tags (T.map fun i=>i.2.1))) k (s:Rat)
  rw [ek]
  grind
theorem Cho.later (h:Told n M a c T) {s:Int} {i:WI} {rest:List WI} (ch:Cho T s i rest) {d:WI} (hd:d∈rest) (lt:d.2.2.2<i.2.2.2) {b u:Rat} (sp:SpT T d b u):(s:Rat)≤b:=by
  have sb:=(SpT.lt h sp).2
  obtain ⟨t,m,ht,al,nx,em,im,le,lr⟩:=ch.ex
  have ai:=al i im
  have a0:0≤wAt i:=(h.g.pc i.2.1 (List.mem_map.mpr ⟨i,List.mem_of_mem_take im,rfl⟩)).1
  rcases lr d hd with z | z | z
  · obtain ⟨j,hj⟩:=List.getElem?_of_mem z
    rw [List.getElem?_drop] at hj
    have hl:t<T.length:=by have:=(List.getElem?_eq_some_iff.mp hj).1; omega
    have e0:T[t]? = some T[t]:=List.getElem?_eq_getElem hl
    have n0:=nx _ e0
    have:wAt T[t]≤wAt d:=by
      have pw:=h.g.pw
      rcases Nat.eq_zero_or_pos j with y | y
      · subst y
        rw [Nat.add_zero,e0] at hj
        cases hj
        exact Int.le_refl _
      · rw [List.pairwise_map,List.pairwise_iff_getElem] at pw
        have b2:=List.getElem?_eq_some_iff.mp hj
        have:=pw t (t+j) hl b2.1 (by omega)
        rw [b2.2] at this
        exact this
    have:(s:Rat)≤(wAt d:Rat):=Rat.intCast_le_intCast.mpr (by omega)
    grind
  · obtain ⟨p,k1,k2,hp,hf,L,rfl,rfl⟩:=sp
    obtain ⟨k,I,ek⟩:=h.g.mark_in (i:=t) (by rw [List.length_map]; exact ht) (take_lat h (show 0≤s by omega) al) fun q hq=>by
      rw [List.getElem?_map] at hq
      cases e:T[t]? with
      | none=>rw [e] at hq; cases hq
      | some j =>
        rw [e] at hq
        have:j.2.1=q:=Option.some.inj hq
        rw [← this]
        exact nx j e
    unfold tideOf at em
    rw [List.map_take] at em
    rw [← em] at ek
    by_cases y:(stS (fsT T) k1).1≤(s:Rat)
    · have:=h.run.tag_le hf L I y
      have this:d.2.2.1≤ms (fsOf (T.map fun i=>i.2.1) (Ti.nil.tags (T.map fun i=>i.2.1))) k (s:Rat):=this
      rw [ek] at this
      grind
    · grind
  · grind
def Busy (gs:List (Nat×Int)) (cs:List WI):Prop:=∀ (k:Nat) (g:Nat×Int) (c:WI),gs[k]? = some g→cs[k]? = some c→(∀ d∈cs.drop k,g.2≤wAt d)∨∃ k' g' c',k=k' + 1∧gs[k']? = some g'∧cs[k']? = some c'∧g.2=g'.2+wLen c'
theorem near (h:Told n M a c T) {gs:List (Nat×Int)} {cs:List WI} (ch:Chs T gs cs) (pm:cs.Perm T) (bz:Busy gs cs) {L:Int} (hL:∀ i∈T,wLen i≤L) {k:Nat} {g:Nat×Int} {i:WI} (hg:gs[k]? = some g) (hi:cs[k]? = some i) {b u:Rat} (sp:SpT T i b u):((g.2+wLen i-L:Int):Rat)≤u:=by
  have ndT:T.Nodup:=nd_of h.nd
  have ndc:cs.Nodup:=pm.nodup_iff.mpr ndT
  have kl:k<cs.length:=(List.getElem?_eq_some_iff.mp hi).1
  have L0:0≤L:=by
    have:=hL i (pm.subset (List.mem_of_getElem? hi))
    have:=(h.g.pc i.2.1 (List.mem_map.mpr ⟨i,pm.subset (List.mem_of_getElem? hi),rfl⟩)).2.2.1
    unfold wLen at *
    omega
  have imS:∀ j,j≤k→i∈(cs.take (k+1)).drop j:=fun j hj=>List.mem_of_getElem? (i:=k-j) (by rw [List.getElem?_drop,List.getElem?_take,Nat.add_sub_cancel' hj,if_pos (Nat.lt_succ_self _)]; exact hi)
  have sub:∀ j d,d∈(cs.take (k+1)).drop j→d∈T:=fun j d hd=>pm.subset (List.mem_of_mem_take (List.mem_of_mem_drop hd))
  have ndS:∀ j,((cs.take (k+1)).drop j).Nodup:=fun j=>(ndc.sublist (List.take_sublist _ _)).sublist (List.drop_sublist _ _)
  have fin:∀ (j:Nat) (s:Int),j≤k→(∀ d∈(cs.take (k+1)).drop j,d.2.2.2≤i.2.2.2)→(∀ d∈(cs.take (k+1)).drop j,∀ b u,SpT T d b u→(s:Rat)≤b)→((((cs.take (k+1)).drop j).map wLen).sum:Rat)≤u-(s:Rat):=fun j s hj h1 h2=>by
    have su:(s:Rat)≤u:=by
      have:=h2 i (imS j hj) b u sp
      have:=(SpT.lt h sp).1
      grind
    refine h.room su (ndS j) fun d hd=>?_
    obtain ⟨b',u',sp'⟩:=h.sp (sub j d hd)
    exact ⟨b',u',sp',h2 d hd b' u' sp',SpT.le h sp' sp (h1 d hd)⟩
  have aux:∀ (j:Nat) (gj:Nat×Int) (cj:WI),j≤k→gs[j]? = some gj→cs[j]? = some cj→(∀ d∈(cs.take (k+1)).drop j,d.2.2.2≤i.2.2.2)→g.2+wLen i=gj.2+(((cs.take (k+1)).drop j).map wLen).sum→((g.2+wLen i-L:Int):Rat)≤u:=by
    intro j
    induction j with
    | zero =>
      intro gj cj hj hgj hcj hle hsum
      rcases bz 0 gj cj hgj hcj with z | ⟨k',_,_,e,_⟩
      · have f:=fin 0 gj.2 hj hle fun d hd b' u' sp'=>by
          have:=z d (List.mem_of_mem_take hd)
          have:=(SpT.lt h sp').2
          have:(gj.2:Rat)≤(wAt d:Rat):=Rat.intCast_le_intCast.mpr (by assumption)
          grind
        rw [hsum,Rat.intCast_sub,Rat.intCast_add]
        have:(0:Rat)≤(L:Rat):=Rat.intCast_le_intCast.mpr L0
        grind
      · omega
    | succ j ih =>
      intro gj cj hj hgj hcj hle hsum
      rcases bz (j+1) gj cj hgj hcj with z | ⟨k',g',c',e,hg',hc',es⟩
      · have f:=fin (j+1) gj.2 hj hle fun d hd b' u' sp'=>by
          have m:d∈cs.drop (j+1):=by
            rw [List.drop_take] at hd
            exact List.mem_of_mem_take hd
          have:=z d m
          have:=(SpT.lt h sp').2
          have:(gj.2:Rat)≤(wAt d:Rat):=Rat.intCast_le_intCast.mpr (by assumption)
          grind
        rw [hsum,Rat.intCast_sub,Rat.intCast_add]
        have:(0:Rat)≤(L:Rat):=Rat.intCast_le_intCast.mpr L0
        grind
      · have:k'=j:=by omega
        subst this
        have dr:(cs.take (k+1)).drop k'=c' :: (cs.take (k+1)).drop (k' + 1):=by
          have e1:(cs.take (k+1))[k']? = some c':=by rw [List.getElem?_take,if_pos (by omega)]; exact hc'
          obtain ⟨hl,e2⟩:=List.getElem?_eq_some_iff.mp e1
          rw [List.drop_eq_getElem_cons hl,e2]
        by_cases cc:c'.2.2.2≤i.2.2.2
        · refine ih g' c' (by omega) hg' hc' ?_ ?_
          · rw [dr]
            intro d hd
            rcases List.mem_cons.mp hd with y | y
            · rw [y]; exact cc
            · exact hle d y
          · rw [dr,List.map_cons,List.sum_cons]
            omega
        · have chk:=ch.at hg' hc'
          have f:=fin (k' + 1) g'.2 hj hle fun d hd b' u' sp'=>by
            refine Cho.later h chk ?_ ?_ sp'
            · rw [List.drop_take] at hd
              exact List.mem_of_mem_take hd
            · have:=hle d hd
              grind
          have lc:=hL c' (pm.subset (List.mem_of_getElem? hc'))
          have e1:g.2+wLen i-L≤g'.2+(((cs.take (k+1)).drop (k' + 1)).map wLen).sum:=by omega
          have e2:((g.2+wLen i-L:Int):Rat)≤((g'.2+(((cs.take (k+1)).drop (k' + 1)).map wLen).sum:Int):Rat):=Rat.intCast_le_intCast.mpr e1
          rw [Rat.intCast_add] at e2
          grind
  refine aux k g i (Nat.le_refl _) hg hi ?_ ?_
  · have dr:(cs.take (k+1)).drop k = [i]:=by
      have e1:(cs.take (k+1))[k]? = some i:=by rw [List.getElem?_take,if_pos (by omega)]; exact hi
      obtain ⟨hl,e2⟩:=List.getElem?_eq_some_iff.mp e1
      rw [List.drop_eq_getElem_cons hl,e2,List.drop_eq_nil_of_le (by rw [List.length_take]; omega)]
    rw [dr]
    intro d hd
    rw [List.mem_singleton.mp hd]
    exact Rat.le_refl
  · have dr:(cs.take (k+1)).drop k = [i]:=by
      have e1:(cs.take (k+1))[k]? = some i:=by rw [List.getElem?_take,if_pos (by omega)]; exact hi
      obtain ⟨hl,e2⟩:=List.getElem?_eq_some_iff.mp e1
      rw [List.drop_eq_getElem_cons hl,e2,List.drop_eq_nil_of_le (by rw [List.length_take]; omega)]
    rw [dr,List.map_singleton,List.sum_singleton]
end
end Sw
namespace Sw
open L2
theorem good_up {n:Nat} {M:Int} {a c:Nat} {qs:List Q4} (g:Good n M a c qs) {i j:Nat} {p q:Q4} (hp:qs[i]? = some p) (hq:qs[j]? = some q) (le:i≤j):p.1≤q.1:=by
  rcases Nat.lt_or_ge i j with z | z
  · have pw:=g.pw
    rw [List.pairwise_iff_getElem] at pw
    have b1:=(List.getElem?_eq_some_iff.mp hp)
    have b2:=(List.getElem?_eq_some_iff.mp hq)
    have:=pw i j b1.1 b2.1 z
    rw [b1.2,b2.2] at this
    exact this
  · have:j=i:=by omega
    subst this
    rw [hp] at hq
    cases hq
    exact Int.le_refl _
section
variable {n:Nat} {M:Int} {a c:Nat} {rm:Int→Option Int} {qs:List Q4}
theorem busy_of (g:Good n M a c qs) {dr:List Nat} {x:WS} (h:KR qs qs.length dr x) (hn:x.2.1 = []) {cs:List WI} (em:cs.map (·.1)=x.2.2.map (·.1)) (it:∀ i∈cs,qs[i.1]? = some i.2.1):Busy x.2.2 cs:=by
  intro k g1 c1 hg hc
  obtain ⟨p,q,hq,e,pk,pd,pt,pf⟩:=h.bz k g1 hg
  have mem:=fun p=>h.mem (p:=p)
  have nd:=h.nd
  rw [hn,List.map_nil,List.append_nil] at nd
  rw [hn] at mem
  have spl:x.2.2.map (·.1)=(x.2.2.take k).map (·.1)++(x.2.2.drop k).map (·.1):=by rw [← List.map_append,List.take_append_drop]
  have rest:g1.2=q.1→∀ d∈cs.drop k,g1.2≤wAt d:=fun eq d hd=>by
    have m1:d.1∈(x.2.2.drop k).map (·.1):=by
      rw [List.map_drop,← em,← List.map_drop]
      exact List.mem_map.mpr ⟨d,hd,rfl⟩
    have m2:d.1∈x.2.2.map (·.1):=by rw [spl]; exact List.mem_append.mpr (.inr m1)
    have hk:=(mem d.1).mp (.inl m2)
    have le:p≤d.1:=by
      rcases Nat.lt_or_ge d.1 p with z | z
      · exfalso
        rcases pf d.1 z with y | y
        · exact hk.2 y
        · rw [spl] at nd
          exact (List.nodup_append.mp nd).2.2 _ y _ m1 rfl
      · exact z
    rw [eq]
    exact good_up g hq (it d (List.mem_of_mem_drop hd)) le
  by_cases cc:q.1 > freeOf qs (x.2.2.take k)
  · rw [if_pos cc] at e
    exact .inl (rest e)
  · rw [if_neg cc] at e
    cases k with
    | zero =>
      left
      refine rest ?_
      have z:freeOf qs (x.2.2.take 0) = 0:=by rw [List.take_zero]; rfl
      have:=(g.pc q (List.mem_of_getElem? hq)).1
      omega
    | succ k =>
      right
      have hl:k<x.2.2.length:=by have:=(List.getElem?_eq_some_iff.mp hg).1; omega
      have hl2:k<cs.length:=by have:=(List.getElem?_eq_some_iff.mp hc).1; omega
      have e1:x.2.2[k]? = some (x.2.2[k]'hl):=List.getElem?_eq_getElem _
      have e2:cs[k]? = some (cs[k]'hl2):=List.getElem?_eq_getElem _
      generalize x.2.2[k]'hl=g' at e1
      generalize cs[k]'hl2=c' at e2
      refine ⟨k,g',c',rfl,e1,e2,?_⟩
      have et:x.2.2.take (k+1)=x.2.2.take k++[g']:=by rw [List.take_succ_eq_append_getElem hl,(List.getElem?_eq_some_iff.mp e1).2]
      have ec:c'.1=g'.1:=by
        have z1:(cs.map (·.1))[k]? = some c'.1:=by rw [List.getElem?_map,e2]; rfl
        have z2:(x.2.2.map (·.1))[k]? = some g'.1:=by rw [List.getElem?_map,e1]; rfl
        rw [em,z2] at z1
        exact (Option.some.inj z1).symm
      rw [e,et]
      unfold freeOf lenAt wLen
      rw [List.getLast?_append]
      simp only [List.getLast?_singleton,Option.some_or]
      rw [← ec,it c' (List.mem_of_getElem? e2)]
      rfl
theorem dealtR_near (g:Good n M a c qs):∃ T cs,TR qs qs.length T (droppedR rm qs)∧Told n M a c T∧Chs T (dealtR rm qs).2.2 cs∧cs.Perm T∧Busy (dealtR rm qs).2.2 cs:=by
  obtain ⟨T,tr,lf,mo,bd⟩:=dealtR_front (rm:=rm) g
  obtain ⟨cs,pm,ch⟩:=LF.walk lf (Nat.zero_le _) (fun i h=>absurd h List.not_mem_nil) mo fun g _ i hi=>by rw [List.take_zero] at hi; cases hi
  have pm:cs.Perm T:=pm
  refine ⟨T,cs,tr,⟨tr.good g,tr.tg,?_⟩,ch,pm,busy_of g (dealtR_kr g) (dealtR_nil g) ch.len fun i hi=>tr.it i (pm.subset hi)⟩
  rw [tr.pl]
  exact List.nodup_range.filter _
end
end Sw
namespace L2
open PySem PySem.Spec PyProof.Rows PySem.MeetsSeq
section
variable {X:Cx}
end
end L2
namespace Sw
open L2
theorem le_num {b:Rat} {s:Int} (h:b≤(s:Rat)):b.num≤s*(b.den:Int):=by
  have:=(Rat.le_iff b (s:Rat)).mp h
  simpa using this
theorem num_le {b:Rat} {s:Int} (h:(s:Rat)≤b):s*(b.den:Int)≤b.num:=by
  have:=(Rat.le_iff (s:Rat) b).mp h
  simpa using this
theorem Cho.come {T:List WI} {s:Int} {i:WI} {rest:List WI} (ch:Cho T s i rest):wAt i≤s:=by
  obtain ⟨t,m,ht,al,nx,em,im,le,_⟩:=ch.ex
  exact al i im
end Sw
namespace Sw
open L2
theorem dealR_none (qs:List Q4):∀ k,k≤qs.length→dealR (fun _=>none) qs k=(Ti.nil.after (qs.take k),dealS qs k,[])
  | 0,_=>rfl
  | k+1,h=>by
    have e:qs[k]? = some (qs[k]'(by omega)):=List.getElem?_eq_getElem _
    generalize qs[k]'(by omega)=q at e
    rw [dealR_go e,dealR_none qs k (by omega),dealS_go e,L2.take_succ_of e,Ti.after_snoc]
    rfl
theorem dealt_none (qs:List Q4):dealtF qs=dealtR (fun _=>none) qs∧droppedR (fun _=>none) qs = []:=by
  have e:=dealR_none qs qs.length (Nat.le_refl _)
  unfold dealtR droppedR dealtF
  rw [e,List.take_length]
  exact ⟨rfl,rfl⟩
def stOf (gs:List (Nat×Int)) (p:Nat):Int:=((gs.find? fun g=>g.1 == p).map (·.2)).getD 0
theorem stOf_at:∀ {gs:List (Nat×Int)} {g:Nat×Int},(gs.map (·.1)).Nodup→g∈gs→stOf gs g.1=g.2
  | [],_,_,h=>absurd h List.not_mem_nil
  | x :: r,g,nd,h=>by
    rw [List.map_cons,List.nodup_cons] at nd
    unfold stOf
    rw [List.find?_cons]
    rcases List.mem_cons.mp h with e | e
    · subst e
      simp
    · have ne:(x.1 == g.1)=false:=by
        rw [beq_eq_false_iff_ne]
        intro z
        exact nd.1 (by rw [z]; exact List.mem_map.mpr ⟨g,e,rfl⟩)
      rw [ne]
      exact stOf_at nd.2 e
def wtP (qs:List Q4) (gs:List (Nat×Int)) (who t:Int) (p:Nat):Int:=if whoAt qs p=who∧stOf gs p<t then min (lenAt qs p) (t-stOf gs p) else 0
def wtG (qs:List Q4) (who t:Int) (g:Nat×Int):Int:=if whoAt qs g.1=who∧g.2<t then min (lenAt qs g.1) (t-g.2) else 0
theorem wt_sum {qs:List Q4} {gs:List (Nat×Int)} {who t:Int} {n:Nat} (pm:(gs.map (·.1)).Perm (List.range n)):(gs.map (wtG qs who t)).sum=((List.range n).map (wtP qs gs who t)).sum:=by
  have nd:(gs.map (·.1)).Nodup:=pm.nodup_iff.mpr List.nodup_range
  have e:gs.map (wtG qs who t)=(gs.map (·.1)).map (wtP qs gs who t):=by
    rw [List.map_map]
    refine List.map_congr_left fun g hg=>?_
    show wtG qs who t g=wtP qs gs who t g.1
    unfold wtG wtP
    rw [stOf_at nd hg]
  rw [e]
  exact isum_perm (pm.map _)
section
variable {n:Nat} {M:Int} {a c:Nat} {qs:List Q4}
structure Pla (n:Nat) (qs:List Q4) (gs:List (Nat×Int)) (L:Int) (p:Nat) (b u:Rat):Prop where
  ex:∃ f k1 k2,(fsOf qs (Ti.nil.tags qs))[p]? = some f∧Lives (fsOf qs (Ti.nil.tags qs)) p f k1 k2∧b=(stS (fsOf qs (Ti.nil.tags qs)) k1).1∧u=(stS (fsOf qs (Ti.nil.tags qs)) k2).1
  bg:b≤(stOf gs p:Rat)
  nr:((stOf gs p+lenAt qs p-L:Int):Rat)≤u
  bu:b≤u
theorem places (g:Good n M a c qs) {L:Int} (hL:∀ q∈qs,q.2.2.1≤L):((dealtF qs).2.2.map (·.1)).Perm (List.range qs.length)∧∀ p,p<qs.length→∃ b u,Pla n qs (dealtF qs).2.2 L p b u:=by
  obtain ⟨T,cs,tr,td,ch,pm,bz⟩:=dealtR_near (rm:=fun _=>none) g
  obtain ⟨e1,e2⟩:=dealt_none qs
  rw [← e1] at ch bz
  rw [e2] at tr
  have pl:T.map (fun i=>i.1)=List.range qs.length:=by
    rw [tr.pl]
    exact List.filter_eq_self.mpr fun p _=>rfl
  have at_:∀ (p:Nat) (i:WI),T[p]? = some i→i.1=p:=fun p i hp=>by
    have z:(T.map fun i=>i.1)[p]? = some i.1:=by rw [List.getElem?_map,hp]; rfl
    rw [pl] at z
    obtain ⟨hl,e⟩:=List.getElem?_eq_some_iff.mp z
    rw [List.getElem_range] at e
    exact e.symm
  have lT:T.length=qs.length:=by have:=congrArg List.length pl; rw [List.length_map,List.length_range] at this; exact this
  have eq:T.map (fun i=>i.2.1)=qs:=by
    refine List.ext_getElem? fun p=>?_
    rw [List.getElem?_map]
    cases e:T[p]? with
    | none =>
      have:=List.getElem?_eq_none_iff.mp e
      exact (List.getElem?_eq_none_iff.mpr (by omega)).symm
    | some i =>
      have:=tr.it i (List.mem_of_getElem? e)
      rw [at_ p i e] at this
      exact this.symm
  have pmg:((dealtF qs).2.2.map (·.1)).Perm (List.range qs.length):=by
    rw [← ch.len,← pl]
    exact pm.map _
  refine ⟨pmg,fun p hp=>?_⟩
  have nd:((dealtF qs).2.2.map (·.1)).Nodup:=pmg.nodup_iff.mpr List.nodup_range
  have hi:T[p]? = some (T[p]'(by omega)):=List.getElem?_eq_getElem _
  generalize T[p]'(by omega)=i at hi
  have ip:=at_ p i hi
  have qi:=tr.it i (List.mem_of_getElem? hi)
  obtain ⟨b,u,sp⟩:=td.sp (List.mem_of_getElem? hi)
  obtain ⟨k,hk⟩:=List.getElem?_of_mem (pm.symm.subset (List.mem_of_getElem? hi))
  have el:=congrArg List.length ch.len
  rw [List.length_map,List.length_map] at el
  have kl:k<(dealtF qs).2.2.length:=by have:=(List.getElem?_eq_some_iff.mp hk).1; omega
  have hg:(dealtF qs).2.2[k]? = some ((dealtF qs).2.2[k]'kl):=List.getElem?_eq_getElem _
  generalize (dealtF qs).2.2[k]'kl=g1 at hg
  have e3:g1.1=i.1:=by
    have z:(cs.map (·.1))[k]? = some i.1:=by rw [List.getElem?_map,hk]; rfl
    rw [ch.len,List.getElem?_map,hg] at z
    exact Option.some.inj z
  have es:stOf (dealtF qs).2.2 p=g1.2:=by rw [← ip,← e3]; exact stOf_at nd (List.mem_of_getElem? hg)
  have el2:lenAt qs p=wLen i:=by
    unfold lenAt wLen
    rw [← ip,qi]
    rfl
  have A1:=Cho.begun td (ch.at hg hk) sp
  have B1:=near td ch pm bz (L:=L) (fun j hj=>hL _ (List.mem_of_getElem? (tr.it j hj))) hg hk sp
  refine ⟨b,u,?_,by rw [es]; exact A1,by rw [es,el2]; exact B1,(SpT.lt td sp).1⟩
  obtain ⟨p',k1,k2,hp',hf,L',rfl,rfl⟩:=sp
  have:p'=p:=by rw [← at_ p' i hp',ip]
  subst this
  have ef:fsT T=fsOf qs (Ti.nil.tags qs):=by unfold fsT; rw [eq]
  rw [ef] at hf L' ⊢
  exact ⟨_,k1,k2,hf,L',rfl,rfl⟩
theorem tq_ints (f:Nat→Int):∀ l:List Nat,tq (l.map fun i=>(f i:Rat))=((l.map f).sum:Rat):=tq_cast f
theorem aT_len (g:Good n M a c qs) {gs:List (Nat×Int)} {L:Int} {p:Nat} {b u t:Rat} (h:Pla n qs gs L p b u) :
    (u≤t→aT (fsOf qs (Ti.nil.tags qs)) t p (2*n+1)=(lenAt qs p:Rat))∧(t≤b→aT (fsOf qs (Ti.nil.tags qs)) t p (2*n+1) = 0)∧0≤aT (fsOf qs (Ti.nil.tags qs)) t p (2*n+1)∧aT (fsOf qs (Ti.nil.tags qs)) t p (2*n+1)≤(lenAt qs p:Rat):=by
  obtain ⟨f,k1,k2,hf,L,rfl,rfl⟩:=h.ex
  have R:=g.runs
  obtain ⟨D0,ok⟩:=fs_ok g.F g.ln g.pc g.pw
  have le:=L.le ok.s1 ok.ln
  obtain ⟨q,e2,ef⟩:=g.fs_at hf
  have ll:lenAt qs p=q.2.2.1:=by unfold lenAt; rw [e2]; rfl
  have whole:aF (fsOf qs (Ti.nil.tags qs)) p (2*n+1)=(lenAt qs p:Rat):=by
    rw [(R.aF_at hf L (2*n+1)).2.2 le,shr_at hf,ll]
    have sn:(q.2.2.2:Rat)≠0:=q_cast_ne (by have:=(g.pc q (List.mem_of_getElem? e2)).2.2.2.2.1; omega)
    rw [ef]
    show (q.2.2.2:Rat)*((Ti.nil.after (qs.take p)).fin q-(Ti.nil.after (qs.take p)).beg q) = _
    have fb:(Ti.nil.after (qs.take p)).fin q=(Ti.nil.after (qs.take p)).beg q+(q.2.2.1:Rat) / (q.2.2.2:Rat):=rfl
    rw [fb]
    grind
  have z:=R.aT_le (t:=t) (i:=p) (2*n+1)
  rw [whole] at z
  exact ⟨fun h=>by rw [R.aT_all L h,whole],fun h=>R.aT_none L h _,z.1,z.2⟩
theorem later_ge (g:Good n M a c qs) {gs:List (Nat×Int)} {L:Int} {p q:Nat} {b u b' u':Rat} (h:Pla n qs gs L p b u) (h':Pla n qs gs L q b' u') (lt:p<q) (w:whoAt qs p=whoAt qs q):u≤b':=by
  obtain ⟨f,k1,k2,hf,Lp,rfl,rfl⟩:=h.ex
  obtain ⟨f',l1,l2,hf',Lq,rfl,rfl⟩:=h'.ex
  have R:=g.runs
  have:=R.pr q p f' f lt w hf' hf
  have e:=(R.born hf' Lq).1
  have:=(Lp.pa l1).mp (by rw [e]; exact this)
  exact (stS_mono R.s1 this).1
theorem tq_place {m N:Nat} (c:Rat) (h:m<N):tq ((List.range N).map fun i=>if m=i then c else 0)=c:=tq_pick List.nodup_range (List.mem_range.mpr h)
theorem find_first (P:Nat→Prop) [DecidablePred P]:∀ N:Nat,(∀ i,i<N→¬ P i)∨∃ m,m<N∧P m∧∀ i,i<m→¬ P i
  | 0=>.inl fun i h=>absurd h (Nat.not_lt_zero _)
  | N+1=>by
    rcases find_first P N with h | ⟨m,h1,h2,h3⟩
    · by_cases c:P N
      · exact .inr ⟨N,Nat.lt_succ_self _,c,h⟩
      · refine .inl fun i hi=>?_
        rcases Nat.lt_or_ge i N with z | z
        · exact h i z
        · have:i=N:=by omega
          rw [this]; exact c
    · exact .inr ⟨m,by omega,h2,h3⟩
theorem find_last (P:Nat→Prop) [DecidablePred P]:∀ N:Nat,(∀ i,i<N→¬ P i)∨∃ m,m<N∧P m∧∀ i,m<i→i<N→¬ P i
  | 0=>.inl fun i h=>absurd h (Nat.not_lt_zero _)
  | N+1=>by
    by_cases c:P N
    · exact .inr ⟨N,Nat.lt_succ_self _,c,fun i h1 h2=>by omega⟩
    · rcases find_last P N with h | ⟨m,h1,h2,h3⟩
      · refine .inl fun i hi=>?_
        rcases Nat.lt_or_ge i N with z | z
        · exact h i z
        · have:i=N:=by omega
          rw [this]; exact c
      · refine .inr ⟨m,by omega,h2,fun i hi1 hi2=>?_⟩
        rcases Nat.lt_or_ge i N with z | z
        · exact h3 i hi1 z
        · have:i=N:=by omega
          rw [this]; exact c
theorem fs_len (qs:List Q4):(fsOf qs (Ti.nil.tags qs)).length=qs.length:=fsOf_len Ti.tags_len
theorem flowed_le (g:Good n M a c qs) {L:Int} (L0:0≤L) (hL:∀ q∈qs,q.2.2.1≤L) (who t:Int):gT (fsOf qs (Ti.nil.tags qs)) (whoAt qs) who (t:Rat) (2*n+1)≤((((dealtF qs).2.2.map (wtG qs who t)).sum+L:Int):Rat):=by
  obtain ⟨pmg,pls⟩:=places g hL
  have R:=g.runs
  rw [wt_sum pmg]
  unfold gT
  rw [fs_len]
  generalize (dealtF qs).2.2=gs at pls
  have lq:∀ p,p<qs.length→1≤lenAt qs p∧lenAt qs p≤L:=fun p hp=>by
    have e:qs[p]? = some qs[p]:=List.getElem?_eq_getElem hp
    unfold lenAt
    rw [e]
    exact ⟨(g.pc _ (List.mem_of_getElem? e)).2.2.1,hL _ (List.mem_of_getElem? e)⟩
  have y0:∀ p,p<qs.length→0≤wtP qs gs who t p:=fun p hp=>by
    have:=lq p hp
    unfold wtP
    split
    · rw [Int.min_def]; split <;> omega
    · exact Int.le_refl _
  rw [Rat.intCast_add,← tq_ints]
  have Lr:(0:Rat)≤(L:Rat):=Rat.intCast_le_intCast.mpr L0
  have low:∀ p,p<qs.length→(whoAt qs p=who→stOf gs p+lenAt qs p≤t)→(if whoAt qs p=who then aT (fsOf qs (Ti.nil.tags qs)) (t:Rat) p (2*n+1) else 0)≤(wtP qs gs who t p:Rat):=fun p hp h=>by
    obtain ⟨b,u,P⟩:=pls p hp
    by_cases w:whoAt qs p=who
    · rw [if_pos w]
      have hh:=h w
      have l1:=lq p hp
      have e:wtP qs gs who t p=lenAt qs p:=by
        unfold wtP
        rw [if_pos ⟨w,by omega⟩,Int.min_def,if_pos (by omega)]
      rw [e]
      exact (aT_len g P).2.2.2
    · rw [if_neg w]
      exact Rat.intCast_le_intCast.mpr (y0 p hp)
  rcases find_first (fun p=>whoAt qs p=who∧t<stOf gs p+lenAt qs p) qs.length with no | ⟨m,hm,⟨wm,tm⟩,lo⟩
  · have:=tq_le (l:=List.range qs.length) (f:=fun i=>if whoAt qs i=who then aT (fsOf qs (Ti.nil.tags qs)) (t:Rat) i (2*n+1) else 0) (g:=fun i=>(wtP qs gs who t i:Rat)) fun p hp=>by
      have hp:=List.mem_range.mp hp
      exact low p hp fun w=>by
        have:=no p hp
        omega
    grind
  · obtain ⟨b,u,Pm⟩:=pls m hm
    have lm:=lq m hm
    have ym:0≤wtP qs gs who t m∧t-stOf gs m≤wtP qs gs who t m:=by
      refine ⟨y0 m hm,?_⟩
      unfold wtP
      by_cases z:stOf gs m<t
      · rw [if_pos ⟨wm,z⟩,Int.min_def]
        split <;> omega
      · rw [if_neg (fun y=>z y.2)]
        omega
    have hi:∀ p,m<p→p<qs.length→whoAt qs p=who→∀ b' u',Pla n qs gs L p b' u'→u≤b':=fun p h1 h2 w b' u' P=>later_ge g Pm P h1 (by rw [wm,w])
    by_cases tu:(t:Rat)≤u
    · have:=tq_le (l:=List.range qs.length) (f:=fun i=>if whoAt qs i=who then aT (fsOf qs (Ti.nil.tags qs)) (t:Rat) i (2*n+1) else 0) (g:=fun i=>(wtP qs gs who t i:Rat)+(if m=i then (L:Rat) else 0)) fun p hp=>by
        have hp:=List.mem_range.mp hp
        have yp:(0:Rat)≤(wtP qs gs who t p:Rat):=Rat.intCast_le_intCast.mpr (y0 p hp)
        rcases Nat.lt_trichotomy p m with z | z | z
        · have:=low p hp fun w=>by have:=lo p z; omega
          rw [if_neg (show ¬ m=p by omega)]
          grind
        · subst z
          rw [if_pos rfl,if_pos wm]
          have:=(aT_len g Pm (t:=(t:Rat))).2.2.2
          have:(lenAt qs p:Rat)≤(L:Rat):=Rat.intCast_le_intCast.mpr lm.2
          grind
        · rw [if_neg (show ¬ m=p by omega)]
          by_cases w:whoAt qs p=who
          · obtain ⟨b',u',P⟩:=pls p hp
            have:=hi p z hp w b' u' P
            rw [if_pos w,(aT_len g P).2.1 (by grind)]
            grind
          · rw [if_neg w]; grind
      rw [tq_add,tq_place _ hm] at this
      exact this
    · have ut:u≤(t:Rat):=by grind
      have:=tq_le (l:=List.range qs.length) (f:=fun i=>if whoAt qs i=who then aT (fsOf qs (Ti.nil.tags qs)) (t:Rat) i (2*n+1) else 0) (g:=fun i=>((wtP qs gs who t i:Rat)+(if m=i then ((lenAt qs m-wtP qs gs who t m:Int):Rat) else 0))+(aT (fsOf qs (Ti.nil.tags qs)) (t:Rat) i (2*n+1)-aT (fsOf qs (Ti.nil.tags qs)) u i (2*n+1))) fun p hp=>by
        have hp:=List.mem_range.mp hp
        have yp:(0:Rat)≤(wtP qs gs who t p:Rat):=Rat.intCast_le_intCast.mpr (y0 p hp)
        have mo:=R.aT_mono ut p (2*n+1)
        rcases Nat.lt_trichotomy p m with z | z | z
        · have:=low p hp fun w=>by have:=lo p z; omega
          rw [if_neg (show ¬ m=p by omega)]
          grind
        · subst z
          rw [if_pos rfl,if_pos wm]
          have:=(aT_len g Pm (t:=(t:Rat))).2.2.2
          rw [Rat.intCast_sub]
          grind
        · rw [if_neg (show ¬ m=p by omega)]
          by_cases w:whoAt qs p=who
          · obtain ⟨b',u',P⟩:=pls p hp
            have:=hi p z hp w b' u' P
            rw [if_pos w,(aT_len g P (t:=u)).2.1 this]
            grind
          · rw [if_neg w]; grind
      rw [tq_add,tq_add,tq_place _ hm,tq_sub] at this
      have b1:=R.busy (t:Rat) (2*n+1)
      have b2:=R.busy u (2*n+1)
      have wk:=R.work ut (2*n+1)
      have c1:=clp_in ut (stS (fsOf qs (Ti.nil.tags qs)) (2*n+1)).1
      have c2:=clp_in ut (stS (fsOf qs (Ti.nil.tags qs)) 0).1
      rw [fs_len] at b1 b2
      have nr:=Pm.nr
      have z1:((t-stOf gs m:Int):Rat)≤(wtP qs gs who t m:Rat):=Rat.intCast_le_intCast.mpr ym.2
      rw [Rat.intCast_sub] at z1 nr this
      rw [Rat.intCast_add] at nr
      grind
theorem went_le (g:Good n M a c qs) {O:Int} (O0:0≤O) (who t:Int) (hO:∀ q∈qs,q.2.1=who→q.2.2.1≤O):((((dealtF qs).2.2.map (wtG qs who t)).sum-O:Int):Rat)≤gT (fsOf qs (Ti.nil.tags qs)) (whoAt qs) who (t:Rat) (2*n+1):=by
  obtain ⟨pmg,pls⟩:=places g (L:=1000000) fun q hq=>(g.pc q hq).2.2.2.1
  have R:=g.runs
  rw [wt_sum pmg]
  unfold gT
  rw [fs_len]
  generalize (dealtF qs).2.2=gs at pls
  have lq:∀ p,p<qs.length→1≤lenAt qs p∧(whoAt qs p=who→lenAt qs p≤O):=fun p hp=>by
    have e:qs[p]? = some qs[p]:=List.getElem?_eq_getElem hp
    have ew:=whoAt_of e
    unfold lenAt
    rw [ew,e]
    exact ⟨(g.pc _ (List.mem_of_getElem? e)).2.2.1,hO _ (List.mem_of_getElem? e)⟩
  rw [Rat.intCast_sub,← tq_ints]
  have f0:∀ p,p<qs.length→0≤(if whoAt qs p=who then aT (fsOf qs (Ti.nil.tags qs)) (t:Rat) p (2*n+1) else 0):=fun p hp=>by
    obtain ⟨b,u,P⟩:=pls p hp
    split
    · exact (aT_len g P).2.2.1
    · exact Rat.le_refl
  have Or:(0:Rat)≤(O:Rat):=Rat.intCast_le_intCast.mpr O0
  have nul:∀ p,¬ (whoAt qs p=who∧stOf gs p<t)→wtP qs gs who t p = 0:=fun p h=>by unfold wtP; rw [if_neg h]
  rcases find_last (fun p=>whoAt qs p=who∧stOf gs p<t) qs.length with no | ⟨m,hm,⟨wm,sm⟩,up⟩
  · have:=tq_le (l:=List.range qs.length) (f:=fun i=>(wtP qs gs who t i:Rat)) (g:=fun i=>if whoAt qs i=who then aT (fsOf qs (Ti.nil.tags qs)) (t:Rat) i (2*n+1) else 0) fun p hp=>by
      have hp:=List.mem_range.mp hp
      rw [nul p (no p hp)]
      exact f0 p hp
    grind
  · obtain ⟨b,u,Pm⟩:=pls m hm
    have:=tq_le (l:=List.range qs.length) (f:=fun i=>(wtP qs gs who t i:Rat)) (g:=fun i=>(if whoAt qs i=who then aT (fsOf qs (Ti.nil.tags qs)) (t:Rat) i (2*n+1) else 0)+(if m=i then (O:Rat) else 0)) fun p hp=>by
      have hp:=List.mem_range.mp hp
      have z0:=f0 p hp
      rcases Nat.lt_trichotomy p m with z | z | z
      · rw [if_neg (show ¬ m=p by omega)]
        by_cases w:whoAt qs p=who∧stOf gs p<t
        · obtain ⟨b',u',P⟩:=pls p hp
          have h1:=later_ge g P Pm z (by rw [wm,w.1])
          have h2:=Pm.bg
          have h3:(stOf gs m:Rat)≤(t:Rat):=Rat.intCast_le_intCast.mpr (by omega)
          rw [if_pos w.1,(aT_len g P).1 (by grind)]
          have:wtP qs gs who t p≤lenAt qs p:=by
            unfold wtP
            rw [if_pos w,Int.min_def]
            split <;> omega
          have:(wtP qs gs who t p:Rat)≤(lenAt qs p:Rat):=Rat.intCast_le_intCast.mpr this
          grind
        · rw [nul p w]
          grind
      · subst z
        rw [if_pos rfl]
        have:wtP qs gs who t p≤O:=by
          have:=lq p hp
          have:=this.2 wm
          unfold wtP
          rw [if_pos ⟨wm,sm⟩,Int.min_def]
          split <;> omega
        have:(wtP qs gs who t p:Rat)≤(O:Rat):=Rat.intCast_le_intCast.mpr this
        grind
      · rw [if_neg (show ¬ m=p by omega),nul p (up p z hp)]
        grind
    rw [tq_add,tq_place _ hm] at this
    grind
end
end Sw
local macro_rules | `(tactic| walk_at "rd")=>`(tactic| try simp only [L2.tAsg,L2.tOp,L2.tUn,L2.gName,L2.tVar,L2.tC,L2.rI,L2.rI0,L2.rU,L2.rEq,L2.rNe,L2.scal,L2.tTest,L2.tIfS,L2.tRet,L2.tRetN,L2.tNext,L2.tDrop,L2.tCB,L2.tCons,L2.tNil,L2.tCall,L2.tAndV,L2.tOrV,L2.tNotV,L2.tAnd,L2.tOr,L2.tNot,L2.tB,L2.tIf,L2.tChain,L2.tTup,L2.tLst,L2.tBM,L2.tBM0,L2.tComp_eq,L2.tCallX,L2.tCallN,L2.tDGet,L2.tDGet1,L2.tDGet2,L2.sDPut,L2.tDIn,L2.tDNotIn,L2.tDSd,L2.tDNewK,L2.tTru,L2.tFld_eq,L2.sFld_eq,L2.tMethX_eq,L2.tMakeX,L2.tXmk,L2.tXmk1,L2.tRaise,L2.tTry,L2.tTryAs,L2.hkOf,L2.iList,L2.iTup,L2.iEnum,L2.iRng1,L2.iRng2,L2.iRng3,L2.iEnum1,L2.iRev,L2.tSl,L2.tPart,L2.tNoPart,L2.gTup,L2.gCons,L2.gNil,L2.spInt1,L2.spInt2,L2.spWhole,
  List.getElem?_cons_zero,List.getElem?_cons_succ,List.set_cons_zero,List.set_cons_succ,List.cons_append,List.nil_append,List.append_nil,Option.some.injEq,L2.V.int.injEq,L2.V.bl.injEq,L2.V.ref.injEq,L2.V.str.injEq,List.cons.injEq,exists_eq_left',exists_eq_left,exists_eq_right,exists_and_left,exists_and_right,and_true,true_and,and_self,exists_const,exists_eq,exists_eq',and_assoc,decide_eq_true_eq,Bool.not_eq_true',Bool.not_true,Bool.not_false,Bool.false_eq_true,Bool.true_eq_false,if_true,if_false,decide_eq_false_iff_not,ite_not,↓reduceIte,Int.reduceLT,Int.reduceLE,Int.reducePow,Int.reduceMul,Int.reduceAdd,Int.reduceSub,Int.reduceNeg,Int.reduceToNat,Int.reduceEq,Int.reduceNe,L2.CPow,L2.cmulL_lit,L2.line_lit,L2.line_lt,List.length_cons,List.length_nil,Nat.reduceAdd,Nat.zero_add,L2.cdivL_lit,Int.natAbs_natCast,Int.natAbs_neg,Nat.reducePow,Nat.reduceLT,Nat.reduceLeDiff,Int.natAbs,L2.tPar,ne_eq,not_false_eq_true,not_true_eq_false])
local macro_rules | `(tactic| walk_at "rds")=>`(tactic| try simp only [L2.tSeq,L2.tAsg,L2.tOp,L2.tUn,L2.gName,L2.tVar,L2.tC,L2.rI,L2.rI0,L2.rU,L2.rEq,L2.rNe,L2.scal,L2.tTest,L2.tIfS,L2.tRet,L2.tRetN,L2.tNext,L2.tDrop,L2.tCB,L2.tCons,L2.tNil,L2.tCall,L2.tAndV,L2.tOrV,L2.tNotV,L2.tAnd,L2.tOr,L2.tNot,L2.tB,L2.tIf,L2.tChain,L2.tTup,L2.tLst,L2.tBM,L2.tBM0,L2.tComp_eq,L2.tCallX,L2.tCallN,L2.tDGet,L2.tDGet1,L2.tDGet2,L2.sDPut,L2.tDIn,L2.tDNotIn,L2.tDSd,L2.tDNewK,L2.tTru,L2.tFld_eq,L2.sFld_eq,L2.tMethX_eq,L2.tMakeX,L2.tXmk,L2.tXmk1,L2.tRaise,L2.tTry,L2.tTryAs,L2.hkOf,L2.iList,L2.iTup,L2.iEnum,L2.iRng1,L2.iRng2,L2.iRng3,L2.iEnum1,L2.iRev,L2.tSl,L2.tPart,L2.tNoPart,L2.gTup,L2.gCons,L2.gNil,L2.spInt1,L2.spInt2,L2.spWhole,
  List.getElem?_cons_zero,List.getElem?_cons_succ,List.set_cons_zero,List.set_cons_succ,List.cons_append,List.nil_append,List.append_nil,Option.some.injEq,L2.V.int.injEq,L2.V.bl.injEq,L2.V.ref.injEq,L2.V.str.injEq,List.cons.injEq,exists_eq_left',exists_eq_left,exists_eq_right,exists_and_left,exists_and_right,and_true,true_and,and_self,exists_const,exists_eq,exists_eq',and_assoc,decide_eq_true_eq,Bool.not_eq_true',Bool.not_true,Bool.not_false,Bool.false_eq_true,Bool.true_eq_false,if_true,if_false,decide_eq_false_iff_not,ite_not,↓reduceIte,Int.reduceLT,Int.reduceLE,Int.reducePow,Int.reduceMul,Int.reduceAdd,Int.reduceSub,Int.reduceNeg,Int.reduceToNat,Int.reduceEq,Int.reduceNe,L2.CPow,L2.cmulL_lit,L2.line_lit,L2.line_lt,List.length_cons,List.length_nil,Nat.reduceAdd,Nat.zero_add,L2.cdivL_lit,Int.natAbs_natCast,Int.natAbs_neg,Nat.reducePow,Nat.reduceLT,Nat.reduceLeDiff,Int.natAbs,L2.tPar,ne_eq,not_false_eq_true,not_true_eq_false])
namespace K35
open PySem L2 PyProof.Rows
def top (i:Nat):Stmt:=PySem.Challenge.pw_sharewheel_k35_went_and_flowed.main.body.getD i (.Pass ⟨0,0,0,0⟩)
abbrev s_divisor:Stmt:=top 4
abbrev s_ratio:Stmt:=top 5
abbrev s_plus:Stmt:=top 6
abbrev s_minus:Stmt:=top 7
abbrev s_times:Stmt:=top 8
abbrev s_over:Stmt:=top 9
abbrev s_under:Stmt:=top 10
abbrev s_lesser:Stmt:=top 11
abbrev s_greater:Stmt:=top 12
abbrev s_least:Stmt:=top 13
abbrev s_total:Stmt:=top 14
abbrev s_heads_of:Stmt:=top 16
abbrev s_overflows:Stmt:=top 20
abbrev s_dealt:Stmt:=top 21
abbrev s_tags_of:Stmt:=top 23
abbrev s_heads_at:Stmt:=top 24
abbrev s_first_end:Stmt:=top 25
abbrev s_flow:Stmt:=top 26
abbrev s_flowed:Stmt:=top 27
abbrev s__law_cell_at:Stmt:=top 29
abbrev s__law_stream:Stmt:=top 30
abbrev s__law_row:Stmt:=top 31
abbrev s__law_moments:Stmt:=top 32
abbrev s__law_went:Stmt:=top 33
abbrev s__law_near:Stmt:=top 34
abbrev s_law:Stmt:=top 35
theorem sc_divisor:FnScope ["one", "other", "great", "small", "rest"] ["one", "other"] (defScope s_divisor):=⟨rfl,rfl,rfl,by decide +kernel,rfl,by decide +kernel,by decide +kernel⟩
theorem sc_ratio:FnScope ["top", "bottom", "common"] ["top", "bottom"] (defScope s_ratio):=⟨rfl,rfl,rfl,by decide +kernel,rfl,by decide +kernel,by decide +kernel⟩
theorem sc_plus:FnScope ["one", "other"] ["one", "other"] (defScope s_plus):=⟨rfl,rfl,rfl,by decide +kernel,rfl,by decide +kernel,by decide +kernel⟩
theorem sc_minus:FnScope ["one", "other"] ["one", "other"] (defScope s_minus):=⟨rfl,rfl,rfl,by decide +kernel,rfl,by decide +kernel,by decide +kernel⟩
theorem sc_times:FnScope ["one", "other"] ["one", "other"] (defScope s_times):=⟨rfl,rfl,rfl,by decide +kernel,rfl,by decide +kernel,by decide +kernel⟩
theorem sc_over:FnScope ["one", "other"] ["one", "other"] (defScope s_over):=⟨rfl,rfl,rfl,by decide +kernel,rfl,by decide +kernel,by decide +kernel⟩
theorem sc_under:FnScope ["one", "other"] ["one", "other"] (defScope s_under):=⟨rfl,rfl,rfl,by decide +kernel,rfl,by decide +kernel,by decide +kernel⟩
theorem sc_lesser:FnScope ["one", "other", "least"] ["one", "other"] (defScope s_lesser):=⟨rfl,rfl,rfl,by decide +kernel,rfl,by decide +kernel,by decide +kernel⟩
theorem sc_greater:FnScope ["one", "other", "most"] ["one", "other"] (defScope s_greater):=⟨rfl,rfl,rfl,by decide +kernel,rfl,by decide +kernel,by decide +kernel⟩
theorem sc_least:FnScope ["some", "result", "one"] ["some"] (defScope s_least):=⟨rfl,rfl,rfl,by decide +kernel,rfl,by decide +kernel,by decide +kernel⟩
theorem sc_total:FnScope ["some", "result", "one"] ["some"] (defScope s_total):=⟨rfl,rfl,rfl,by decide +kernel,rfl,by decide +kernel,by decide +kernel⟩
theorem sc_heads_of:FnScope ["tagged", "mark"] ["tagged", "mark"] (defScope s_heads_of):=⟨rfl,rfl,rfl,by decide +kernel,rfl,by decide +kernel,by decide +kernel⟩
theorem sc_overflows:FnScope ["wheel", "piece", "rooms", "room"] ["wheel", "piece", "rooms"] (defScope s_overflows):=⟨rfl,rfl,rfl,by decide +kernel,rfl,by decide +kernel,by decide +kernel⟩
theorem sc_dealt:FnScope ["row", "rooms", "wheel", "dropped", "place", "piece"] ["row", "rooms"] (defScope s_dealt):=⟨rfl,rfl,rfl,by decide +kernel,rfl,by decide +kernel,by decide +kernel⟩
theorem sc_tags_of:FnScope ["row", "tide"] ["row"] (defScope s_tags_of):=⟨rfl,rfl,rfl,by decide +kernel,rfl,by decide +kernel,by decide +kernel⟩
theorem sc_heads_at:FnScope ["row", "tags", "moment", "mark", "heads", "place", "piece", "begin", "end", "come"] ["row", "tags", "moment", "mark"] (defScope s_heads_at):=⟨rfl,rfl,rfl,by decide +kernel,rfl,by decide +kernel,by decide +kernel⟩
theorem sc_first_end:FnScope ["tags", "heads", "shares", "moment", "mark", "way"] ["tags", "heads", "shares", "moment", "mark"] (defScope s_first_end):=⟨rfl,rfl,rfl,by decide +kernel,rfl,by decide +kernel,by decide +kernel⟩
theorem sc_flow:FnScope ["row", "tags", "stretches", "moment", "mark", "heads", "shares", "changes", "after"] ["row"] (defScope s_flow):=⟨rfl,rfl,rfl,by decide +kernel,rfl,by decide +kernel,by decide +kernel⟩
theorem sc_flowed:FnScope ["row", "who", "at", "some", "start", "end", "parts", "time"] ["row", "who", "at"] (defScope s_flowed):=⟨rfl,rfl,rfl,by decide +kernel,rfl,by decide +kernel,by decide +kernel⟩
theorem sc__law_cell_at:FnScope ["_law_script", "_law_k"] ["_law_script", "_law_k"] (defScope s__law_cell_at):=⟨rfl,rfl,rfl,by decide +kernel,rfl,by decide +kernel,by decide +kernel⟩
theorem sc__law_stream:FnScope ["_law_cell", "_law_many", "_law_found", "_law_number", "_law_k"] ["_law_cell", "_law_many"] (defScope s__law_stream):=⟨rfl,rfl,rfl,by decide +kernel,rfl,by decide +kernel,by decide +kernel⟩
theorem sc__law_row:FnScope ["_law_script", "_law_kind", "_law_way", "_law_at", "_law_row_here", "_law_k", "_law_cell", "_law_xs", "_law_who", "_law_length", "_law_share"] ["_law_script"] (defScope s__law_row):=⟨rfl,rfl,rfl,by decide +kernel,rfl,by decide +kernel,by decide +kernel⟩
theorem sc__law_moments:FnScope ["_law_cell", "_law_row_here", "_law_goings", "_law_moments_here", "_law_xs", "_law_number", "_law_place", "_law_start", "_law_length", "_law_part"] ["_law_cell", "_law_row_here", "_law_goings"] (defScope s__law_moments):=⟨rfl,rfl,rfl,by decide +kernel,rfl,by decide +kernel,by decide +kernel⟩
theorem sc__law_went:FnScope ["_law_row_here", "_law_goings", "_law_who", "_law_at", "_law_went_here", "_law_place", "_law_start"] ["_law_row_here", "_law_goings", "_law_who", "_law_at"] (defScope s__law_went):=⟨rfl,rfl,rfl,by decide +kernel,rfl,by decide +kernel,by decide +kernel⟩
theorem sc__law_near:FnScope ["_law_went_here", "_law_stream_here", "_law_long", "_law_own", "_law_top", "_law_bottom"] ["_law_went_here", "_law_stream_here", "_law_long", "_law_own"] (defScope s__law_near):=⟨rfl,rfl,rfl,by decide +kernel,rfl,by decide +kernel,by decide +kernel⟩
theorem sc_law:FnScope ["_law_script", "_law_row_here", "_law_goings", "_law_long", "_law_at", "_law_who", "_law_own", "_law_went_here"] ["_law_script"] (defScope s_law):=⟨rfl,rfl,rfl,by decide +kernel,rfl,by decide +kernel,by decide +kernel⟩
abbrev s_Tide_init:Stmt:=inClass (top 17) 0
theorem sc_Tide_init:FnScope ["self"] ["self"] (defScope s_Tide_init):=⟨rfl,rfl,rfl,by decide +kernel,rfl,by decide +kernel,by decide +kernel⟩
abbrev s_Tide_mark:Stmt:=inClass (top 17) 1
theorem sc_Tide_mark:FnScope ["self", "at", "moment", "reached", "heads", "shares", "first_end", "after"] ["self", "at"] (defScope s_Tide_mark):=⟨rfl,rfl,rfl,by decide +kernel,rfl,by decide +kernel,by decide +kernel⟩
abbrev s_Tide_come:Stmt:=inClass (top 17) 2
theorem sc_Tide_come:FnScope ["self", "piece", "reached", "begin", "end"] ["self", "piece"] (defScope s_Tide_come):=⟨rfl,rfl,rfl,by decide +kernel,rfl,by decide +kernel,by decide +kernel⟩
abbrev s_Wheel_init:Stmt:=inClass (top 19) 0
theorem sc_Wheel_init:FnScope ["self"] ["self"] (defScope s_Wheel_init):=⟨rfl,rfl,rfl,by decide +kernel,rfl,by decide +kernel,by decide +kernel⟩
abbrev s_Wheel_piled_up:Stmt:=inClass (top 19) 1
abbrev s_Wheel_take_in:Stmt:=inClass (top 19) 2
theorem sc_Wheel_take_in:FnScope ["self", "place", "piece"] ["self", "place", "piece"] (defScope s_Wheel_take_in):=⟨rfl,rfl,rfl,by decide +kernel,rfl,by decide +kernel,by decide +kernel⟩
abbrev s_Wheel_choice_time:Stmt:=inClass (top 19) 3
theorem sc_Wheel_choice_time:FnScope ["self"] ["self"] (defScope s_Wheel_choice_time):=⟨rfl,rfl,rfl,by decide +kernel,rfl,by decide +kernel,by decide +kernel⟩
abbrev s_Wheel_next_to_go:Stmt:=inClass (top 19) 4
theorem sc_Wheel_next_to_go:FnScope ["self", "mark", "chosen", "one", "begun"] ["self", "mark"] (defScope s_Wheel_next_to_go):=⟨rfl,rfl,rfl,by decide +kernel,rfl,by decide +kernel,by decide +kernel⟩
abbrev s_Wheel_make_choice:Stmt:=inClass (top 19) 5
theorem sc_Wheel_make_choice:FnScope ["self", "start", "chosen"] ["self"] (defScope s_Wheel_make_choice):=⟨rfl,rfl,rfl,by decide +kernel,rfl,by decide +kernel,by decide +kernel⟩
abbrev s_Wheel_run_up_to:Stmt:=inClass (top 19) 6
theorem sc_Wheel_run_up_to:FnScope ["self", "at"] ["self", "at"] (defScope s_Wheel_run_up_to):=⟨rfl,rfl,rfl,by decide +kernel,rfl,by decide +kernel,by decide +kernel⟩
abbrev s_Wheel_run_out:Stmt:=inClass (top 19) 7
theorem sc_Wheel_run_out:FnScope ["self"] ["self"] (defScope s_Wheel_run_out):=⟨rfl,rfl,rfl,by decide +kernel,rfl,by decide +kernel,by decide +kernel⟩
structure Txt (K:PySem.W.Frag) (mg:Str→Option Value) (c_Tide:Addr) (c_Wheel:Addr):Prop where
  no_abs:mg "abs" = none
  no_enumerate:mg "enumerate" = none
  no_sum:mg "sum" = none
  no_len:mg "len" = none
  no_range:mg "range" = none
  no_min:mg "min" = none
  no_max:mg "max" = none
  no_list:mg "list" = none
  src_divisor:Src K mg "divisor" s_divisor ["one", "other"]
  src_ratio:Src K mg "ratio" s_ratio ["top", "bottom"]
  src_plus:Src K mg "plus" s_plus ["one", "other"]
  src_minus:Src K mg "minus" s_minus ["one", "other"]
  src_times:Src K mg "times" s_times ["one", "other"]
  src_over:Src K mg "over" s_over ["one", "other"]
  src_under:Src K mg "under" s_under ["one", "other"]
  src_lesser:Src K mg "lesser" s_lesser ["one", "other"]
  src_greater:Src K mg "greater" s_greater ["one", "other"]
  src_least:Src K mg "least" s_least ["some"]
  src_total:Src K mg "total" s_total ["some"]
  src_heads_of:Src K mg "heads_of" s_heads_of ["tagged", "mark"]
  src_overflows:Src K mg "overflows" s_overflows ["wheel", "piece", "rooms"]
  src_dealt:SrcD K mg "dealt" s_dealt ["row", "rooms"] [[],[V.non]]
  src_tags_of:Src K mg "tags_of" s_tags_of ["row"]
  src_heads_at:Src K mg "heads_at" s_heads_at ["row", "tags", "moment", "mark"]
  src_first_end:Src K mg "first_end" s_first_end ["tags", "heads", "shares", "moment", "mark"]
  src_flow:Src K mg "flow" s_flow ["row"]
  src_flowed:Src K mg "flowed" s_flowed ["row", "who", "at"]
  src__law_cell_at:Src K mg "_law_cell_at" s__law_cell_at ["_law_script", "_law_k"]
  src__law_stream:Src K mg "_law_stream" s__law_stream ["_law_cell", "_law_many"]
  src__law_row:Src K mg "_law_row" s__law_row ["_law_script"]
  src__law_moments:Src K mg "_law_moments" s__law_moments ["_law_cell", "_law_row_here", "_law_goings"]
  src__law_went:Src K mg "_law_went" s__law_went ["_law_row_here", "_law_goings", "_law_who", "_law_at"]
  src__law_near:Src K mg "_law_near" s__law_near ["_law_went_here", "_law_stream_here", "_law_long", "_law_own"]
  mg_Tide:mg "Tide" = some (.ref c_Tide)
  cl_Tide:Cls K c_Tide
  na_Tide_latest:NoAttr K c_Tide "latest"
  na_Tide_reached:NoAttr K c_Tide "reached"
  na_Tide_unflowed:NoAttr K c_Tide "unflowed"
  na_Tide_last_ends:NoAttr K c_Tide "last_ends"
  in_Tide:SrcK K c_Tide "Tide.__init__" s_Tide_init ["self"] [[]]
  me_Tide_mark:SrcM K c_Tide "mark" "Tide.mark" s_Tide_mark ["self", "at"] [[]]
  me_Tide_come:SrcM K c_Tide "come" "Tide.come" s_Tide_come ["self", "piece"] [[]]
  mg_Wheel:mg "Wheel" = some (.ref c_Wheel)
  cl_Wheel:Cls K c_Wheel
  na_Wheel_tide:NoAttr K c_Wheel "tide"
  na_Wheel_free:NoAttr K c_Wheel "free"
  na_Wheel_queue:NoAttr K c_Wheel "queue"
  na_Wheel_gone:NoAttr K c_Wheel "gone"
  in_Wheel:SrcK K c_Wheel "Wheel.__init__" s_Wheel_init ["self"] [[]]
  me_Wheel_piled_up:SrcM K c_Wheel "piled_up" "Wheel.piled_up" s_Wheel_piled_up ["self", "who"] [[]]
  me_Wheel_take_in:SrcM K c_Wheel "take_in" "Wheel.take_in" s_Wheel_take_in ["self", "place", "piece"] [[]]
  me_Wheel_choice_time:SrcM K c_Wheel "choice_time" "Wheel.choice_time" s_Wheel_choice_time ["self"] [[]]
  me_Wheel_next_to_go:SrcM K c_Wheel "next_to_go" "Wheel.next_to_go" s_Wheel_next_to_go ["self", "mark"] [[]]
  me_Wheel_make_choice:SrcM K c_Wheel "make_choice" "Wheel.make_choice" s_Wheel_make_choice ["self"] [[]]
  me_Wheel_run_up_to:SrcM K c_Wheel "run_up_to" "Wheel.run_up_to" s_Wheel_run_up_to ["self", "at"] [[]]
  me_Wheel_run_out:SrcM K c_Wheel "run_out" "Wheel.run_out" s_Wheel_run_out ["self"] [[]]
section
variable {P:Program} {w:World} {K:PySem.W.Frag} {mg:Str→Option Value} {base:Heap} {c_Tide c_Wheel:Addr}
theorem d_divisor (T:Txt K mg c_Tide c_Wheel):Def P w K mg base (CXX P w) 1 "divisor" ["one", "other"] (spInt2 Sw.dv):=by
  refine T.src_divisor.okN (k:=0) sc_divisor (fun vs H Q E h=>?_) (fun f cdv A outer s H vs Q E hr h=>?_)
  · obtain ⟨a,b,rfl,_⟩:=h
    rfl
  · obtain ⟨a,b,rfl,k⟩:=h
    refine ⟨_,(pss_cons (ps_set (i:=2) sc_divisor.nd rfl (by first|left;rfl|right;rfl) (pe_callB call_abs rfl T.no_abs boot_abs (pa_cons (pv 0) pa_nil))) (pss_cons (ps_set (i:=3) sc_divisor.nd rfl (by first|left;rfl|right;rfl) (pe_callB call_abs rfl T.no_abs boot_abs (pa_cons (pv 1) pa_nil))) (pss_cons (ps_while PassesOwn.never (pt_cmpR op_ne (pv 3) pe_int (nomark _)) (pss_cons (ps_set (i:=4) sc_divisor.nd rfl (by first|left;rfl|right;rfl) (pe_op op_mod (pv 2) (pv 3))) (pss_cons (ps_set (i:=2) sc_divisor.nd rfl (by first|left;rfl|right;rfl) (pv 3)) (pss_one (ps_set (i:=3) sc_divisor.nd rfl (by first|left;rfl|right;rfl) (pv 4)))))) (pss_one (ps_ret (pv 2)))))),?_⟩
    refine ⟨_,rfl,a,rfl,?_⟩
    refine ⟨_,rfl,b,rfl,?_⟩
    refine while_det (fun σ H'=>H'=H∧∃ g s r,σ = [some (.int a),some (.int b),some (.int g),some (.int s),r]∧0≤g∧0≤s∧Sw.dv g s=Sw.dv a b)
      (fun σ _=>match σ with | [_,_,_,some (.int s),_]=>s.toNat | _=>0) ⟨rfl,_,_,none,rfl,?_,?_,Sw.dv_abs a b⟩ ?_
    · split <;> omega
    · split <;> omega
    · rintro σ H' ⟨rfl,g,s,r,rfl,hg,hs,e⟩
      refine ⟨!decide (V.int s=V.int 0),fun Q hQ=>⟨_,rfl,rfl,_,rfl,hQ⟩,fun hb=>?_,fun hb=>?_⟩
      · have hs0:s≠0:=by intro z; subst z; simp at hb
        have hsp:0<s:=by omega
        refine ⟨_,rfl,_,rfl,_,_,rfl,rfl,hsp,?_⟩
        refine ⟨_,rfl,?_⟩
        refine ⟨_,rfl,?_⟩
        refine ⟨⟨rfl,s,g % s,_,rfl,hs,Int.emod_nonneg g hs0,by rw [Sw.dv_step]; exact e⟩,?_⟩
        show (g % s).toNat<s.toNat
        have:=Int.emod_lt_of_pos g hsp
        have:=Int.emod_nonneg g hs0
        omega
      · have hs0:s = 0:=by
          have:V.int s=V.int 0:=by simpa using hb
          exact V.int.inj this
        subst hs0
        rw [Sw.dv_zero g hg] at e
        refine ⟨_,rfl,?_⟩
        show Q (.int g) H'
        rw [e]; exact k
def spRat:Sp:=fun vs H Q _=>∃ t b z,vs = [.int t,.int b]∧z≤5000∧Sw.Sz z b∧(b≠0→∀ p,H p=none→Q (.ref p) (upd H p (.tup (fq ((t:Rat) / (b:Rat))))))∧(b = 0→False)
theorem d_ratio (T:Txt K mg c_Tide c_Wheel):Def P w K mg base (CXX P w) 2 "ratio" ["top", "bottom"] spRat:=by
  have D_divisor:=d_divisor (P:=P) (w:=w) (base:=base) T
  refine T.src_ratio.okN (k:=1) sc_ratio (fun vs H Q E h=>?_) (fun f cdv A outer s H vs Q E hr h=>?_)
  · obtain ⟨t,b,z,rfl,_⟩:=h
    rfl
  · obtain ⟨t,b,z,rfl,z5,sb,k,hb⟩:=h
    refine ⟨_,(pss_cons (ps_if (pt_cmpR op_eq (pv 1) pe_int (nomark _)) (pss_one ps_never) pss_nil) (pss_cons (ps_set (i:=2) sc_ratio.nd rfl (by first|left;rfl|right;rfl) (pe_callX D_divisor (hr.mono (by decide)) rfl passN (pa_cons (pv 0) (pa_cons (pv 1) pa_nil)))) (pss_cons (ps_if (pt_cmpR op_lt (pv 1) pe_int (nomark _)) (pss_one (ps_set (i:=2) sc_ratio.nd rfl (by first|left;rfl|right;rfl) (pe_un un_neg (pv 2)))) pss_nil) (pss_one (ps_ret (pe_tup (pa_cons (pe_op op_fdivS (pv 0) (pv 2)) (pa_cons (pe_op op_fdivS (pv 1) (pv 2)) pa_nil)))))))),?_⟩
    show tSeq _ _ _ [some (.int t),some (.int b),none] H
    refine seq_step fun R hR=>?_
    walk_at "rd"
    refine iteN hb (hR _ _ ?_)
    have k:=k hb
    rw [← fq_nrm hb] at k
    have hg:0<Sw.dv t b:=Sw.dv_pos hb
    have hz:Sw.Sz 5000 (Sw.dv t b):=(sb.dvd (Sw.dv_r t b) hb).mono z5
    refine seq_step fun R hR=>?_
    walk_at "rd"
    refine hR _ _ ?_
    refine seq_step fun R hR=>?_
    have fin:∀ c:Int,(c=Sw.dv t b∧¬ b<0)∨(c = -(Sw.dv t b)∧b<0)→R [some (.int t),some (.int b),some (.int c)] H:=fun c hc=>by
      refine hR _ _ ?_
      walk_at "rd"
      have c0:c≠0:=by rcases hc with ⟨e,_⟩ | ⟨e,_⟩ <;> omega
      have cz:Sw.Sz 5000 c:=by
        rcases hc with ⟨e,_⟩ | ⟨e,_⟩
        · rw [e]; exact hz
        · rw [e]; exact hz.neg
      have d1:c ∣ t:=by
        rcases hc with ⟨e,_⟩ | ⟨e,_⟩
        · rw [e]; exact Sw.dv_l t b
        · rw [e]; exact Int.neg_dvd.mpr (Sw.dv_l t b)
      have d2:c ∣ b:=by
        rcases hc with ⟨e,_⟩ | ⟨e,_⟩
        · rw [e]; exact Sw.dv_r t b
        · rw [e]; exact Int.neg_dvd.mpr (Sw.dv_r t b)
      have e1:t.fdiv c=Sw.rN t b:=by
        rw [Int.fdiv_eq_ediv_of_dvd d1]
        unfold Sw.rN
        rcases hc with ⟨e,q⟩ | ⟨e,q⟩
        · rw [if_neg q,e]
        · rw [if_pos q,e]
      have e2:b.fdiv c=Sw.rD t b:=by
        rw [Int.fdiv_eq_ediv_of_dvd d2]
        unfold Sw.rD
        rcases hc with ⟨e,q⟩ | ⟨e,q⟩
        · rw [if_neg q,e]
        · rw [if_pos q,e]
      rw [e1,e2]
      exact ⟨⟨c0,cz⟩,⟨c0,cz⟩,k⟩
    simp only [L2.tSeq]
    walk_at "rd"
    exact ite2 (fun c=>fin _ (.inr ⟨rfl,c⟩)) fun c=>fin _ (.inl ⟨rfl,c⟩)
def spPlus:Sp:=fun vs H Q _=>∃ p q a b z,vs = [.ref p,.ref q]∧H p=some (.tup (fq a))∧H q=some (.tup (fq b))∧z≤2400∧Sw.SzQ z a∧Sw.SzQ z b∧∀ r,H r=none→Q (.ref r) (upd H r (.tup (fq (a+b))))
theorem d_plus (T:Txt K mg c_Tide c_Wheel):Def P w K mg base (CXX P w) 3 "plus" ["one", "other"] spPlus:=by
  have D_ratio:=d_ratio (P:=P) (w:=w) (base:=base) T
  refine T.src_plus.okN (k:=2) sc_plus (fun vs H Q E h=>?_) (fun f cdv A outer s H vs Q E hr h=>?_)
  · obtain ⟨p,q,a,b,z,rfl,_⟩:=h
    rfl
  · obtain ⟨p,q,a,b,z,rfl,hp,hq,hz,s1,s2,k⟩:=h
    refine ⟨_,(pss_one (ps_ret (pe_callX D_ratio (hr.mono (by decide)) rfl passN (pa_cons (pe_op op_add (pe_op op_mulL (pe_ix (ix_tupK K rfl) (pv 0) pe_int (fun _ _=>rfl)) (pe_ix (ix_tupK K rfl) (pv 1) pe_int (fun _ _=>rfl))) (pe_op op_mulL (pe_ix (ix_tupK K rfl) (pv 1) pe_int (fun _ _=>rfl)) (pe_ix (ix_tupK K rfl) (pv 0) pe_int (fun _ _=>rfl)))) (pa_cons (pe_op op_mulL (pe_ix (ix_tupK K rfl) (pv 0) pe_int (fun _ _=>rfl)) (pe_ix (ix_tupK K rfl) (pv 1) pe_int (fun _ _=>rfl))) pa_nil))))),?_⟩
    show tRet _ _ [some (.ref p),some (.ref q)] H
    have hab:=Int.mul_ne_zero (Sw.q_den_ne a) (Sw.q_den_ne b)
    walk_at "rd"
    refine ixT_at (.of hp) rfl (ixT_at (.of hq) rfl ?_)
    walk_at "rd"
    refine ⟨⟨s1.n.mono (by omega),s2.d.mono (by omega)⟩,ixT_at (.of hq) rfl (ixT_at (.of hp) rfl ?_)⟩
    walk_at "rd"
    refine ⟨⟨s2.n.mono (by omega),s1.d.mono (by omega)⟩,ixT_at (.of hp) rfl (ixT_at (.of hq) rfl ?_)⟩
    walk_at "rd"
    refine ⟨⟨s1.d.mono (by omega),s2.d.mono (by omega)⟩,_,_,z+z,rfl,by omega,s1.d.mul s2.d,fun _=>?_,fun z=>absurd z hab⟩
    rw [Sw.add_q]
    exact k
def spMinus:Sp:=fun vs H Q _=>∃ p q a b z,vs = [.ref p,.ref q]∧H p=some (.tup (fq a))∧H q=some (.tup (fq b))∧z≤2400∧Sw.SzQ z a∧Sw.SzQ z b∧∀ r,H r=none→Q (.ref r) (upd H r (.tup (fq (a-b))))
theorem d_minus (T:Txt K mg c_Tide c_Wheel):Def P w K mg base (CXX P w) 3 "minus" ["one", "other"] spMinus:=by
  have D_ratio:=d_ratio (P:=P) (w:=w) (base:=base) T
  refine T.src_minus.okN (k:=2) sc_minus (fun vs H Q E h=>?_) (fun f cdv A outer s H vs Q E hr h=>?_)
  · obtain ⟨p,q,a,b,z,rfl,_⟩:=h
    rfl
  · obtain ⟨p,q,a,b,z,rfl,hp,hq,hz,s1,s2,k⟩:=h
    refine ⟨_,(pss_one (ps_ret (pe_callX D_ratio (hr.mono (by decide)) rfl passN (pa_cons (pe_op op_sub (pe_op op_mulL (pe_ix (ix_tupK K rfl) (pv 0) pe_int (fun _ _=>rfl)) (pe_ix (ix_tupK K rfl) (pv 1) pe_int (fun _ _=>rfl))) (pe_op op_mulL (pe_ix (ix_tupK K rfl) (pv 1) pe_int (fun _ _=>rfl)) (pe_ix (ix_tupK K rfl) (pv 0) pe_int (fun _ _=>rfl)))) (pa_cons (pe_op op_mulL (pe_ix (ix_tupK K rfl) (pv 0) pe_int (fun _ _=>rfl)) (pe_ix (ix_tupK K rfl) (pv 1) pe_int (fun _ _=>rfl))) pa_nil))))),?_⟩
    show tRet _ _ [some (.ref p),some (.ref q)] H
    have hab:=Int.mul_ne_zero (Sw.q_den_ne a) (Sw.q_den_ne b)
    walk_at "rd"
    refine ixT_at (.of hp) rfl (ixT_at (.of hq) rfl ?_)
    walk_at "rd"
    refine ⟨⟨s1.n.mono (by omega),s2.d.mono (by omega)⟩,ixT_at (.of hq) rfl (ixT_at (.of hp) rfl ?_)⟩
    walk_at "rd"
    refine ⟨⟨s2.n.mono (by omega),s1.d.mono (by omega)⟩,ixT_at (.of hp) rfl (ixT_at (.of hq) rfl ?_)⟩
    walk_at "rd"
    refine ⟨⟨s1.d.mono (by omega),s2.d.mono (by omega)⟩,_,_,z+z,rfl,by omega,s1.d.mul s2.d,fun _=>?_,fun z=>absurd z hab⟩
    rw [Sw.sub_q]
    exact k
def spTimes:Sp:=fun vs H Q _=>∃ p q a b z,vs = [.ref p,.ref q]∧H p=some (.tup (fq a))∧H q=some (.tup (fq b))∧z≤2400∧Sw.SzQ z a∧Sw.SzQ z b∧∀ r,H r=none→Q (.ref r) (upd H r (.tup (fq (a*b))))
theorem d_times (T:Txt K mg c_Tide c_Wheel):Def P w K mg base (CXX P w) 3 "times" ["one", "other"] spTimes:=by
  have D_ratio:=d_ratio (P:=P) (w:=w) (base:=base) T
  refine T.src_times.okN (k:=2) sc_times (fun vs H Q E h=>?_) (fun f cdv A outer s H vs Q E hr h=>?_)
  · obtain ⟨p,q,a,b,z,rfl,_⟩:=h
    rfl
  · obtain ⟨p,q,a,b,z,rfl,hp,hq,hz,s1,s2,k⟩:=h
    refine ⟨_,(pss_one (ps_ret (pe_callX D_ratio (hr.mono (by decide)) rfl passN (pa_cons (pe_op op_mulL (pe_ix (ix_tupK K rfl) (pv 0) pe_int (fun _ _=>rfl)) (pe_ix (ix_tupK K rfl) (pv 1) pe_int (fun _ _=>rfl))) (pa_cons (pe_op op_mulL (pe_ix (ix_tupK K rfl) (pv 0) pe_int (fun _ _=>rfl)) (pe_ix (ix_tupK K rfl) (pv 1) pe_int (fun _ _=>rfl))) pa_nil))))),?_⟩
    show tRet _ _ [some (.ref p),some (.ref q)] H
    have hab:=Int.mul_ne_zero (Sw.q_den_ne a) (Sw.q_den_ne b)
    walk_at "rd"
    refine ixT_at (.of hp) rfl (ixT_at (.of hq) rfl ?_)
    walk_at "rd"
    refine ⟨⟨s1.n.mono (by omega),s2.n.mono (by omega)⟩,ixT_at (.of hp) rfl (ixT_at (.of hq) rfl ?_)⟩
    walk_at "rd"
    refine ⟨⟨s1.d.mono (by omega),s2.d.mono (by omega)⟩,_,_,z+z,rfl,by omega,s1.d.mul s2.d,fun _=>?_,fun z=>absurd z hab⟩
    rw [Sw.mul_q]
    exact k
def spOver:Sp:=fun vs H Q _=>∃ p q a b z,vs = [.ref p,.ref q]∧H p=some (.tup (fq a))∧H q=some (.tup (fq b))∧z≤2400∧Sw.SzQ z a∧Sw.SzQ z b∧b≠0∧∀ r,H r=none→Q (.ref r) (upd H r (.tup (fq (a / b))))
theorem d_over (T:Txt K mg c_Tide c_Wheel):Def P w K mg base (CXX P w) 3 "over" ["one", "other"] spOver:=by
  have D_ratio:=d_ratio (P:=P) (w:=w) (base:=base) T
  refine T.src_over.okN (k:=2) sc_over (fun vs H Q E h=>?_) (fun f cdv A outer s H vs Q E hr h=>?_)
  · obtain ⟨p,q,a,b,z,rfl,_⟩:=h
    rfl
  · obtain ⟨p,q,a,b,z,rfl,hp,hq,hz,s1,s2,hb,k⟩:=h
    refine ⟨_,(pss_one (ps_ret (pe_callX D_ratio (hr.mono (by decide)) rfl passN (pa_cons (pe_op op_mulL (pe_ix (ix_tupK K rfl) (pv 0) pe_int (fun _ _=>rfl)) (pe_ix (ix_tupK K rfl) (pv 1) pe_int (fun _ _=>rfl))) (pa_cons (pe_op op_mulL (pe_ix (ix_tupK K rfl) (pv 0) pe_int (fun _ _=>rfl)) (pe_ix (ix_tupK K rfl) (pv 1) pe_int (fun _ _=>rfl))) pa_nil))))),?_⟩
    show tRet _ _ [some (.ref p),some (.ref q)] H
    have hn:=Sw.q_num_ne hb
    have hab:=Int.mul_ne_zero (Sw.q_den_ne a) hn
    walk_at "rd"
    refine ixT_at (.of hp) rfl (ixT_at (.of hq) rfl ?_)
    walk_at "rd"
    refine ⟨⟨s1.n.mono (by omega),s2.d.mono (by omega)⟩,ixT_at (.of hp) rfl (ixT_at (.of hq) rfl ?_)⟩
    walk_at "rd"
    refine ⟨⟨s1.d.mono (by omega),s2.n.mono (by omega)⟩,_,_,z+z,rfl,by omega,s1.d.mul s2.n,fun _=>?_,fun z=>absurd z hab⟩
    rw [Sw.div_q a b hn]
    exact k
def spUnder:Sp:=fun vs H Q _=>∃ p q a b,vs = [.ref p,.ref q]∧H p=some (.tup (fq a))∧H q=some (.tup (fq b))∧Sw.SzQ 5000 a∧Sw.SzQ 5000 b∧Q (.bl (decide (a<b))) H
theorem d_under (T:Txt K mg c_Tide c_Wheel):Def P w K mg base (CXX P w) 1 "under" ["one", "other"] spUnder:=by
  refine T.src_under.okN (k:=0) sc_under (fun vs H Q E h=>?_) (fun f cdv A outer s H vs Q E hr h=>?_)
  · obtain ⟨p,q,a,b,rfl,_⟩:=h
    rfl
  · obtain ⟨p,q,a,b,rfl,hp,hq,s1,s2,k⟩:=h
    refine ⟨_,(pss_one (ps_ret (pe_cmpR op_lt (pe_op op_mulL (pe_ix (ix_tupK K rfl) (pv 0) pe_int (fun _ _=>rfl)) (pe_ix (ix_tupK K rfl) (pv 1) pe_int (fun _ _=>rfl))) (pe_op op_mulL (pe_ix (ix_tupK K rfl) (pv 1) pe_int (fun _ _=>rfl)) (pe_ix (ix_tupK K rfl) (pv 0) pe_int (fun _ _=>rfl))) (nomark _)))),?_⟩
    show tRet _ _ [some (.ref p),some (.ref q)] H
    walk_at "rd"
    refine ixT_at (.of hp) rfl (ixT_at (.of hq) rfl ?_)
    walk_at "rd"
    refine ⟨⟨s1.n,s2.d⟩,ixT_at (.of hq) rfl (ixT_at (.of hp) rfl ?_)⟩
    walk_at "rd"
    refine ⟨⟨s2.n,s1.d⟩,?_⟩
    rw [show decide (a.num*(b.den:Int)<b.num*(a.den:Int))=decide (a<b) from decide_eq_decide.mpr Sw.q_lt]
    exact k
def spLesser:Sp:=fun vs H Q _=>∃ p q a b,vs = [.ref p,.ref q]∧H p=some (.tup (fq a))∧H q=some (.tup (fq b))∧Sw.SzQ 5000 a∧Sw.SzQ 5000 b∧∀ r,H r=none→Q (.ref r) (upd H r (.tup (fq (min a b))))
theorem d_lesser (T:Txt K mg c_Tide c_Wheel):Def P w K mg base (CXX P w) 2 "lesser" ["one", "other"] spLesser:=by
  have D_under:=d_under (P:=P) (w:=w) (base:=base) T
  refine T.src_lesser.okN (k:=1) sc_lesser (fun vs H Q E h=>?_) (fun f cdv A outer s H vs Q E hr h=>?_)
  · obtain ⟨p,q,a,b,rfl,_⟩:=h
    rfl
  · obtain ⟨p,q,a,b,rfl,hp,hq,s1,s2,k⟩:=h
    refine ⟨_,(pss_cons (ps_set (i:=2) sc_lesser.nd rfl (by first|left;rfl|right;rfl) (pe_ifExp (pt_val (pe_callX D_under (hr.mono (by decide)) rfl passN (pa_cons (pv 1) (pa_cons (pv 0) pa_nil)))) (pv 1) (pv 0))) (pss_one (ps_ret (pe_tup (pa_cons (pe_ix (ix_tupK K rfl) (pv 2) pe_int (fun _ _=>rfl)) (pa_cons (pe_ix (ix_tupK K rfl) (pv 2) pe_int (fun _ _=>rfl)) pa_nil)))))),?_⟩
    show tSeq _ _ _ [some (.ref p),some (.ref q),none] H
    refine seq_step fun R hR=>?_
    have key:∀ x c,H x=some (.tup (fq c))→c=min a b→R [some (.ref p),some (.ref q),some (.ref x)] H:=fun x c hx e=>by
      refine hR _ _ ?_
      walk_at "rd"
      subst e
      exact ixT_at (.of hx) rfl (ixT_at (.of hx) rfl k)
    walk_at "rd"
    refine ⟨q,p,b,a,rfl,hq,hp,s2,s1,?_⟩
    walk_at "rd"
    exact ite2 (fun h=>key q b hq (by rw [Rat.min_def]; grind)) fun h=>key p a hp (by rw [Rat.min_def]; grind)
def spGreater:Sp:=fun vs H Q _=>∃ p q a b,vs = [.ref p,.ref q]∧H p=some (.tup (fq a))∧H q=some (.tup (fq b))∧Sw.SzQ 5000 a∧Sw.SzQ 5000 b∧∀ r,H r=none→Q (.ref r) (upd H r (.tup (fq (max a b))))
theorem d_greater (T:Txt K mg c_Tide c_Wheel):Def P w K mg base (CXX P w) 2 "greater" ["one", "other"] spGreater:=by
  have D_under:=d_under (P:=P) (w:=w) (base:=base) T
  refine T.src_greater.okN (k:=1) sc_greater (fun vs H Q E h=>?_) (fun f cdv A outer s H vs Q E hr h=>?_)
  · obtain ⟨p,q,a,b,rfl,_⟩:=h
    rfl
  · obtain ⟨p,q,a,b,rfl,hp,hq,s1,s2,k⟩:=h
    refine ⟨_,(pss_cons (ps_set (i:=2) sc_greater.nd rfl (by first|left;rfl|right;rfl) (pe_ifExp (pt_val (pe_callX D_under (hr.mono (by decide)) rfl passN (pa_cons (pv 0) (pa_cons (pv 1) pa_nil)))) (pv 1) (pv 0))) (pss_one (ps_ret (pe_tup (pa_cons (pe_ix (ix_tupK K rfl) (pv 2) pe_int (fun _ _=>rfl)) (pa_cons (pe_ix (ix_tupK K rfl) (pv 2) pe_int (fun _ _=>rfl)) pa_nil)))))),?_⟩
    show tSeq _ _ _ [some (.ref p),some (.ref q),none] H
    refine seq_step fun R hR=>?_
    have key:∀ x c,H x=some (.tup (fq c))→c=max a b→R [some (.ref p),some (.ref q),some (.ref x)] H:=fun x c hx e=>by
      refine hR _ _ ?_
      walk_at "rd"
      subst e
      exact ixT_at (.of hx) rfl (ixT_at (.of hx) rfl k)
    walk_at "rd"
    refine ⟨p,q,a,b,rfl,hp,hq,s1,s2,?_⟩
    walk_at "rd"
    exact ite2 (fun h=>key q b hq (by rw [Rat.max_def]; grind)) fun h=>key p a hp (by rw [Rat.max_def]; grind)
def spLeast:Sp:=fun vs H Q _=>∃ l ps qs,vs = [.ref l]∧Lst fq H l ps qs∧qs≠[]∧(∀ q∈qs,Sw.SzQ 5000 q)∧∀ r H',Same H H'→H' r=some (.tup (fq (Sw.minL qs)))→Q (.ref r) H'
theorem d_least (T:Txt K mg c_Tide c_Wheel):Def P w K mg base (CXX P w) 3 "least" ["some"] spLeast:=by
  have D_lesser:=d_lesser (P:=P) (w:=w) (base:=base) T
  refine T.src_least.okN (k:=2) sc_least (fun vs H Q E h=>?_) (fun f cdv A outer s H vs Q E hr h=>?_)
  · obtain ⟨l,ps,qs,rfl,_⟩:=h
    rfl
  · obtain ⟨l,ps,qs,rfl,L,ne,sz,k⟩:=h
    refine ⟨_,(pss_cons (ps_set (i:=1) sc_least.nd rfl (by first|left;rfl|right;rfl) (pe_ix (ix_listK K rfl) (pv 0) pe_int (fun _ _=>rfl))) (pss_cons (ps_for PassesOwn.never rfl (pi_listK K rfl (pv 0)) (pg_name (i:=2) sc_least.nd rfl (by first|left;rfl|right;rfl)) (pss_one (ps_set (i:=1) sc_least.nd rfl (by first|left;rfl|right;rfl) (pe_callX D_lesser (hr.mono (by decide)) rfl passN (pa_cons (pv 1) (pa_cons (pv 2) pa_nil)))))) (pss_one (ps_ret (pv 1))))),?_⟩
    show tSeq _ _ _ [some (.ref l),none,none] H
    cases qs with
    | nil=>exact absurd rfl ne
    | cons q0 qr =>
      cases ps with
      | nil=>cases L.r
      | cons p0 pr =>
        have h0:H p0=some (.tup (fq q0)):=by
          cases L.r with
          | cons a b=>exact a
        refine seq_step fun R hR=>?_
        walk_at "rd"
        refine ixL_at (.of L.hl) (v:=.ref p0) (atI_nat (xs:=(p0 :: pr).map V.ref) (j:=0) rfl) (hR _ _ ?_)
        refine seq_step fun R hR=>?_
        refine for_step fun Z hZ=>?_
        walk_at "rd"
        refine ⟨⟨_,.of L.hl⟩,hZ _ _ ?_⟩
        refine for_list (K:=K) (a:=l) (xs:=(p0 :: pr).map V.ref) (fun i σ H'=>Same H H'∧∃ x c v,σ = [some (.ref l),some (.ref x),v]∧H' x=some (.tup (fq c))∧c=((q0 :: qr).take i).foldl min q0∧Sw.SzQ 5000 c) ⟨Same.refl _,p0,q0,none,rfl,h0,rfl,sz q0 (by simp)⟩ (fun i σ H' _ q=>.of (q.1 _ _ L.hl)) ?_ ?_
        · rintro i v σ H1 hv ⟨sm,x,c,v2,rfl,hx,hc,zc⟩
          obtain ⟨p,hp,rfl⟩:∃ p,(p0 :: pr)[i]? = some p∧V.ref p=v:=by
            rw [List.getElem?_map] at hv
            cases e:(p0 :: pr)[i]? with
            | none=>rw [e] at hv; cases hv
            | some z=>rw [e] at hv; exact ⟨z,rfl,Option.some.inj hv⟩
          obtain ⟨q,hq,hp2⟩:=tupsF_get L.r hp
          have zq:=sz q (List.mem_of_getElem? hq)
          show tAsg _ _ _ [some (.ref l),some (.ref x),some (.ref p)] H1
          refine nx_step fun R' hR'=>?_
          walk_at "rd"
          refine ⟨x,p,c,q,rfl,hx,sm _ _ hp2,zc,zq,fun r hr'=>hR' _ _ ?_⟩
          refine ⟨sm.trans (same_new hr'),r,min c q,_,rfl,upd_same,?_,zc.min zq⟩
          rw [take_succ_of hq,List.foldl_append,← hc]
          rfl
        · rintro σ H1 ⟨sm,x,c,v2,rfl,hx,hc,zc⟩
          refine hR _ _ ?_
          walk_at "rd"
          have ln:=tupsF_len L.r
          rw [List.take_of_length_le (by rw [List.length_map,ln]; exact Nat.le_refl _)] at hc
          rw [hc] at hx
          exact k x H1 sm hx
def spHeads:Sp:=fun vs H Q _=>∃ l ps us pm m,vs = [.ref l,.ref pm]∧H l=some (.lst (ps.map V.ref))∧TagsAt H ps us∧H pm=some (.tup (fq m))∧Sw.SzQ 5000 m∧(∀ u∈us,Sw.SzQ 5000 u.1∧Sw.SzQ 5000 u.2.1)∧us.length≤200 ∧
  ∀ r rs H',Same H H'→H' r=some (.lst (rs.map V.ref))→TagsAt H' rs (Sw.hds us m)→Q (.ref r) H'
theorem d_heads_of (T:Txt K mg c_Tide c_Wheel):Def P w K mg base (CXX P w) 2 "heads_of" ["tagged", "mark"] spHeads:=by
  have D_under:=d_under (P:=P) (w:=w) (base:=base) T
  refine T.src_heads_of.okN (k:=1) sc_heads_of (fun vs H Q E h=>?_) (fun f cdv A outer s H vs Q E hr h=>?_)
  · obtain ⟨l,ps,us,pm,m,rfl,_⟩:=h
    rfl
  · obtain ⟨l,ps,us,pm,m,rfl,hl,tg,hm,zm,zu,lu,k⟩:=h
    refine ⟨_,(pss_one (ps_ret (pe_lc ["one"] [("mark", 1)] rfl (by with_unfolding_all rfl) (by decide +kernel) rfl (by decide +kernel) (by exact ⟨rfl,True.intro⟩) (by with_unfolding_all rfl) ⟨⟨rfl,rfl,rfl⟩,True.intro⟩ (pi_listK K rfl (pv 0)) (fun _ _ _=>(pg_name (i:=0) (show (["one", "mark"]:List Str).Nodup from by decide +kernel) rfl (by first|left;rfl|right;rfl))) (fun _ _ _=>(pifs_one (PW.pt (pw_and (pt_not (pt_val (pe_callX D_under (hr.mono (by decide)) rfl passN (pa_cons (pv 1) (pa_cons (pe_ix (ix_tupK K rfl) (pv 0) pe_int (fun _ _=>rfl)) pa_nil))))) (pw_and1 (pt_val (pe_callX D_under (hr.mono (by decide)) rfl passN (pa_cons (pv 1) (pa_cons (pe_ix (ix_tupK K rfl) (pv 0) pe_int (fun _ _=>rfl)) pa_nil))))))))) (fun _ _ _=>(pv 0))))),?_⟩
    show tRet _ _ [some (.ref l),some (.ref pm)] H
    have len:=tags_len tg
    walk_at "rd"
    refine ⟨⟨_,.of hl⟩,fun D hD=>?_⟩
    have lD:l≠D:=ne_of_none hl hD
    show CompG _ _ _ _ D [none,some (.ref pm)] _ _
    refine comp_walk (xs:=ps.map V.ref) (fun i τ H'=>Same H H'∧∃ v rs,τ = [v,some (.ref pm)]∧H' D=some (.lst (rs.map V.ref))∧TagsAt H' rs (Sw.hds (us.take i) m)∧rs.length≤i) ⟨same_new hD,none,[],rfl,upd_same,.nil,Nat.le_refl _⟩ (fun i τ H' _ q=>.of (q.1 _ _ hl)) ?_ ?_
    · rintro i x τ H1 hx ⟨sm,v,rs,rfl,hrs,tr,lr⟩
      obtain ⟨p,hp,rfl⟩:∃ p,ps[i]? = some p∧V.ref p=x:=by
        rw [List.getElem?_map] at hx
        cases e:ps[i]? with
        | none=>rw [e] at hx; cases hx
        | some z=>rw [e] at hx; exact ⟨z,rfl,Option.some.inj hx⟩
      have hi:i<ps.length:=(List.getElem?_eq_some_iff.mp hp).1
      obtain ⟨u,hu,tu⟩:=paired_get tg hp
      obtain ⟨zb,ze⟩:=zu u (List.mem_of_getElem? hu)
      have tu1:=tu.keep fun _ _ q=>sm _ _ q
      obtain ⟨pb,pe,h1,h2,h3⟩:=id tu1
      have hm1:=sm _ _ hm
      have et:Sw.hds (us.take (i+1)) m=Sw.hds (us.take i) m++(if Sw.isHd m u=true then [u] else []):=by
        rw [take_succ_of hu]
        unfold Sw.hds
        rw [List.filter_append]
        congr 1
        rw [List.filter_cons]
        rfl
      have kt:∀ b xs,H1 b=some (.tup xs)→upd H1 D (.lst (rs.map V.ref++[.ref p])) b=some (.tup xs):=fun b xs e=>by
        rw [upd_ne (ne_of e hrs (by intro z; cases z))]; exact e
      walk_at "rd"
      refine ixT_at (.of h1) rfl ⟨pm,pb,m,u.1,rfl,hm1,h2,zm,zb,?_⟩
      walk_at "rd"
      have no:Sw.isHd m u=false→Same H H1∧∃ x,H1 D=some (HO.lst (List.map V.ref x))∧TagsAt H1 x (Sw.hds (List.take (i+1) us) m)∧x.length≤i+1:=fun e=>by
        refine ⟨sm,rs,hrs,?_,by omega⟩
        rw [et,e,if_neg (by decide),List.append_nil]
        exact tr
      refine ite2 (fun h=>no (by unfold Sw.isHd; rw [decide_eq_true h]; rfl)) fun h=>ixT_at (.of h1) rfl ⟨pm,pe,m,u.2.1,rfl,hm1,h3,zm,ze,_,rfl,?_⟩
      refine ite2 (fun h4=>?_) fun h4=>no (by unfold Sw.isHd; rw [show decide (m<u.2.1)=false from eq_false_of_ne_true h4,Bool.and_false])
      refine ⟨_,hrs,line_lt (by rw [List.length_map]; omega),fun b o e=>?_,rs++[p],by rw [upd_same]; simp,?_,by simp; omega⟩
      · rw [upd_ne (ne_of_none e hD)]; exact sm _ _ e
      · rw [et,if_pos (by unfold Sw.isHd; rw [decide_eq_false h,h4]; rfl)]
        exact paired_snoc (tu1.keep kt) (tags_keep tr kt)
    · rintro τ H1 ⟨sm,v,rs,rfl,hrs,tr,lr⟩
      rw [List.take_of_length_le (by rw [List.length_map,len]; exact Nat.le_refl _)] at tr
      exact k D rs H1 sm hrs tr
def spMark (C:Addr):Sp:=fun vs H Q _=>∃ p t lat re us D B,vs = [.ref p,.int t]∧TdM C H p lat re us∧TideOk D B lat re us∧lat≤t∧t<1000000000000000 ∧
  ∀ q H',Same H H'→H' q=some (.tup (fq (Sw.markAt us lat re t)))→Q (.ref q) H'
theorem m_Tide_mark (T:Txt K mg c_Tide c_Wheel):MethD P w K mg base (CXX P w) 4 c_Tide "mark" ["self", "at"] [[]] (spMark c_Tide):=by
  have D_plus:=d_plus (P:=P) (w:=w) (base:=base) T
  have D_minus:=d_minus (P:=P) (w:=w) (base:=base) T
  have D_times:=d_times (P:=P) (w:=w) (base:=base) T
  have D_over:=d_over (P:=P) (w:=w) (base:=base) T
  have D_under:=d_under (P:=P) (w:=w) (base:=base) T
  have D_least:=d_least (P:=P) (w:=w) (base:=base) T
  have D_heads_of:=d_heads_of (P:=P) (w:=w) (base:=base) T
  refine T.me_Tide_mark.okN (k:=3) sc_Tide_mark (fun vs H Q E h=>?_) (fun f cdv A outer s H vs Q E hr h=>?_)
  · obtain ⟨p,t,lat,re,us,D,B,rfl,_⟩:=h
    rfl
  · obtain ⟨p,t,lat,re,us,D,B,rfl,td,ok,hlt,t1,k⟩:=h
    refine ⟨_,(pss_cons (ps_set (i:=2) sc_Tide_mark.nd rfl (by first|left;rfl|right;rfl) (pe_tup (pa_cons (pe_fld (pv 0) rfl) (pa_cons pe_int pa_nil)))) (pss_cons (ps_set (i:=3) sc_Tide_mark.nd rfl (by first|left;rfl|right;rfl) (pe_fld (pv 0) rfl)) (pss_cons (ps_set (i:=4) sc_Tide_mark.nd rfl (by first|left;rfl|right;rfl) (pe_callX D_heads_of (hr.mono (by decide)) rfl passN (pa_cons (pe_fld (pv 0) rfl) (pa_cons (pv 3) pa_nil)))) (pss_cons (ps_while PassesOwn.never (pt_truthK K rfl (pv 4)) (pss_cons (ps_set (i:=5) sc_Tide_mark.nd rfl (by first|left;rfl|right;rfl) (pe_tup (pa_cons (pe_callB (call_sumK K rfl rfl) rfl T.no_sum boot_sum (pa_cons (pe_lc ["begin", "end", "share"] [] rfl (by with_unfolding_all rfl) (by decide +kernel) rfl (by decide +kernel) (by exact True.intro) (by with_unfolding_all rfl) True.intro (pi_listK K rfl (pv 4)) (fun _ _ _=>(pg_tupK (n:=3) K rfl rfl (pgs_cons (pg_name (i:=0) (show (["begin", "end", "share"]:List Str).Nodup from by decide +kernel) rfl (by first|left;rfl|right;rfl)) (pgs_cons (pg_name (i:=1) (show (["begin", "end", "share"]:List Str).Nodup from by decide +kernel) rfl (by first|left;rfl|right;rfl)) (pgs_cons (pg_name (i:=2) (show (["begin", "end", "share"]:List Str).Nodup from by decide +kernel) rfl (by first|left;rfl|right;rfl)) pgs_nil))))) (fun _ _ _=>pifs_nil) (fun _ _ _=>(pv 2))) pa_nil)) (pa_cons pe_int pa_nil)))) (pss_cons (ps_set (i:=6) sc_Tide_mark.nd rfl (by first|left;rfl|right;rfl) (pe_callX D_least (hr.mono (by decide)) rfl passN (pa_cons (pe_lc ["begin", "end", "share"] [] rfl (by with_unfolding_all rfl) (by decide +kernel) rfl (by decide +kernel) (by exact True.intro) (by with_unfolding_all rfl) True.intro (pi_listK K rfl (pv 4)) (fun _ _ _=>(pg_tupK (n:=3) K rfl rfl (pgs_cons (pg_name (i:=0) (show (["begin", "end", "share"]:List Str).Nodup from by decide +kernel) rfl (by first|left;rfl|right;rfl)) (pgs_cons (pg_name (i:=1) (show (["begin", "end", "share"]:List Str).Nodup from by decide +kernel) rfl (by first|left;rfl|right;rfl)) (pgs_cons (pg_name (i:=2) (show (["begin", "end", "share"]:List Str).Nodup from by decide +kernel) rfl (by first|left;rfl|right;rfl)) pgs_nil))))) (fun _ _ _=>pifs_nil) (fun _ _ _=>(pv 1))) pa_nil))) (pss_cons (ps_set (i:=7) sc_Tide_mark.nd rfl (by first|left;rfl|right;rfl) (pe_callX D_plus (hr.mono (by decide)) rfl passN (pa_cons (pv 2) (pa_cons (pe_callX D_times (hr.mono (by decide)) rfl passN (pa_cons (pe_callX D_minus (hr.mono (by decide)) rfl passN (pa_cons (pv 6) (pa_cons (pv 3) pa_nil))) (pa_cons (pv 5) pa_nil))) pa_nil)))) (pss_cons (ps_if (pt_val (pe_callX D_under (hr.mono (by decide)) rfl passN (pa_cons (pe_tup (pa_cons (pv 1) (pa_cons pe_int pa_nil))) (pa_cons (pv 7) pa_nil)))) (pss_one (ps_ret (pe_callX D_plus (hr.mono (by decide)) rfl passN (pa_cons (pv 3) (pa_cons (pe_callX D_over (hr.mono (by decide)) rfl passN (pa_cons (pe_callX D_minus (hr.mono (by decide)) rfl passN (pa_cons (pe_tup (pa_cons (pv 1) (pa_cons pe_int pa_nil))) (pa_cons (pv 2) pa_nil))) (pa_cons (pv 5) pa_nil))) pa_nil))))) pss_nil) (pss_cons (ps_set (i:=2) sc_Tide_mark.nd rfl (by first|left;rfl|right;rfl) (pv 7)) (pss_cons (ps_set (i:=3) sc_Tide_mark.nd rfl (by first|left;rfl|right;rfl) (pv 6)) (pss_one (ps_set (i:=4) sc_Tide_mark.nd rfl (by first|left;rfl|right;rfl) (pe_callX D_heads_of (hr.mono (by decide)) rfl passN (pa_cons (pe_fld (pv 0) rfl) (pa_cons (pv 3) pa_nil)))))))))))) (pss_one (ps_ret (pe_tup (pa_cons (pe_ix (ix_tupK K rfl) (pv 3) pe_int (fun _ _=>rfl)) (pa_cons (pe_ix (ix_tupK K rfl) (pv 3) pe_int (fun _ _=>rfl)) pa_nil))))))))),?_⟩
    show tSeq _ _ _ [some (.ref p),some (.int t),none,none,none,none,none,none] H
    obtain ⟨dx,fs,pr,pu,pe,ps,hp,ft,hr',hu,tg⟩:=id td.ex
    refine seq_step fun R hR=>?_
    walk_at "rd"
    refine fldR_at hp T.cl_Tide T.na_Tide_latest ft.lat ?_
    walk_at "rd"
    intro x1 f1
    have s1:=same_new (o:=.tup [.int lat,.int 1]) f1
    have h1:=at_int (H:=H) (p:=x1) (n:=lat)
    have hp:=s1 _ _ hp
    have hr':=s1 _ _ hr'
    have hu:=s1 _ _ hu
    have tg:=tags_same tg s1
    generalize upd H x1 (.tup [.int lat,.int 1])=H1 at s1 h1 hp hr' hu tg ⊢
    refine hR _ _ ?_
    refine seq_step fun R hR=>?_
    walk_at "rd"
    refine fldR_at hp T.cl_Tide T.na_Tide_reached ft.rch (hR _ _ ?_)
    refine seq_step fun R hR=>?_
    walk_at "rd"
    refine fldR_at hp T.cl_Tide T.na_Tide_unflowed ft.unf ?_
    have zus:∀ u∈us,Sw.SzQ 5000 u.1∧Sw.SzQ 5000 u.2.1:=fun u h=>ok.zu u h
    refine ⟨pu,ps,us,pr,re,rfl,hu,tg,hr',ok.zr.mono (by decide),zus,by have:=ok.len; omega,fun hd rs H2 s2 hh th=>hR _ _ ?_⟩
    refine seq_step fun R hR=>?_
    refine while_m (fun m σ H'=>Same H H'∧∃ mo rq n x y z rs v5 v6 v7,σ = [some (.ref p),some (.int t),some (.ref x),some (.ref y),some (.ref z),v5,v6,v7]∧H' x=some (.tup (fq mo))∧H' y=some (.tup (fq rq))∧H' z=some (.lst (rs.map V.ref))∧TagsAt H' rs (Sw.hds us rq) ∧
      H' p=some (.ins c_Tide dx fs)∧H' pu=some (.lst (ps.map V.ref))∧TagsAt H' ps us∧Sw.Grd D mo∧0≤mo∧mo≤(t:Rat)∧Sw.Grd D rq∧0≤rq∧rq≤(B:Rat) ∧
      Sw.markAt us lat re t=Sw.markF us (t:Rat) (n+1) mo rq∧Sw.ahead us rq≤n∧m=Sw.ahead us rq) (m0:=Sw.ahead us re)
      ⟨s1.trans s2,lat,re,us.length,x1,pr,hd,rs,none,none,none,rfl,s2 _ _ h1,s2 _ _ hr',hh,th,s2 _ _ hp,s2 _ _ hu,tags_same tg s2,Sw.Grd.int (by have:=ok.gb.D0; omega) lat,ok.lat0,Rat.intCast_le_intCast.mpr hlt,ok.gre,ok.re0,ok.reB,rfl,Sw.ahead_le _ _,rfl⟩ ?_
    rintro m σ H3 ⟨sm,mo,rq,n,x,y,z,rs,v5,v6,v7,rfl,hx,hy,hz,th,hp,hu,tg,gm,m0,m1,gr,r0,r1,em,an,rfl⟩
    refine ⟨!(rs.map V.ref).isEmpty,fun Q hQ=>⟨_,rfl,_,truL (.of hz),hQ⟩,fun hb=>?_,fun hb=>?_⟩
    · have hne:Sw.hds us rq≠[]:=by
        intro z
        rw [z] at th
        cases th
        exact absurd hb (by decide)
      have gt:=Sw.fstE_gt hne
      have lth:=tags_len th
      have lhd:(Sw.hds us rq).length≤100:=Nat.le_trans (List.length_filter_le _ _) ok.len
      have hok:∀ u∈Sw.hds us rq,TagOk D B u:=fun u h=>ok.tus u (Sw.hds_mem h).1
      refine seq_step fun R' hR'=>?_
      walk_at "rd"
      refine ⟨⟨_,.of hz⟩,fun Dl hDl=>?_⟩
      show CompG _ _ _ _ Dl [none,none,none] _ _
      refine comp_walk (xs:=rs.map V.ref) (fun i τ H'=>Same H3 H'∧∃ w1 w2 w3,τ = [w1,w2,w3]∧H' Dl=some (.lst ((((Sw.hds us rq).take i).map fun u=>u.2.2).map V.int))) ⟨same_new hDl,none,none,none,rfl,upd_same⟩ (fun i τ H' _ q=>.of (q.1 _ _ hz)) ?_ ?_
      · rintro i w τ H4 hw ⟨sm4,w1,w2,w3,rfl,hl4⟩
        obtain ⟨pp,hpp,rfl⟩:∃ p,rs[i]? = some p∧V.ref p=w:=by
          rw [List.getElem?_map] at hw
          cases e:rs[i]? with
          | none=>rw [e] at hw; cases hw
          | some z=>rw [e] at hw; exact ⟨z,rfl,Option.some.inj hw⟩
        have hi:i<rs.length:=(List.getElem?_eq_some_iff.mp hpp).1
        obtain ⟨u,hu',tu⟩:=paired_get th hpp
        obtain ⟨pb,pe',g1,g2,g3⟩:=tu.keep fun _ _ q=>sm4 _ _ q
        walk_at "rd"
        refine ⟨_,.of g1,rfl,_,_,rfl,_,_,rfl,_,_,rfl,rfl,?_⟩
        unfold tYes
        walk_at "rd"
        refine ⟨_,hl4,line_lt (by simp; omega),fun b o e=>?_,?_⟩
        · rw [upd_ne (ne_of_none e hDl)]; exact sm4 _ _ e
        · rw [upd_same,take_succ_of hu',List.map_append,List.map_append]
          rfl
      · rintro τ H4 ⟨sm4,w1,w2,w3,rfl,hl4⟩
        rw [List.take_of_length_le (by rw [List.length_map,lth]; exact Nat.le_refl _)] at hl4
        refine ⟨Dl,_,rfl,.of hl4,?_⟩
        walk_at "rd"
        intro q5 f5
        have eS:((Sw.hds us rq).map fun u=>u.2.2).sum=Sw.sumS (Sw.hds us rq):=rfl
        rw [eS]
        have hS:=sumS_ok hok hne
        have hS2:Sw.sumS (Sw.hds us rq)≤100000000:=by have:=hS.2; omega
        generalize hSv:Sw.sumS (Sw.hds us rq)=S at hS hS2
        have sm5:=sm4.trans (same_new (o:=.tup [.int S,.int 1]) f5)
        have h5:=at_int (H:=H4) (p:=q5) (n:=S)
        generalize upd H4 q5 (.tup [.int S,.int 1])=H5 at sm5 h5 ⊢
        clear hl4 sm4 hDl f5 eS
        refine hR' _ _ ?_
        have hz:=sm5 _ _ hz
        have th:=tags_same th sm5
        have hx:=sm5 _ _ hx
        have hy:=sm5 _ _ hy
        have hp:=sm5 _ _ hp
        have hu:=sm5 _ _ hu
        have tg:=tags_same tg sm5
        have sm:=sm.trans sm5
        clear sm5
        refine seq_step fun R' hR'=>?_
        walk_at "rd"
        refine ⟨⟨_,.of hz⟩,fun Dl hDl=>?_⟩
        show CompG _ _ _ _ Dl [none,none,none] _ _
        refine comp_walk (xs:=rs.map V.ref) (fun i τ H'=>Same H5 H'∧∃ w1 w2 w3 es,τ = [w1,w2,w3]∧Lst fq H' Dl es (((Sw.hds us rq).take i).map fun u=>u.2.1)∧es.length≤i) ⟨same_new hDl,none,none,none,[],rfl,⟨upd_same,.nil⟩,Nat.le_refl _⟩ (fun i τ H' _ q=>.of (q.1 _ _ hz)) ?_ ?_
        · rintro i w τ H6 hw ⟨sm4,w1,w2,w3,es,rfl,L6,le6⟩
          obtain ⟨pp,hpp,rfl⟩:∃ p,rs[i]? = some p∧V.ref p=w:=by
            rw [List.getElem?_map] at hw
            cases e:rs[i]? with
            | none=>rw [e] at hw; cases hw
            | some z=>rw [e] at hw; exact ⟨z,rfl,Option.some.inj hw⟩
          have hi:i<rs.length:=(List.getElem?_eq_some_iff.mp hpp).1
          obtain ⟨u,hu',tu⟩:=paired_get th hpp
          obtain ⟨pb,pe',g1,g2,g3⟩:=tu.keep fun _ _ q=>sm4 _ _ q
          have kt:∀ b xs,H6 b=some (.tup xs)→upd H6 Dl (.lst (es.map V.ref++[.ref pe'])) b=some (.tup xs):=fun b xs e=>by
            rw [upd_ne (ne_of e L6.hl (by intro z; cases z))]; exact e
          walk_at "rd"
          refine ⟨_,.of g1,rfl,_,_,rfl,_,_,rfl,_,_,rfl,rfl,?_⟩
          unfold tYes
          walk_at "rd"
          refine ⟨_,L6.hl,line_lt (by simp; omega),fun b o e=>?_,es++[pe'],⟨by rw [upd_same]; simp,?_⟩,by simp; omega⟩
          · rw [upd_ne (ne_of_none e hDl)]; exact sm4 _ _ e
          · rw [take_succ_of hu',List.map_append]
            exact tupsF_snoc (kt _ _ g3) (tupsF_keep L6.r kt)
        · rintro τ H6 ⟨sm4,w1,w2,w3,es,rfl,L6,le6⟩
          rw [List.take_of_length_le (by rw [List.length_map,lth]; exact Nat.le_refl _)] at L6
          refine ⟨Dl,es,_,rfl,L6,by simpa using hne,fun q hq=>?_,fun fe H7 sm7 hfe=>hR' _ _ ?_⟩
          · obtain ⟨u,hu',rfl⟩:=List.mem_map.mp hq
            exact (ok.zu u (Sw.hds_mem hu').1).2
          have eF:Sw.minL ((Sw.hds us rq).map fun u=>u.2.1)=Sw.fstE (Sw.hds us rq):=rfl
          rw [eF] at hfe
          obtain ⟨uf,huf,ef⟩:=Sw.fstE_mem hne
          have tf:=hok uf huf
          have gf:Sw.Grd D (Sw.fstE (Sw.hds us rq)):=by rw [ef]; exact tf.e
          have fB:Sw.fstE (Sw.hds us rq)≤(B:Rat):=by rw [ef]; exact tf.eB
          have an2:=Sw.ahead_lt hne
          have em2:Sw.markF us (t:Rat) (n+1) mo rq=(if (t:Rat)<mo+(Sw.fstE (Sw.hds us rq)-rq)*(S:Rat) then rq+((t:Rat)-mo) / (S:Rat) else Sw.markF us (t:Rat) n (mo+(Sw.fstE (Sw.hds us rq)-rq)*(S:Rat)) (Sw.fstE (Sw.hds us rq))):=by
            show (if Sw.hds us rq = [] then _ else _) = _
            rw [if_neg hne,hSv]
          rw [em2] at em
          generalize Sw.fstE (Sw.hds us rq)=fv at hfe gf fB gt an2 em
          have sm5:=sm4.trans sm7
          have hx:=sm5 _ _ hx
          have hy:=sm5 _ _ hy
          have hp:=sm5 _ _ hp
          have hu:=sm5 _ _ hu
          have tg:=tags_same tg sm5
          have h5:=sm5 _ _ h5
          have sm:=sm.trans sm5
          clear sm5 sm4 sm7 L6 hDl hz
          have gb:=ok.gb
          have B0:=gb.B0
          have B1:=gb.B1
          have Bq:(0:Rat)≤(B:Rat):=by grind
          have S0:(0:Rat)≤(S:Rat):=by
            have:((0:Int):Rat)≤(S:Rat):=Rat.intCast_le_intCast.mpr (by omega)
            exact this
          have d0:0≤fv-rq:=by grind
          have d1:fv-rq≤(B:Rat):=by grind
          have gd:=gf.sub gr
          have pd0:0≤(fv-rq)*(S:Rat):=Rat.mul_nonneg d0 S0
          have pd1:(fv-rq)*(S:Rat)≤((B*S:Int):Rat):=by
            rw [Rat.intCast_mul]; exact Rat.mul_le_mul_of_nonneg_right d1 S0
          have BS:B*S≤10000000000*100000000:=Int.mul_le_mul B1 hS2 (by omega) (by decide)
          have BS0:0≤B*S:=Int.mul_nonneg B0 (by omega)
          have gp:=gd.muli S
          have ga:=gm.add gp
          have tq:(t:Rat)≤((1000000000000000:Int):Rat):=Rat.intCast_le_intCast.mpr (by omega)
          have zd:Sw.SzQ 1570 (fv-rq):=gb.szB gd d0 d1
          have zp:Sw.SzQ 1570 ((fv-rq)*(S:Rat)):=gb.sz (M:=B*S) gp (by rw [Rat.intCast_mul] at pd1; grind) pd1 (by omega) (by omega)
          have a0:0≤mo+(fv-rq)*(S:Rat):=by grind
          have a1:mo+(fv-rq)*(S:Rat)≤((1000000000000000+B*S:Int):Rat):=by rw [Rat.intCast_add]; grind
          have za:Sw.SzQ 1570 (mo+(fv-rq)*(S:Rat)):=gb.sz (M:=1000000000000000+B*S) ga (by have:=Rat.neg_le_neg a1; grind) a1 (by omega) (by omega)
          have zS:Sw.SzQ 70 (S:Rat):=.int (Sw.Sz.r18 (by omega) (by omega))
          have zm:Sw.SzQ 1570 mo:=gb.sz (M:=1000000000000000) gm (by grind) (by grind) (by decide) (by decide)
          have zrq:Sw.SzQ 1570 rq:=gb.szB gr r0 r1
          have zf:Sw.SzQ 1570 fv:=gb.szB gf (by grind) fB
          refine seq_step fun R' hR'=>?_
          walk_at "rd"
          refine ⟨fe,y,fv,rq,1570,rfl,hfe,hy,by decide,zf,zrq,fun q1 f1=>?_⟩
          have n1:=same_new (o:=.tup (fq (fv-rq))) f1
          refine ⟨q1,q5,fv-rq,(S:Rat),1570,rfl,upd_same,n1 _ _ h5,by decide,zd,zS.mono (by decide),fun q2 f2'=>?_⟩
          have n2:=same_new (o:=.tup (fq ((fv-rq)*(S:Rat)))) f2'
          refine ⟨x,q2,mo,(fv-rq)*(S:Rat),1570,rfl,n2 _ _ (n1 _ _ hx),upd_same,by decide,zm,zp,fun q3 f3=>hR' _ _ ?_⟩
          have n3:=same_new (o:=.tup (fq (mo+(fv-rq)*(S:Rat)))) f3
          have nn:=(n1.trans n2).trans n3
          have haf:upd (upd (upd H7 q1 (.tup (fq (fv-rq)))) q2 (.tup (fq ((fv-rq)*(S:Rat))))) q3 (.tup (fq (mo+(fv-rq)*(S:Rat)))) q3=some (.tup (fq (mo+(fv-rq)*(S:Rat)))):=upd_same
          generalize upd (upd (upd H7 q1 (.tup (fq (fv-rq)))) q2 (.tup (fq ((fv-rq)*(S:Rat))))) q3 (.tup (fq (mo+(fv-rq)*(S:Rat))))=H8 at nn haf ⊢
          have hx:=nn _ _ hx
          have hy:=nn _ _ hy
          have hp:=nn _ _ hp
          have hu:=nn _ _ hu
          have tg:=tags_same tg nn
          have h5:=nn _ _ h5
          have hfe:=nn _ _ hfe
          have sm:=sm.trans nn
          clear nn n1 n2 n3 f1 f2' f3
          refine seq_step fun R' hR'=>?_
          walk_at "rd"
          intro q4 f4
          have n4:=same_new (o:=.tup [.int t,.int 1]) f4
          have zt:Sw.SzQ 70 (t:Rat):=.int (Sw.Sz.r18 (by have:=ok.l0; omega) (by omega))
          refine ⟨q4,q3,t,mo+(fv-rq)*(S:Rat),rfl,at_int,n4 _ _ haf,zt.mono (by decide),za.mono (by decide),?_⟩
          have sm:=sm.trans n4
          have hx:=n4 _ _ hx
          have hy:=n4 _ _ hy
          have hp:=n4 _ _ hp
          have hu:=n4 _ _ hu
          have tg:=tags_same tg n4
          have h5:=n4 _ _ h5
          have hfe:=n4 _ _ hfe
          have haf:=n4 _ _ haf
          generalize upd H8 q4 (.tup [.int t,.int 1])=H9 at sm hx hy hp hu tg h5 hfe haf ⊢
          clear n4 f4
          walk_at "rd"
          refine ite2 (fun hlt2=>?_) fun hlt2=>hR' _ _ ?_
          · rw [if_pos hlt2] at em
            intro q6 f6
            have n6:=same_new (o:=.tup [.int t,.int 1]) f6
            have td0:0≤(t:Rat)-mo:=by grind
            have zx:Sw.SzQ 1570 ((t:Rat)-mo):=gb.sz (M:=1000000000000000) ((Sw.Grd.int (by have:=gb.D0; omega) t).sub gm) (by grind) (by grind) (by decide) (by decide)
            have Sn:(S:Rat)≠0:=Sw.q_cast_ne (by omega)
            refine ⟨q6,x,t,mo,1570,rfl,at_int,n6 _ _ hx,by decide,zt.mono (by decide),zm,fun q7 f7=>?_⟩
            have n7:=same_new (o:=.tup (fq ((t:Rat)-mo))) f7
            refine ⟨q7,q5,(t:Rat)-mo,S,1570,rfl,upd_same,n7 _ _ (n6 _ _ h5),by decide,zx,zS.mono (by decide),Sn,fun q8 f8=>?_⟩
            have n8:=same_new (o:=.tup (fq (((t:Rat)-mo) / (S:Rat)))) f8
            refine ⟨y,q8,rq,((t:Rat)-mo) / (S:Rat),1640,rfl,n8 _ _ (n7 _ _ (n6 _ _ hy)),upd_same,by decide,zrq.mono (by decide),Sw.SzQ.div (Sw.q_num_ne Sn) zx zS,fun q9 f9=>?_⟩
            refine k q9 _ ((((sm.trans n6).trans n7).trans n8).trans (same_new f9)) ?_
            rw [em,upd_same]
          · rw [if_neg hlt2] at em
            refine seq_step fun R' hR'=>?_
            walk_at "rd"
            refine hR' _ _ ?_
            refine seq_step fun R' hR'=>?_
            walk_at "rd"
            refine hR' _ _ ?_
            refine nx_step fun R' hR'=>?_
            walk_at "rd"
            refine fldR_at hp T.cl_Tide T.na_Tide_unflowed ft.unf ?_
            refine ⟨pu,ps,us,fe,fv,rfl,hu,tg,hfe,zf.mono (by decide),zus,by have:=ok.len; omega,fun hd rs H10 s10 hh th=>hR' _ _ ?_⟩
            have an3:0<n:=by omega
            obtain ⟨n',rfl⟩:∃ n',n=n' + 1:=⟨n-1,by omega⟩
            exact ⟨_,an2,sm.trans s10,mo+(fv-rq)*(S:Rat),fv,n',q3,fe,hd,rs,_,_,_,rfl,s10 _ _ haf,s10 _ _ hfe,hh,th,s10 _ _ hp,s10 _ _ hu,tags_same tg s10,ga,a0,by grind,gf,by grind,fB,em,by omega,rfl⟩
    · refine hR _ _ ?_
      have hn:Sw.hds us rq = []:=by
        have:rs = []:=by simpa using hb
        subst this
        exact List.length_eq_zero_iff.mp (tags_len th).symm
      walk_at "rd"
      refine ixT_at (.of hy) rfl (ixT_at (.of hy) rfl fun q hq=>?_)
      refine k q _ (sm.trans (same_new hq)) ?_
      rw [em]
      unfold Sw.markF
      rw [if_pos hn,upd_same]
      rfl
def spTI (C:Addr):Sp:=fun vs H Q _=>∃ x dx,vs = [.ref x]∧H x=some (.ins C dx [])∧∀ pe H',But x H H'→H pe=none→Td C H' x pe 0 0 [] (fun _=>none) 0→Q .non H'
theorem k_Tide (T:Txt K mg c_Tide c_Wheel):MkD P w K mg base (CXX P w) 3 c_Tide ["self"] [[]] (spTI c_Tide):=by
  have D_ratio:=d_ratio (P:=P) (w:=w) (base:=base) T
  refine T.in_Tide.okN (k:=2) sc_Tide_init (fun vs H Q E h=>?_) (fun f cdv A outer s H vs Q E hr h=>?_)
  · obtain ⟨x,dx,rfl,_⟩:=h
    rfl
  · obtain ⟨x,dx,rfl,hx,k⟩:=h
    refine ⟨_,(pss_cons (ps_fld (pv 0) pe_int rfl) (pss_cons (ps_fld (pv 0) (pe_callX D_ratio (hr.mono (by decide)) rfl passN (pa_cons pe_int (pa_cons pe_int pa_nil))) rfl) (pss_cons (ps_fld (pv 0) (pe_lst pa_nil) rfl) (pss_one (ps_fld (pv 0) pe_dnewK rfl))))),?_⟩
    show tSeq _ _ _ [some (.ref x)] H
    have l1:=putF_len' (fs:=[]) (f := "latest") (v:=.int 0)
    simp only [List.length_nil] at l1
    refine seq_step fun R hR=>?_
    walk_at "rd"
    refine set_at hx T.cl_Tide T.na_Tide_latest (by simp) (hR _ _ ?_)
    refine seq_step fun R hR=>?_
    walk_at "rd"
    refine ⟨0,1,1,rfl,by decide,Sw.Sz.one _,fun _ pr hpr=>?_,fun z=>absurd z (by decide)⟩
    have nx:x≠pr:=by
      intro z
      rw [z,upd_same] at hpr
      cases hpr
    have npr:H pr=none:=by rw [upd_ne (Ne.symm nx)] at hpr; exact hpr
    have l2:=putF_len' (fs:=putF "latest" (.int 0) []) (f := "reached") (v:=.ref pr)
    walk_at "rd"
    refine set_at (C:=c_Tide) (dx:=dx) (fs:=putF "latest" (.int 0) []) (by rw [upd_ne nx,upd_same]) T.cl_Tide T.na_Tide_reached (by omega) (hR _ _ ?_)
    have e0:((0:Int):Rat) / ((1:Int):Rat) = 0:=by
      have z0:((0:Int):Rat) = 0:=rfl
      rw [z0]; grind
    rw [e0]
    have q1:But x H (upd (upd (upd H x (.ins c_Tide dx (putF "latest" (.int 0) []))) pr (.tup (fq 0))) x (.ins c_Tide dx (putF "reached" (.ref pr) (putF "latest" (.int 0) [])))):=fun b o n e=>by
      rw [upd_ne n,upd_ne (ne_of_none e npr),upd_ne n]; exact e
    have hx1:upd (upd (upd H x (.ins c_Tide dx (putF "latest" (.int 0) []))) pr (.tup (fq 0))) x (.ins c_Tide dx (putF "reached" (.ref pr) (putF "latest" (.int 0) []))) x=some (.ins c_Tide dx (putF "reached" (.ref pr) (putF "latest" (.int 0) []))):=upd_same
    have hr1:upd (upd (upd H x (.ins c_Tide dx (putF "latest" (.int 0) []))) pr (.tup (fq 0))) x (.ins c_Tide dx (putF "reached" (.ref pr) (putF "latest" (.int 0) []))) pr=some (.tup (fq 0)):=by rw [upd_ne (Ne.symm nx),upd_same]
    generalize upd (upd (upd H x (.ins c_Tide dx (putF "latest" (.int 0) []))) pr (.tup (fq 0))) x (.ins c_Tide dx (putF "reached" (.ref pr) (putF "latest" (.int 0) [])))=H1 at q1 hx1 hr1 ⊢
    refine seq_step fun R hR=>?_
    walk_at "rd"
    intro pu hpu
    have s1:=same_new (o:=.lst []) hpu
    have l3:=putF_len' (fs:=putF "reached" (.ref pr) (putF "latest" (.int 0) [])) (f := "unflowed") (v:=.ref pu)
    have nxu:x≠pu:=ne_of_none hx1 hpu
    refine set_at (s1 _ _ hx1) T.cl_Tide T.na_Tide_unflowed (by omega) (hR _ _ ?_)
    have npru:pr≠pu:=ne_of_none hr1 hpu
    have q2:But x H (upd (upd H1 pu (.lst [])) x (.ins c_Tide dx (putF "unflowed" (.ref pu) (putF "reached" (.ref pr) (putF "latest" (.int 0) []))))):=fun b o n e=>by
      rw [upd_ne n]; exact s1 _ _ (q1 b o n e)
    have hx2:upd (upd H1 pu (.lst [])) x (.ins c_Tide dx (putF "unflowed" (.ref pu) (putF "reached" (.ref pr) (putF "latest" (.int 0) [])))) x=some (.ins c_Tide dx (putF "unflowed" (.ref pu) (putF "reached" (.ref pr) (putF "latest" (.int 0) [])))):=upd_same
    have hr2:upd (upd H1 pu (.lst [])) x (.ins c_Tide dx (putF "unflowed" (.ref pu) (putF "reached" (.ref pr) (putF "latest" (.int 0) [])))) pr=some (.tup (fq 0)):=by rw [upd_ne (Ne.symm nx)]; exact s1 _ _ hr1
    have hu2:upd (upd H1 pu (.lst [])) x (.ins c_Tide dx (putF "unflowed" (.ref pu) (putF "reached" (.ref pr) (putF "latest" (.int 0) [])))) pu=some (.lst []):=by rw [upd_ne (Ne.symm nxu),upd_same]
    generalize upd (upd H1 pu (.lst [])) x (.ins c_Tide dx (putF "unflowed" (.ref pu) (putF "reached" (.ref pr) (putF "latest" (.int 0) []))))=H2 at q2 hx2 hr2 hu2 ⊢
    walk_at "rd"
    intro pe hpe
    have s3:=same_new (o:=.dK []) hpe
    have nxe:x≠pe:=ne_of_none hx2 hpe
    have fe:H pe=none:=by
      cases e:H pe with
      | none=>rfl
      | some o=>rw [q2 pe o (Ne.symm nxe) e] at hpe; cases hpe
    refine set_at (s3 _ _ hx2) T.cl_Tide T.na_Tide_last_ends (by omega) ?_
    refine k pe _ (fun b o n e=>?_) fe ⟨dx,_,pr,pu,[],[],upd_same,FT.mk0 pr pu pe,?_,?_,.nil,?_,fun w=>.inl ⟨rfl,rfl⟩,Nat.le_refl _,Nat.le_refl _⟩
    · rw [upd_ne n]; exact s3 _ _ (q2 b o n e)
    · rw [upd_ne (Ne.symm nx)]; exact s3 _ _ hr2
    · rw [upd_ne (Ne.symm nxu)]; exact s3 _ _ hu2
    · rw [upd_ne (Ne.symm nxe),upd_same]
def NoU (C:Addr) (H:Hp) (p l:Addr):Prop:=∀ dx fs pu,H p=some (.ins C dx fs)→fs.lookup ("unflowed" : Str)=some (.ref pu)→pu≠l
theorem NoU.on {C:Addr} {H H':Hp} {p l dx:Addr} {fs:List (Str×V)} (h:NoU C H p l) (e:H p=some (.ins C dx fs)) (e':H' p=some (.ins C dx fs)):NoU C H' p l:=fun dx' fs' pu h1 h2=>by
  rw [e'] at h1
  cases h1
  exact h _ _ _ e h2
theorem Td.list {C:Addr} {H:Hp} {p pe l:Addr} {lat:Int} {re:Rat} {us:List Sw.T3} {en:Int→Option Rat} {m:Nat} {xs ys:List V} (h:Td C H p pe lat re us en m) (n:NoU C H p l) (hl:H l=some (.lst xs)):Td C (upd H l (.lst ys)) p pe lat re us en m:=by
  obtain ⟨dx,fs,pr,pu,ps,kvs,h1,h2,h3,h4,h5,h6,h7,h8⟩:=h.ex
  have kt:∀ b zs,H b=some (.tup zs)→upd H l (.lst ys) b=some (.tup zs):=fun b zs e=>by rw [upd_ne (ne_of e hl (by intro z; cases z))]; exact e
  exact ⟨dx,fs,pr,pu,ps,kvs,by rw [upd_ne (ne_of h1 hl (by intro z; cases z))]; exact h1,h2,kt _ _ h3,by rw [upd_ne (n _ _ _ h1 h2.unf)]; exact h4,tags_keep h5 kt,by rw [upd_ne (ne_of h6 hl (by intro z; cases z))]; exact h6,h7.keep kt,h8⟩
def spCome (C:Addr):Sp:=fun vs H Q _=>∃ p pc t who len sh pe lat re us en m D B,vs = [.ref p,.ref pc]∧H pc=some (.tup [.int t,.int who,.int len,.int sh])∧Td C H p pe lat re us en m∧TideOk D B lat re us∧(∀ w e,en w=some e→Sw.Grd D e∧0≤e∧e≤(B:Rat)) ∧
  lat≤t∧t<1000000000000000∧1≤len∧len≤1000000∧1≤sh∧sh≤1000000∧m≤99 ∧
  ∀ q qb qe H',Kept p pe H H'→Td C H' p pe t (Sw.markAt us lat re t) (Sw.usOn us (Sw.markAt us lat re t) (Sw.begOn en (Sw.markAt us lat re t) who) len sh) (setE en who (Sw.begOn en (Sw.markAt us lat re t) who+(len:Rat) / (sh:Rat))) (m+1) →
    H' q=some (.tup [.ref qb,.ref qe])→H' qb=some (.tup (fq (Sw.begOn en (Sw.markAt us lat re t) who)))→H' qe=some (.tup (fq (Sw.begOn en (Sw.markAt us lat re t) who+(len:Rat) / (sh:Rat))))→(∀ l xs,H l=some (.lst xs)→NoU C H' p l)→Q (.ref q) H'
theorem m_Tide_come (T:Txt K mg c_Tide c_Wheel):MethD P w K mg base (CXX P w) 5 c_Tide "come" ["self", "piece"] [[]] (spCome c_Tide):=by
  have M_Tide_mark:=m_Tide_mark (P:=P) (w:=w) (base:=base) T
  have D_plus:=d_plus (P:=P) (w:=w) (base:=base) T
  have D_under:=d_under (P:=P) (w:=w) (base:=base) T
  have D_greater:=d_greater (P:=P) (w:=w) (base:=base) T
  have D_ratio:=d_ratio (P:=P) (w:=w) (base:=base) T
  refine T.me_Tide_come.okN (k:=4) sc_Tide_come (fun vs H Q E h=>?_) (fun f cdv A outer s H vs Q E hr h=>?_)
  · obtain ⟨p,pc,t,who,len,sh,pe,lat,re,us,en,m,D,B,rfl,_⟩:=h
    rfl
  · obtain ⟨p,pc,t,who,len,sh,pe,lat,re,us,en,m,D,B,rfl,hpc,td,ok,eok,hlt,t1,n1,n2,sh1,sh2,hm,k⟩:=h
    refine ⟨_,(pss_cons (ps_set (i:=2) sc_Tide_come.nd rfl (by first|left;rfl|right;rfl) (pe_methX (dvs:=[]) M_Tide_mark (by simp) T.cl_Tide (hr.mono (by decide)) passN (pv 0) (pa_cons (pe_ix (ix_tupK K rfl) (pv 1) pe_int (fun _ _=>rfl)) pa_nil))) (pss_cons (ps_fld (pv 0) (pe_ix (ix_tupK K rfl) (pv 1) pe_int (fun _ _=>rfl)) rfl) (pss_cons (ps_fld (pv 0) (pv 2) rfl) (pss_cons (ps_fld (pv 0) (pe_lc ["one"] [("reached", 2)] rfl (by with_unfolding_all rfl) (by decide +kernel) rfl (by decide +kernel) (by exact ⟨rfl,True.intro⟩) (by with_unfolding_all rfl) ⟨⟨rfl,rfl,rfl⟩,True.intro⟩ (pi_listK K rfl (pe_fld (pv 0) rfl)) (fun _ _ _=>(pg_name (i:=0) (show (["one", "reached"]:List Str).Nodup from by decide +kernel) rfl (by first|left;rfl|right;rfl))) (fun _ _ _=>(pifs_one (pt_val (pe_callX D_under (hr.mono (by decide)) rfl passN (pa_cons (pv 1) (pa_cons (pe_ix (ix_tupK K rfl) (pv 0) pe_int (fun _ _=>rfl)) pa_nil)))))) (fun _ _ _=>(pv 0))) rfl) (pss_cons (ps_set (i:=3) sc_Tide_come.nd rfl (by first|left;rfl|right;rfl) (pe_callX D_greater (hr.mono (by decide)) rfl passN (pa_cons (pv 2) (pa_cons (pe_dget2 (hu_of hr) (pe_fld (pv 0) rfl) (pe_ix (ix_tupK K rfl) (pv 1) pe_int (fun _ _=>rfl)) (pv 2) ⟨rfl,rfl,rfl,rfl⟩) pa_nil)))) (pss_cons (ps_set (i:=4) sc_Tide_come.nd rfl (by first|left;rfl|right;rfl) (pe_callX D_plus (hr.mono (by decide)) rfl passN (pa_cons (pv 3) (pa_cons (pe_callX D_ratio (hr.mono (by decide)) rfl passN (pa_cons (pe_ix (ix_tupK K rfl) (pv 1) pe_int (fun _ _=>rfl)) (pa_cons (pe_ix (ix_tupK K rfl) (pv 1) pe_int (fun _ _=>rfl)) pa_nil))) pa_nil)))) (pss_cons (ps_expr (pe_bm PySem.F.plainAttrs_list PySem.F.slot_list_append PySem.F.type_list_append mt_append (pe_fld (pv 0) rfl) (pa_cons (pe_tup (pa_cons (pv 3) (pa_cons (pv 4) (pa_cons (pe_ix (ix_tupK K rfl) (pv 1) pe_int (fun _ _=>rfl)) pa_nil)))) pa_nil))) (pss_cons (ps_dput (hu_of hr) (pe_fld (pv 0) rfl) (pe_ix (ix_tupK K rfl) (pv 1) pe_int (fun _ _=>rfl)) (pv 4) rfl) (pss_one (ps_ret (pe_tup (pa_cons (pv 3) (pa_cons (pv 4) pa_nil))))))))))))),?_⟩
    show tSeq _ _ _ [some (.ref p),some (.ref pc),none,none,none] H
    have mk:=Sw.markAt_ok ok hlt
    obtain ⟨dx,fs,pr,pu,ps,kvs,hp,ft,hr',hu,tg,he,ea,lk,lu⟩:=id td.ex
    have hp0:=hp
    have he0:=he
    refine seq_step fun R hR=>?_
    walk_at "rd"
    refine meth_at hp (ft.no _ (by decide +kernel) (by decide +kernel) (by decide +kernel) (by decide +kernel)) ?_
    refine ixT_at (.of hpc) rfl ?_
    walk_at "rd"
    refine ⟨p,t,lat,re,us,D,B,rfl,td.m,ok,hlt,t1,fun y H1 s1 hy=>hR _ _ ?_⟩
    generalize Sw.markAt us lat re t=rv at mk hy k
    obtain ⟨⟨S,S1,S2,gS⟩,m1,m2⟩:=mk
    have hpc:=s1 _ _ hpc
    have hp:=s1 _ _ hp
    have hu:=s1 _ _ hu
    have tg:=tags_same tg s1
    have he:=s1 _ _ he
    have ea:=ea.keep fun _ _ q=>s1 _ _ q
    have kp:Kept p pe H H1:=s1.kept
    clear s1 hr'
    refine seq_step fun R hR=>?_
    walk_at "rd"
    refine ixT_at (.of hpc) rfl (set_at hp T.cl_Tide T.na_Tide_latest (by have:=ft.len; omega) (hR _ _ ?_))
    refine seq_step fun R hR=>?_
    walk_at "rd"
    have ft1:=ft.put_lat (l':=t)
    refine set_at upd_same T.cl_Tide T.na_Tide_reached (by have:=ft1.len; omega) (hR _ _ ?_)
    rw [upd_upd]
    have ft2:=ft1.put_rch (r':=y)
    have nP:∀ b xs,H1 b=some (.tup xs)→upd H1 p (.ins c_Tide dx (putF "reached" (.ref y) (putF "latest" (.int t) fs))) b=some (.tup xs):=fun b xs e=>by
      rw [upd_ne (ne_of e hp (by intro z; cases z))]; exact e
    have hpc:=nP _ _ hpc
    have hy:=nP _ _ hy
    have tg:=tags_keep tg nP
    have ea:=ea.keep nP
    have npu:pu≠p:=ne_of hu hp (by intro z; cases z)
    have npe:pe≠p:=ne_of he hp (by intro z; cases z)
    have hu:upd H1 p (.ins c_Tide dx (putF "reached" (.ref y) (putF "latest" (.int t) fs))) pu=some (.lst (ps.map V.ref)):=by rw [upd_ne npu]; exact hu
    have he:upd H1 p (.ins c_Tide dx (putF "reached" (.ref y) (putF "latest" (.int t) fs))) pe=some (.dK kvs):=by rw [upd_ne npe]; exact he
    have kp:Kept p pe H (upd H1 p (.ins c_Tide dx (putF "reached" (.ref y) (putF "latest" (.int t) fs)))):=fun b o n1 n2 e=>by rw [upd_ne n1]; exact kp b o n1 n2 e
    have hp:upd H1 p (.ins c_Tide dx (putF "reached" (.ref y) (putF "latest" (.int t) fs))) p=some (.ins c_Tide dx (putF "reached" (.ref y) (putF "latest" (.int t) fs))):=upd_same
    generalize upd H1 p (.ins c_Tide dx (putF "reached" (.ref y) (putF "latest" (.int t) fs)))=H2 at hpc hy tg ea hu he kp hp ⊢
    clear nP
    have gb:=ok.gb
    have zrv:Sw.SzQ 1700 rv:=by
      have B1:=gb.B1
      have B0:=gb.B0
      have re0:=ok.re0
      have lu':=ok.len
      exact (gS.sz (M:=B) (a:=1570) (b:=70) (Int.mul_pos gb.D0 (by omega)) (gb.Dz.mul (Sw.Sz.r18 (by omega) (by omega))) (Sw.Sz.r18 (by omega) (by omega)) (by have:(0:Rat)≤(B:Rat):=(by grind); grind) m2 (by decide)).mono (by decide)
    refine seq_step fun R hR=>?_
    walk_at "rd"
    refine fldR_at hp T.cl_Tide T.na_Tide_unflowed ft2.unf ?_
    walk_at "rd"
    refine ⟨⟨_,.of hu⟩,fun Dl hDl=>?_⟩
    show CompG _ _ _ _ Dl [none,some (.ref y)] _ _
    have len':=tags_len tg
    have nD0:∀ b o,H b=some o→b≠p→b≠pe→b≠Dl:=fun b o e n1 n2=>ne_of_none (kp b o n1 n2 e) hDl
    refine comp_walk (xs:=ps.map V.ref) (fun i τ H'=>Same H2 H'∧∃ v rs,τ = [v,some (.ref y)]∧H' Dl=some (.lst (rs.map V.ref))∧TagsAt H' rs ((us.take i).filter fun u=>decide (rv<u.2.1))∧rs.length≤i) ⟨same_new hDl,none,[],rfl,upd_same,.nil,Nat.le_refl _⟩ (fun i τ H' _ q=>.of (q.1 _ _ hu)) ?_ ?_
    · rintro i x τ H3 hx ⟨sm,v,rs,rfl,hrs,tr,lr⟩
      obtain ⟨pp,hpp,rfl⟩:∃ p,ps[i]? = some p∧V.ref p=x:=by
        rw [List.getElem?_map] at hx
        cases e:ps[i]? with
        | none=>rw [e] at hx; cases hx
        | some z=>rw [e] at hx; exact ⟨z,rfl,Option.some.inj hx⟩
      have hi:i<ps.length:=(List.getElem?_eq_some_iff.mp hpp).1
      obtain ⟨u,hu',tu⟩:=paired_get tg hpp
      obtain ⟨zb,ze⟩:=ok.zu u (List.mem_of_getElem? hu')
      have tu1:=tu.keep fun _ _ q=>sm _ _ q
      obtain ⟨pb,pe',h1,h2,h3⟩:=id tu1
      have et:(us.take (i+1)).filter (fun u=>decide (rv<u.2.1))=(us.take i).filter (fun u=>decide (rv<u.2.1))++(if decide (rv<u.2.1)=true then [u] else []):=by
        rw [take_succ_of hu',List.filter_append]
        congr 1
        rw [List.filter_cons]
        rfl
      have kt:∀ b xs,H3 b=some (.tup xs)→upd H3 Dl (.lst (rs.map V.ref++[.ref pp])) b=some (.tup xs):=fun b xs e=>by
        rw [upd_ne (ne_of e hrs (by intro z; cases z))]; exact e
      walk_at "rd"
      refine ixT_at (.of h1) rfl ⟨y,pe',rv,u.2.1,rfl,sm _ _ hy,h3,zrv.mono (by decide),ze,?_⟩
      walk_at "rd"
      refine ite2 (fun h4=>?_) fun h4=>?_
      · refine ⟨_,hrs,line_lt (by rw [List.length_map]; have:=ok.len; omega),fun b o e=>?_,rs++[pp],by rw [upd_same]; simp,?_,by simp; omega⟩
        · rw [upd_ne (ne_of_none e hDl)]; exact sm _ _ e
        · rw [et,if_pos (decide_eq_true h4)]
          exact paired_snoc (tu1.keep kt) (tags_keep tr kt)
      · refine ⟨sm,rs,hrs,?_,by omega⟩
        rw [et,if_neg (by simp [h4]),List.append_nil]
        exact tr
    · rintro τ H3 ⟨sm,v,rs,rfl,hrs,tr,lr⟩
      rw [List.take_of_length_le (by rw [List.length_map,len']; exact Nat.le_refl _)] at tr
      have hp:=sm _ _ hp
      have hpc:=sm _ _ hpc
      have hy:=sm _ _ hy
      have he:=sm _ _ he
      have ea:=ea.keep fun _ _ q=>sm _ _ q
      have kp:=kp.trans sm.kept
      have nDp:Dl≠p:=ne_of hrs hp (by intro z; cases z)
      have nDe:Dl≠pe:=ne_of hrs he (by intro z; cases z)
      clear sm
      refine set_at hp T.cl_Tide T.na_Tide_unflowed (by have:=ft2.len; omega) (hR _ _ ?_)
      have ft3:=ft2.put_unf (u':=Dl)
      have nP:∀ b xs,H3 b=some (.tup xs)→upd H3 p (.ins c_Tide dx (putF "unflowed" (.ref Dl) (putF "reached" (.ref y) (putF "latest" (.int t) fs)))) b=some (.tup xs):=fun b xs e=>by
        rw [upd_ne (ne_of e hp (by intro z; cases z))]; exact e
      have hpc:=nP _ _ hpc
      have hy:=nP _ _ hy
      have tr:=tags_keep tr nP
      have ea:=ea.keep nP
      have hrs:upd H3 p (.ins c_Tide dx (putF "unflowed" (.ref Dl) (putF "reached" (.ref y) (putF "latest" (.int t) fs)))) Dl=some (.lst (rs.map V.ref)):=by rw [upd_ne nDp]; exact hrs
      have he:upd H3 p (.ins c_Tide dx (putF "unflowed" (.ref Dl) (putF "reached" (.ref y) (putF "latest" (.int t) fs)))) pe=some (.dK kvs):=by rw [upd_ne npe]; exact he
      have kp:Kept p pe H (upd H3 p (.ins c_Tide dx (putF "unflowed" (.ref Dl) (putF "reached" (.ref y) (putF "latest" (.int t) fs))))):=fun b o n1 n2 e=>by rw [upd_ne n1]; exact kp b o n1 n2 e
      have hp:upd H3 p (.ins c_Tide dx (putF "unflowed" (.ref Dl) (putF "reached" (.ref y) (putF "latest" (.int t) fs)))) p=some (.ins c_Tide dx (putF "unflowed" (.ref Dl) (putF "reached" (.ref y) (putF "latest" (.int t) fs)))):=upd_same
      generalize upd H3 p (.ins c_Tide dx (putF "unflowed" (.ref Dl) (putF "reached" (.ref y) (putF "latest" (.int t) fs))))=H4 at hpc hy tr ea hrs he kp hp ⊢
      clear nP
      refine seq_step fun R hR=>?_
      walk_at "rd"
      refine fldR_at hp T.cl_Tide T.na_Tide_last_ends ft3.lst ?_
      walk_at "rd"
      refine ⟨.inl ⟨kvs,.inl he⟩,ixT_at (.of hpc) rfl ⟨_,DGet.k (k:=Sum.inl who) he,?_⟩⟩
      have D0:=gb.D0
      have dsn:D*S≠0:=Int.mul_ne_zero (by omega) (by omega)
      have re0:=ok.re0
      obtain ⟨qe0,ev,hqe0,hev,gev,ev0,evB,zev⟩:∃ q e,(valV kvs (Sum.inl who:Key)).getD (.ref y) = .ref q∧H4 q=some (.tup (fq e))∧Sw.Grd (D*S) e∧0≤e∧e≤(B:Rat)∧(en who).getD rv=e:=by
        rcases ea who with ⟨h1,h2⟩ | ⟨e,q,h1,h2,h3⟩
        · rw [h1,h2]
          exact ⟨y,rv,rfl,hy,gS,by grind,m2,rfl⟩
        · rw [h1,h2]
          have eo:=eok who e h1
          exact ⟨q,e,rfl,h3,eo.1.more (by omega) (by omega),eo.2.1,eo.2.2,rfl⟩
      rw [hqe0]
      have zz:∀ q:Rat,Sw.Grd (D*S) q→0≤q→q≤(B:Rat)→Sw.SzQ 1700 q:=fun q g q0 q1=>by
        have B1:=gb.B1
        have B0:=gb.B0
        have lu':=ok.len
        exact (g.sz (M:=B) (a:=1570) (b:=70) (Int.mul_pos gb.D0 (by omega)) (gb.Dz.mul (Sw.Sz.r18 (by omega) (by omega))) (Sw.Sz.r18 (by omega) (by omega)) (by have:(0:Rat)≤(B:Rat):=(by grind); grind) q1 (by decide)).mono (by decide)
      have zev':=zz ev gev ev0 evB
      have eb:Sw.begOn en rv who=max rv ev:=by unfold Sw.begOn; rw [zev]
      rw [eb] at k
      refine ⟨y,qe0,rv,ev,rfl,hy,hev,zrv.mono (by decide),zev'.mono (by decide),fun qb hqb=>hR _ _ ?_⟩
      have zb:Sw.SzQ 1700 (max rv ev):=by
        rw [Rat.max_def]; split
        · exact zev'
        · exact zrv
      generalize max rv ev=bv at zb k hqb ⊢
      have n1':=same_new (o:=.tup (fq bv)) hqb
      have hb:upd H4 qb (.tup (fq bv)) qb=some (.tup (fq bv)):=upd_same
      have hpc:=n1' _ _ hpc
      have hy:=n1' _ _ hy
      have tr:=tags_same tr n1'
      have ea:=ea.keep fun _ _ q=>n1' _ _ q
      have hrs:=n1' _ _ hrs
      have he:=n1' _ _ he
      have hp:=n1' _ _ hp
      have kp:=kp.trans n1'.kept
      generalize upd H4 qb (.tup (fq bv))=H5 at hb hpc hy tr ea hrs he hp kp ⊢
      clear n1' hqb hev hqe0
      refine seq_step fun R hR=>?_
      walk_at "rd"
      refine ixT_at (.of hpc) rfl (ixT_at (.of hpc) rfl ?_)
      have zsh:Sw.Sz 70 sh:=Sw.Sz.r18 (by omega) (by omega)
      have zlen:Sw.Sz 70 len:=Sw.Sz.r18 (by omega) (by omega)
      refine ⟨len,sh,70,rfl,by decide,zsh,fun _ q2 f2'=>?_,fun z=>absurd z (by omega)⟩
      have n2':=same_new (o:=.tup (fq ((len:Rat) / (sh:Rat)))) f2'
      refine ⟨qb,q2,bv,(len:Rat) / (sh:Rat),1700,rfl,n2' _ _ hb,upd_same,by decide,zb,(Sw.SzQ.of (by omega) rfl zlen zsh).mono (by decide),fun qe hqe=>hR _ _ ?_⟩
      have n3':=same_new (o:=.tup (fq (bv+(len:Rat) / (sh:Rat)))) hqe
      have nn:=n2'.trans n3'
      have hE:upd (upd H5 q2 (.tup (fq ((len:Rat) / (sh:Rat))))) qe (.tup (fq (bv+(len:Rat) / (sh:Rat)))) qe=some (.tup (fq (bv+(len:Rat) / (sh:Rat)))):=upd_same
      generalize upd (upd H5 q2 (.tup (fq ((len:Rat) / (sh:Rat))))) qe (.tup (fq (bv+(len:Rat) / (sh:Rat))))=H6 at nn hE ⊢
      have hb:=nn _ _ hb
      have hpc:=nn _ _ hpc
      have hy:=nn _ _ hy
      have tr:=tags_same tr nn
      have ea:=ea.keep fun _ _ q=>nn _ _ q
      have hrs:=nn _ _ hrs
      have he:=nn _ _ he
      have hp:=nn _ _ hp
      have kp:=kp.trans nn.kept
      clear nn n2' n3' f2' hqe
      refine seq_step fun R hR=>?_
      walk_at "rd"
      refine fldR_at hp T.cl_Tide T.na_Tide_unflowed ft3.unf ?_
      refine ⟨.inl ⟨rfl,_,.of hrs⟩,?_⟩
      walk_at "rd"
      refine ixT_at (.of hpc) rfl fun tp htp=>?_
      have n4':=same_new (o:=.tup [.ref qb,.ref qe,.int sh]) htp
      have hT:TagAt (upd H6 tp (.tup [.ref qb,.ref qe,.int sh])) tp (bv,bv+(len:Rat) / (sh:Rat),sh):=⟨qb,qe,upd_same,n4' _ _ hb,n4' _ _ hE⟩
      have hb:=n4' _ _ hb
      have hE:=n4' _ _ hE
      have hpc:=n4' _ _ hpc
      have hy:=n4' _ _ hy
      have tr:=tags_same tr n4'
      have ea:=ea.keep fun _ _ q=>n4' _ _ q
      have hrs:=n4' _ _ hrs
      have he:=n4' _ _ he
      have hp:=n4' _ _ hp
      have kp:=kp.trans n4'.kept
      generalize upd H6 tp (.tup [.ref qb,.ref qe,.int sh])=H7 at hT hb hE hpc hy tr ea hrs he hp kp ⊢
      clear n4' htp
      have lrs:rs.length≤100:=by rw [List.length_map] at lr; have:=ok.len; omega
      refine ⟨Dl,_,_,rfl,rfl,hrs,line_lt (by rw [List.length_map]; omega),hR _ _ ?_⟩
      have nT:∀ b xs,H7 b=some (.tup xs)→upd H7 Dl (.lst (rs.map V.ref++[.ref tp])) b=some (.tup xs):=fun b xs e=>by
        rw [upd_ne (ne_of e hrs (by intro z; cases z))]; exact e
      have hb:=nT _ _ hb
      have hE:=nT _ _ hE
      have hpc:=nT _ _ hpc
      have hy:=nT _ _ hy
      have tr:TagsAt (upd H7 Dl (.lst (rs.map V.ref++[.ref tp]))) (rs++[tp]) (Sw.usOn us rv bv len sh):=paired_snoc (hT.keep nT) (tags_keep tr nT)
      have ea:=ea.keep nT
      have he:upd H7 Dl (.lst (rs.map V.ref++[.ref tp])) pe=some (.dK kvs):=by rw [upd_ne (Ne.symm nDe)]; exact he
      have hp:upd H7 Dl (.lst (rs.map V.ref++[.ref tp])) p=some (.ins c_Tide dx (putF "unflowed" (.ref Dl) (putF "reached" (.ref y) (putF "latest" (.int t) fs)))):=by rw [upd_ne (Ne.symm nDp)]; exact hp
      have kp:Kept p pe H (upd H7 Dl (.lst (rs.map V.ref++[.ref tp]))):=fun b o n1 n2 e=>by rw [upd_ne (nD0 b o e n1 n2)]; exact kp b o n1 n2 e
      have hrs:upd H7 Dl (.lst (rs.map V.ref++[.ref tp])) Dl=some (.lst ((rs++[tp]).map V.ref)):=by rw [upd_same]; simp
      generalize upd H7 Dl (.lst (rs.map V.ref++[.ref tp]))=H8 at hb hE hpc hy tr ea hrs he hp kp ⊢
      clear nT hT
      refine seq_step fun R hR=>?_
      walk_at "rd"
      refine fldR_at hp T.cl_Tide T.na_Tide_last_ends ft3.lst (ixT_at (.of hpc) rfl ⟨pe,rfl,_,DPut.k (k:=Sum.inl who) he (Nat.lt_of_le_of_lt lk (Nat.lt_of_le_of_lt hm (by decide))),hR _ _ ?_⟩)
      have nT:∀ b xs,H8 b=some (.tup xs)→upd H8 pe (.dK (putK kvs (Sum.inl who) (.ref qe))) b=some (.tup xs):=fun b xs e=>by
        rw [upd_ne (ne_of e he (by intro z; cases z))]; exact e
      have ea2:EnAt (upd H8 pe (.dK (putK kvs (Sum.inl who) (.ref qe)))) (putK kvs (Sum.inl who) (.ref qe)) (setE en who (bv+(len:Rat) / (sh:Rat))):=(ea.put hE).keep nT
      have hb:=nT _ _ hb
      have hE:=nT _ _ hE
      have hy:=nT _ _ hy
      have tr:=tags_keep tr nT
      have hp:upd H8 pe (.dK (putK kvs (Sum.inl who) (.ref qe))) p=some (.ins c_Tide dx (putF "unflowed" (.ref Dl) (putF "reached" (.ref y) (putF "latest" (.int t) fs)))):=by rw [upd_ne (Ne.symm npe)]; exact hp
      have hrs:upd H8 pe (.dK (putK kvs (Sum.inl who) (.ref qe))) Dl=some (.lst ((rs++[tp]).map V.ref)):=by rw [upd_ne nDe]; exact hrs
      have kp:Kept p pe H (upd H8 pe (.dK (putK kvs (Sum.inl who) (.ref qe)))):=fun b o n1 n2 e=>by rw [upd_ne n2]; exact kp b o n1 n2 e
      have he:upd H8 pe (.dK (putK kvs (Sum.inl who) (.ref qe))) pe=some (.dK (putK kvs (Sum.inl who) (.ref qe))):=upd_same
      generalize upd H8 pe (.dK (putK kvs (Sum.inl who) (.ref qe)))=H9 at ea2 hb hE hy tr hp hrs kp he ⊢
      walk_at "rd"
      intro q hq
      have n9:=same_new (o:=.tup [.ref qb,.ref qe]) hq
      have lput:=length_putK kvs (Sum.inl who:Key) (.ref qe)
      have lus:(Sw.usOn us rv bv len sh).length≤m+1:=by
        unfold Sw.usOn
        have:=List.length_filter_le (fun u:Sw.T3=>decide (rv<u.2.1)) us
        rw [List.length_append]
        simp only [List.length_cons,List.length_nil]
        omega
      exact k q qb qe _ (kp.trans n9.kept) ⟨dx,_,y,Dl,rs++[tp],_,n9 _ _ hp,ft3,n9 _ _ hy,n9 _ _ hrs,tags_same tr n9,n9 _ _ he,ea2.keep fun _ _ z=>n9 _ _ z,by omega,lus⟩ upd_same (n9 _ _ hb) (n9 _ _ hE) fun l xs e dx' fs' pu' h1 h2=>by
        rw [n9 _ _ hp] at h1
        cases h1
        rw [ft3.unf] at h2
        cases h2
        exact Ne.symm (nD0 l _ e (ne_of e hp0 (by intro z; cases z)) (ne_of e he0 (by intro z; cases z)))
theorem Row.kept {H H':Hp} {l:Addr} {ps:List Addr} {qs:List Q4} {p d C dx:Addr} {fs:List (Str×V)} {kvs:List (Key×V)} (R:Row H l ps qs) (k:Kept p d H H') (hp:H p=some (.ins C dx fs)) (hd:H d=some (.dK kvs)):Row H' l ps qs :=
  ⟨k _ _ (ne_of R.hl hp (by intro z; cases z)) (ne_of R.hl hd (by intro z; cases z)) R.hl,R.r.keep fun p z e=>k _ _ (ne_of e hp (by intro w; cases w)) (ne_of e hd (by intro w; cases w)) e⟩
theorem Td.ob {C:Addr} {H:Hp} {p pe:Addr} {lat:Int} {re:Rat} {us:List Sw.T3} {en:Int→Option Rat} {m:Nat} (h:Td C H p pe lat re us en m):∃ dx fs kvs pr pu,H p=some (.ins C dx fs)∧H pe=some (.dK kvs)∧FT fs lat pr pu pe:=by
  obtain ⟨dx,fs,pr,pu,ps,kvs,h1,h2,h3,h4,h5,h6,_⟩:=h.ex
  exact ⟨dx,fs,kvs,pr,pu,h1,h6,h2⟩
theorem mark_of {C:Addr} {H:Hp} {p pe:Addr} {lat:Int} {re:Rat} {us:List Sw.T3} {en:Int→Option Rat} {m:Nat} {D B t:Int} {Q:VK} {E:XK} (td:Td C H p pe lat re us en m) (ok:TideOk D B lat re us) (h:lat≤t) (t1:t<1000000000000000)
    (k:∀ q H',Same H H'→H' q=some (.tup (fq (Sw.markAt us lat re t)))→Q (.ref q) H'):rMeth C "mark" (.ref p) H (spMark C [.ref p,.int t] H Q E):=by
  obtain ⟨dx,fs,kvs,pr,pu,h1,h2,ft⟩:=Td.ob td
  exact meth_at h1 (ft.no _ (by decide +kernel) (by decide +kernel) (by decide +kernel) (by decide +kernel)) ⟨p,t,lat,re,us,D,B,rfl,td.m,ok,h,t1,k⟩
def goE (x:Nat×Int):List V:=[.int (x.1:Int),.int x.2]
def WIt (H:Hp) (a:Addr) (i:Sw.WI):Prop:=∃ pp pt pb pe,H a=some (.tup [.int (i.1:Int),.ref pp,.ref pt])∧H pp=some (.tup (q4 i.2.1))∧H pt=some (.tup [.ref pb,.ref pe])∧H pb=some (.tup (fq i.2.2.1))∧H pe=some (.tup (fq i.2.2.2))
theorem WIt.keep {H H':Hp} {a:Addr} {i:Sw.WI} (h:WIt H a i) (e:∀ p xs,H p=some (.tup xs)→H' p=some (.tup xs)):WIt H' a i:=by
  obtain ⟨pp,pt,pb,pe,h1,h2,h3,h4,h5⟩:=h
  exact ⟨pp,pt,pb,pe,e _ _ h1,e _ _ h2,e _ _ h3,e _ _ h4,e _ _ h5⟩
structure FW (fs:List (Str×V)) (td:Addr) (free:Int) (ql gl:Addr):Prop where
  td:fs.lookup ("tide" : Str)=some (.ref td)
  fr:fs.lookup ("free" : Str)=some (.int free)
  qu:fs.lookup ("queue" : Str)=some (.ref ql)
  go:fs.lookup ("gone" : Str)=some (.ref gl)
  no:∀ m:Str,¬ m = "tide" → ¬ m = "free" → ¬ m = "queue" → ¬ m = "gone" → fs.lookup m=none
  len:fs.length<900
theorem n_tide_free:¬ (("tide" : Str) = "free"):=by decide +kernel
theorem n_tide_queue:¬ (("tide" : Str) = "queue"):=by decide +kernel
theorem n_tide_gone:¬ (("tide" : Str) = "gone"):=by decide +kernel
theorem n_free_queue:¬ (("free" : Str) = "queue"):=by decide +kernel
theorem n_free_gone:¬ (("free" : Str) = "gone"):=by decide +kernel
theorem n_queue_gone:¬ (("queue" : Str) = "gone"):=by decide +kernel
theorem FW.put_fr {fs:List (Str×V)} {td ql gl:Addr} {f g:Int} (h:FW fs td f ql gl):FW (putF "free" (.int g) fs) td g ql gl:=by
  refine ⟨?_,?_,?_,?_,fun m a b c d=>?_,?_⟩
  · rw [lookup_putF,if_neg n_tide_free]; exact h.td
  · rw [lookup_putF,if_pos rfl]
  · rw [lookup_putF,if_neg (fun z=>n_free_queue z.symm)]; exact h.qu
  · rw [lookup_putF,if_neg (fun z=>n_free_gone z.symm)]; exact h.go
  · rw [lookup_putF,if_neg b]; exact h.no m a b c d
  · rw [putF_len h.fr]; exact h.len
theorem FW.mk0 (td ql gl:Addr):FW (putF "gone" (.ref gl) (putF "queue" (.ref ql) (putF "free" (.int 0) (putF "tide" (.ref td) [])))) td 0 ql gl:=by
  refine ⟨?_,?_,?_,?_,fun m h1 h2 h3 h4=>?_,?_⟩
  · rw [lookup_putF,if_neg n_tide_gone,lookup_putF,if_neg n_tide_queue,lookup_putF,if_neg n_tide_free,lookup_putF,if_pos rfl]
  · rw [lookup_putF,if_neg n_free_gone,lookup_putF,if_neg n_free_queue,lookup_putF,if_pos rfl]
  · rw [lookup_putF,if_neg n_queue_gone,lookup_putF,if_pos rfl]
  · rw [lookup_putF,if_pos rfl]
  · rw [lookup_putF,if_neg h4,lookup_putF,if_neg h3,lookup_putF,if_neg h2,lookup_putF,if_neg h1]; rfl
  · have a1:=putF_len' (fs:=[]) (f := "tide") (v:=.ref td)
    have a2:=putF_len' (fs:=putF "tide" (.ref td) []) (f := "free") (v:=.int 0)
    have a3:=putF_len' (fs:=putF "free" (.int 0) (putF "tide" (.ref td) [])) (f := "queue") (v:=.ref ql)
    have a4:=putF_len' (fs:=putF "queue" (.ref ql) (putF "free" (.int 0) (putF "tide" (.ref td) []))) (f := "gone") (v:=.ref gl)
    simp only [List.length_nil] at a1
    omega
theorem Td.but {C:Addr} {H H':Hp} {p pe x C' dx':Addr} {fs':List (Str×V)} {lat:Int} {re:Rat} {us:List Sw.T3} {en:Int→Option Rat} {m:Nat} (h:Td C H p pe lat re us en m) (b:But x H H') (hx:H x=some (.ins C' dx' fs')) (n:p≠x):Td C H' p pe lat re us en m:=by
  obtain ⟨dx,fs,pr,pu,ps,kvs,h1,h2,h3,h4,h5,h6,h7,h8⟩:=h.ex
  have kt:∀ b' zs,H b'=some (.tup zs)→H' b'=some (.tup zs):=fun b' zs e=>b _ _ (ne_of e hx (by intro z; cases z)) e
  exact ⟨dx,fs,pr,pu,ps,kvs,b _ _ n h1,h2,kt _ _ h3,b _ _ (ne_of h4 hx (by intro z; cases z)) h4,tags_keep h5 kt,b _ _ (ne_of h6 hx (by intro z; cases z)) h6,h7.keep kt,h8⟩
structure Wl (C CT:Addr) (H:Hp) (p td pe ql gl:Addr) (s:Sw.Ti) (x:Sw.WS) (qs gs:List Addr) (m:Nat):Prop where
  ob:∃ dx fs,H p=some (.ins C dx fs)∧FW fs td x.1 ql gl
  tk:Td CT H td pe s.lat s.re s.us s.en m
  nq:NoU CT H td ql
  ng:NoU CT H td gl
  hq:H ql=some (.lst (qs.map V.ref))
  rq:Paired (WIt H) qs x.2.1
  hg:H gl=some (.lst (gs.map V.ref))
  rg:TupsF goE H gs x.2.2
  d1:ql≠gl
  d2:td≠p
section
variable {C CT p td pe ql gl:Addr} {s:Sw.Ti} {x:Sw.WS} {qs gs:List Addr} {m:Nat} {H H':Hp}
theorem NoU.same {l:Addr} (h:NoU CT H td l) (e:∃ dx fs,H td=some (.ins CT dx fs)) (s:Same H H'):NoU CT H' td l:=by
  obtain ⟨dx,fs,e⟩:=e
  exact h.on e (s _ _ e)
theorem Wl.same (h:Wl C CT H p td pe ql gl s x qs gs m) (sm:Same H H'):Wl C CT H' p td pe ql gl s x qs gs m:=by
  obtain ⟨dx,fs,h1,h2⟩:=h.ob
  obtain ⟨dt,ft,_,_,_,t1,_⟩:=Td.ob h.tk
  exact ⟨⟨dx,fs,sm _ _ h1,h2⟩,h.tk.same sm,h.nq.same ⟨_,_,t1⟩ sm,h.ng.same ⟨_,_,t1⟩ sm,sm _ _ h.hq,Paired.mapP h.rq fun _ _ z=>z.keep fun _ _ e=>sm _ _ e,sm _ _ h.hg,tupsF_same h.rg sm,h.d1,h.d2⟩
theorem Wl.setQ (h:Wl C CT H p td pe ql gl s x qs gs m) {qs':List Addr} {Qu':List Sw.WI} (r:Paired (WIt H) qs' Qu'):Wl C CT (upd H ql (.lst (qs'.map V.ref))) p td pe ql gl s (x.1,Qu',x.2.2) qs' gs m:=by
  obtain ⟨dx,fs,h1,h2⟩:=h.ob
  obtain ⟨dt,ft,_,_,_,t1,_⟩:=Td.ob h.tk
  have kt:∀ b zs,H b=some (.tup zs)→upd H ql (.lst (qs'.map V.ref)) b=some (.tup zs):=fun b zs e=>upd_tup h.hq e
  have ot:upd H ql (.lst (qs'.map V.ref)) td=some (.ins CT dt ft):=by rw [upd_ne (ne_of t1 h.hq (by intro z; cases z))]; exact t1
  exact ⟨⟨dx,fs,by rw [upd_ne (ne_of h1 h.hq (by intro z; cases z))]; exact h1,h2⟩,Td.list h.tk h.nq h.hq,h.nq.on t1 ot,h.ng.on t1 ot,upd_same,Paired.mapP r fun _ _ z=>z.keep kt,by rw [upd_ne (Ne.symm h.d1)]; exact h.hg,tupsF_keep h.rg kt,h.d1,h.d2⟩
theorem Wl.setG (h:Wl C CT H p td pe ql gl s x qs gs m) {gs':List Addr} {gn':List (Nat×Int)} (r:TupsF goE H gs' gn'):Wl C CT (upd H gl (.lst (gs'.map V.ref))) p td pe ql gl s (x.1,x.2.1,gn') qs gs' m:=by
  obtain ⟨dx,fs,h1,h2⟩:=h.ob
  obtain ⟨dt,ft,_,_,_,t1,_⟩:=Td.ob h.tk
  have kt:∀ b zs,H b=some (.tup zs)→upd H gl (.lst (gs'.map V.ref)) b=some (.tup zs):=fun b zs e=>upd_tup h.hg e
  have ot:upd H gl (.lst (gs'.map V.ref)) td=some (.ins CT dt ft):=by rw [upd_ne (ne_of t1 h.hg (by intro z; cases z))]; exact t1
  exact ⟨⟨dx,fs,by rw [upd_ne (ne_of h1 h.hg (by intro z; cases z))]; exact h1,h2⟩,Td.list h.tk h.ng h.hg,h.nq.on t1 ot,h.ng.on t1 ot,by rw [upd_ne h.d1]; exact h.hq,Paired.mapP h.rq fun _ _ z=>z.keep kt,upd_same,tupsF_keep r kt,h.d1,h.d2⟩
theorem Wl.setF (h:Wl C CT H p td pe ql gl s x qs gs m) {dx:Addr} {fs fs':List (Str×V)} {f:Int} (h1:H p=some (.ins C dx fs)) (h2:FW fs' td f ql gl):Wl C CT (upd H p (.ins C dx fs')) p td pe ql gl s (f,x.2.1,x.2.2) qs gs m:=by
  obtain ⟨dt,ft,_,_,_,t1,_⟩:=Td.ob h.tk
  have kt:∀ b zs,H b=some (.tup zs)→upd H p (.ins C dx fs') b=some (.tup zs):=fun b zs e=>by rw [upd_ne (ne_of e h1 (by intro z; cases z))]; exact e
  have ot:upd H p (.ins C dx fs') td=some (.ins CT dt ft):=by rw [upd_ne h.d2]; exact t1
  exact ⟨⟨dx,fs',upd_same,h2⟩,Td.but h.tk but_upd h1 h.d2,h.nq.on t1 ot,h.ng.on t1 ot,by rw [upd_ne (ne_of h.hq h1 (by intro z; cases z))]; exact h.hq,Paired.mapP h.rq fun _ _ z=>z.keep kt,by rw [upd_ne (ne_of h.hg h1 (by intro z; cases z))]; exact h.hg,tupsF_keep h.rg kt,h.d1,h.d2⟩
theorem Wl.lenQ (h:Wl C CT H p td pe ql gl s x qs gs m):qs.length=x.2.1.length:=Paired.length h.rq
end
def KeptW (p td pe ql gl:Addr) (H H':Hp):Prop:=∀ b o,b≠p→b≠td→b≠pe→b≠ql→b≠gl→H b=some o→H' b=some o
theorem KeptW.trans {p td pe ql gl:Addr} {H H1 H2:Hp} (a:KeptW p td pe ql gl H H1) (b:KeptW p td pe ql gl H1 H2):KeptW p td pe ql gl H H2:=fun c o n1 n2 n3 n4 n5 e=>b c o n1 n2 n3 n4 n5 (a c o n1 n2 n3 n4 n5 e)
def KeptT (td:Addr) (H H':Hp):Prop:=∀ o,H td=some o→H' td=some o
theorem KeptT.trans {td:Addr} {H H1 H2:Hp} (a:KeptT td H H1) (b:KeptT td H1 H2):KeptT td H H2:=fun o e=>b o (a o e)
theorem Wl.td {C CT p td pe ql gl:Addr} {s:Sw.Ti} {x:Sw.WS} {qs gs:List Addr} {m:Nat} {H:Hp} (W:Wl C CT H p td pe ql gl s x qs gs m):∃ dx fs,H td=some (.ins CT dx fs):=by
  obtain ⟨dt,ft,_,_,_,t1,_⟩:=Td.ob W.tk
  exact ⟨dt,ft,t1⟩
theorem Same.keptW {p td pe ql gl:Addr} {H H':Hp} (h:Same H H'):KeptW p td pe ql gl H H':=fun b o _ _ _ _ _ e=>h b o e
theorem upd_keptW {p td pe ql gl v:Addr} {H:Hp} {o:HO} (h:v=p∨v=ql∨v=gl):KeptW p td pe ql gl H (upd H v o):=fun b u n1 _ _ n4 n5 e=>by
  have:b≠v:=fun z=>by
    rcases h with q | q | q
    · exact n1 (z.trans q)
    · exact n4 (z.trans q)
    · exact n5 (z.trans q)
  rw [upd_ne this]; exact e
def spCT (C CT:Addr):Sp:=fun vs H Q _=>∃ p td pe ql gl s x qs gs m,vs = [.ref p]∧Wl C CT H p td pe ql gl s x qs gs m∧x.2.1≠[]∧Q (.int (Sw.ctime x.1 x.2.1)) H
theorem m_Wheel_choice_time (T:Txt K mg c_Tide c_Wheel):MethD P w K mg base (CXX P w) 1 c_Wheel "choice_time" ["self"] [[]] (spCT c_Wheel c_Tide):=by
  refine T.me_Wheel_choice_time.okN (k:=0) sc_Wheel_choice_time (fun vs H Q E h=>?_) (fun f cdv A outer s H vs Q E hr h=>?_)
  · obtain ⟨p,td,pe,ql,gl,s,x,qs,gs,m,rfl,_⟩:=h
    rfl
  · obtain ⟨p,td,pe,ql,gl,st,x,qs,gs,m,rfl,W,ne,k⟩:=h
    refine ⟨_,(pss_one (ps_ret (pe_callB (call_max2 rfl) rfl T.no_max boot_max (pa_cons (pe_fld (pv 0) rfl) (pa_cons (pe_ix (ix_tupK K rfl) (pe_ix (ix_tupK K rfl) (pe_ix (ix_listK K rfl) (pe_fld (pv 0) rfl) pe_int (fun _ _=>rfl)) pe_int (fun _ _=>rfl)) pe_int (fun _ _=>rfl)) pa_nil))))),?_⟩
    show tRet _ _ [some (.ref p)] H
    obtain ⟨dx,fs,h1,fw⟩:=W.ob
    obtain ⟨free,Qu,gn⟩:=x
    cases Qu with
    | nil=>exact absurd rfl ne
    | cons i r =>
      obtain ⟨a0,ha0,pp,pt,pb,pe',g1,g2,g3,g4,g5⟩:=paired_at W.rq (i:=0) (b:=i) rfl
      walk_at "rd"
      refine fldR_at h1 T.cl_Wheel T.na_Wheel_free fw.fr ?_
      refine fldR_at h1 T.cl_Wheel T.na_Wheel_queue fw.qu ?_
      refine ixL_at (.of W.hq) (show atI (qs.map V.ref) 0=some (.ref a0) from atI_nat (j:=0) (by rw [List.getElem?_map,ha0]; rfl)) ?_
      refine ixT_at (.of g1) rfl (ixT_at (.of g2) rfl ?_)
      walk_at "rd"
      exact k
def spNext (C CT:Addr):Sp:=fun vs H Q _=>∃ p pm mk td pe ql gl s x qs gs m c0,vs = [.ref p,.ref pm]∧H pm=some (.tup (fq mk))∧Sw.SzQ 2000 mk∧Wl C CT H p td pe ql gl s x qs gs m∧(∀ i∈x.2.1,Sw.SzQ 2000 i.2.2.1∧Sw.SzQ 2000 i.2.2.2) ∧
  Sw.nextF mk x.2.1 none=some c0∧∀ (k:Nat) (ad:Addr),x.2.1[k]? = some c0→qs[k]? = some ad→Q (.ref ad) H
theorem m_Wheel_next_to_go (T:Txt K mg c_Tide c_Wheel):MethD P w K mg base (CXX P w) 2 c_Wheel "next_to_go" ["self", "mark"] [[]] (spNext c_Wheel c_Tide):=by
  have D_under:=d_under (P:=P) (w:=w) (base:=base) T
  refine T.me_Wheel_next_to_go.okN (k:=1) sc_Wheel_next_to_go (fun vs H Q E h=>?_) (fun f cdv A outer s H vs Q E hr h=>?_)
  · obtain ⟨p,pm,mk,td,pe,ql,gl,s,x,qs,gs,m,c0,rfl,_⟩:=h
    rfl
  · obtain ⟨p,pm,mk,td,pe,ql,gl,st,x,qs,gs,m,c0,rfl,hpm,zm,W,zi,hn,k⟩:=h
    refine ⟨_,(pss_cons (ps_set (i:=2) sc_Wheel_next_to_go.nd rfl (by first|left;rfl|right;rfl) pe_non) (pss_cons (ps_for PassesOwn.never rfl (pi_listK K rfl (pe_fld (pv 0) rfl)) (pg_name (i:=3) sc_Wheel_next_to_go.nd rfl (by first|left;rfl|right;rfl)) (pss_cons (ps_set (i:=4) sc_Wheel_next_to_go.nd rfl (by first|left;rfl|right;rfl) (pe_not (pe_callX D_under (hr.mono (by decide)) rfl passN (pa_cons (pv 1) (pa_cons (pe_ix (ix_tupK K rfl) (pe_ix (ix_tupK K rfl) (pv 3) pe_int (fun _ _=>rfl)) pe_int (fun _ _=>rfl)) pa_nil))))) (pss_one (ps_if (PW.pt (pw_and (pt_val (pv 4)) (pw_and1 (PW.pt (pw_or (pt_cmpR op_isN (pv 2) pe_non (nomark _)) (pw_or1 (pt_val (pe_callX D_under (hr.mono (by decide)) rfl passN (pa_cons (pe_ix (ix_tupK K rfl) (pe_ix (ix_tupK K rfl) (pv 3) pe_int (fun _ _=>rfl)) pe_int (fun _ _=>rfl)) (pa_cons (pe_ix (ix_tupK K rfl) (pe_ix (ix_tupK K rfl) (pv 2) pe_int (fun _ _=>rfl)) pe_int (fun _ _=>rfl)) pa_nil)))))))))) (pss_one (ps_set (i:=2) sc_Wheel_next_to_go.nd rfl (by first|left;rfl|right;rfl) (pv 3))) pss_nil)))) (pss_one (ps_ret (pv 2))))),?_⟩
    show tSeq _ _ _ [some (.ref p),some (.ref pm),none,none,none] H
    obtain ⟨dx,fs,h1,fw⟩:=W.ob
    have lq:=W.lenQ
    refine seq_step fun R hR=>?_
    walk_at "rd"
    refine hR _ _ ?_
    clear hR
    refine seq_step fun R hR=>?_
    refine for_step fun Z hZ=>?_
    walk_at "rd"
    refine fldR_at h1 T.cl_Wheel T.na_Wheel_queue fw.qu ?_
    refine ⟨ql,rfl,⟨_,.of W.hq⟩,hZ _ _ ?_⟩
    refine for_list (K:=K) (a:=ql) (xs:=qs.map V.ref) (fun i σ H'=>H'=H∧∃ ch v3 v4,σ = [some (.ref p),some (.ref pm),some ch,v3,v4]∧((ch = .non∧Sw.nextF mk (x.2.1.take i) none=none)∨∃ (j:Nat) (c:Sw.WI) (ad:Addr),ch = .ref ad∧x.2.1[j]? = some c∧qs[j]? = some ad∧Sw.nextF mk (x.2.1.take i) none=some c)) ⟨rfl,.non,none,none,rfl,.inl ⟨rfl,rfl⟩⟩ (fun i σ H' _ ⟨e,_⟩=>by rw [e]; exact .of W.hq) ?_ ?_
    · rintro i y σ H' hy ⟨rfl,ch,v3,v4,rfl,hch⟩
      obtain ⟨a,ha,rfl⟩:∃ p,qs[i]? = some p∧V.ref p=y:=by simpa using hy
      obtain ⟨it,hit,pp,pt,pb,pe',g1,g2,g3,g4,g5⟩:=paired_get W.rq ha
      obtain ⟨zb,ze⟩:=zi it (List.mem_of_getElem? hit)
      have et:Sw.nextF mk (x.2.1.take (i+1)) none=Sw.bestF mk it (Sw.nextF mk (x.2.1.take i) none):=by rw [take_succ_of hit,Sw.nextF_snoc]
      show tSeq _ _ _ [some (.ref p),some (.ref pm),some ch,some (.ref a),v4] H'
      refine nx_step fun N hN=>?_
      refine seq_step fun R hR=>?_
      walk_at "rd"
      refine ixT_at (.of g1) rfl (ixT_at (.of g3) rfl ?_)
      refine ⟨pm,pb,mk,it.2.2.1,rfl,hpm,g4,zm.mono (by decide),zb.mono (by decide),?_⟩
      walk_at "rd"
      refine hR _ _ ?_
      walk_at "rd"
      refine ite2 (fun c=>?_) fun c=>?_
      · refine hN _ _ ⟨rfl,ch,_,_,rfl,?_⟩
        rw [et]
        unfold Sw.bestF
        rw [if_pos c]
        exact hch
      · rcases hch with ⟨rfl,e⟩ | ⟨j,d,ad,rfl,h2,h3,e⟩
        · rw [if_pos rfl]
          refine hN _ _ ⟨rfl,.ref a,_,_,rfl,.inr ⟨i,it,a,rfl,hit,ha,?_⟩⟩
          rw [et,e]
          unfold Sw.bestF
          rw [if_neg c]
        · rw [if_neg (by intro z; cases z)]
          obtain ⟨d',hd',pp2,pt2,pb2,pe2,f1,f2,f3,f4,f5⟩:=paired_get W.rq h3
          rw [h2] at hd'
          cases hd'
          obtain ⟨zb2,ze2⟩:=zi d (List.mem_of_getElem? h2)
          refine ixT_at (.of g1) rfl (ixT_at (.of g3) rfl (ixT_at (.of f1) rfl (ixT_at (.of f3) rfl ?_)))
          refine ⟨pe',pe2,it.2.2.2,d.2.2.2,rfl,g5,f5,ze.mono (by decide),ze2.mono (by decide),?_⟩
          walk_at "rd"
          refine ite2 (fun c2=>?_) fun c2=>?_
          · refine hN _ _ ⟨rfl,.ref a,_,_,rfl,.inr ⟨i,it,a,rfl,hit,ha,?_⟩⟩
            rw [et,e]
            unfold Sw.bestF
            rw [if_neg c]
            dsimp only
            rw [if_pos c2]
          · refine hN _ _ ⟨rfl,.ref ad,_,_,rfl,.inr ⟨j,d,ad,rfl,h2,h3,?_⟩⟩
            rw [et,e]
            unfold Sw.bestF
            rw [if_neg c]
            dsimp only
            rw [if_neg c2]
    · rintro σ H' ⟨eH,ch,v3,v4,rfl,hch⟩
      subst eH
      rw [List.length_map,lq,List.take_of_length_le (Nat.le_refl _)] at hch
      refine hR _ _ ?_
      walk_at "rd"
      rcases hch with ⟨_,e⟩ | ⟨j,c,ad,rfl,h2,h3,e⟩
      · rw [hn] at e; cases e
      · rw [hn] at e
        cases e
        exact k j ad h2 h3
def itD (i:Sw.WI):PyData:=.tuple [.int (i.1:Int),q4D i.2.1,.tuple [.tuple [.int i.2.2.1.num,.int (i.2.2.1.den:Int)],.tuple [.int i.2.2.2.num,.int (i.2.2.2.den:Int)]]]
theorem itD_lay (i:Sw.WI):(itD i).canLay0=true:=rfl
theorem itD_shaped (i:Sw.WI):PySem.SeqAt.shaped (itD i)=true:=by
  unfold PySem.SeqAt.shaped
  rw [Bool.and_eq_true,decide_eq_true_eq]
  refine ⟨itD_lay i,?_⟩
  simp [itD,q4D,PyData.depth,PyData.depthAll]
theorem it_deep {K:PySem.W.Frag} {H:Hp} {a:Addr} {i:Sw.WI} (h:WIt H a i):Deep K H (.ref a) (itD i):=by
  obtain ⟨pp,pt,pb,pe,h1,h2,h3,h4,h5⟩:=h
  exact .tup (.of h1) (.cons (.int _) (.cons (.tup (.of h2) (.cons (.int _) (.cons (.int _) (.cons (.int _) (.cons (.int _) .nil))))) (.cons (.tup (.of h3) (.cons (fq_deep h4) (.cons (fq_deep h5) .nil))) .nil)))
theorem its_deep {K:PySem.W.Frag} {H:Hp}:∀ {ps:List Addr} {is:List Sw.WI},Paired (WIt H) ps is→DeepAll K H (ps.map V.ref) (is.map itD)
  | _,_,Paired.nil=>.nil
  | _,_,Paired.cons a b=>.cons (it_deep a) (its_deep b)
theorem eqv_it {i j:Sw.WI} (h:i.1≠j.1):PyData.eqv (itD i) (itD j)=false:=by
  have:((i.1:Int) == (j.1:Int))=false:=by
    rw [beq_eq_false_iff_ne]
    omega
  simp [itD,PyData.eqv,PyData.eqvAll,this]
theorem map_erase:∀ (l:List Addr) (n:Nat),(l.map V.ref).eraseIdx n=(l.eraseIdx n).map V.ref
  | [],_=>rfl
  | _ :: _,0=>rfl
  | a :: r,n+1=>by
    show V.ref a :: (r.map V.ref).eraseIdx n=V.ref a :: (r.eraseIdx n).map V.ref
    rw [map_erase r n]
theorem paired_take {α β:Type} {F:α→β→Prop}:∀ {l₁:List α} {l₂:List β} (n:Nat),Paired F l₁ l₂→Paired F (l₁.take n) (l₂.take n)
  | _,_,0,_=>.nil
  | _,_,_ + 1,.nil=>.nil
  | _,_,n+1,.cons a b=>.cons a (paired_take n b)
theorem paired_erase {α β:Type} {F:α→β→Prop}:∀ {l₁:List α} {l₂:List β} (n:Nat),Paired F l₁ l₂→Paired F (l₁.eraseIdx n) (l₂.eraseIdx n)
  | _,_,_,.nil=>.nil
  | _,_,0,.cons _ b=>b
  | _,_,n+1,.cons a b=>.cons a (paired_erase n b)
theorem mark_sz {D B lat t:Int} {re:Rat} {us:List Sw.T3} (ok:TideOk D B lat re us) (h:lat≤t):Sw.SzQ 1700 (Sw.markAt us lat re t):=by
  obtain ⟨⟨S,S1,S2,gS⟩,m1,m2⟩:=Sw.markAt_ok ok h
  have gb:=ok.gb
  have B1:=gb.B1
  have B0:=gb.B0
  have re0:=ok.re0
  have lu':=ok.len
  exact (gS.sz (M:=B) (a:=1570) (b:=70) (Int.mul_pos gb.D0 (by omega)) (gb.Dz.mul (Sw.Sz.r18 (by omega) (by omega))) (Sw.Sz.r18 (by omega) (by omega)) (by have:(0:Rat)≤(B:Rat):=(by grind); grind) m2 (by decide)).mono (by decide)
def spGo (C CT:Addr):Sp:=fun vs H Q _=>∃ p td pe ql gl s x qs gs m D B T G,vs = [.ref p]∧Wl C CT H p td pe ql gl s x qs gs m∧TideOk D B s.lat s.re s.us∧Sw.WOk s T G x∧x.2.1≠[]∧x.2.1.length≤100∧x.2.2.length≤100∧Sw.ctime x.1 x.2.1<1000000000000000∧(∀ i∈x.2.1,Sw.SzQ 2000 i.2.2.1∧Sw.SzQ 2000 i.2.2.2) ∧
  ∀ qs' gs' H',KeptW p td pe ql gl H H'→KeptT td H H'→Wl C CT H' p td pe ql gl s (Sw.goF s x) qs' gs' m→Q .non H'
theorem m_Wheel_make_choice (T:Txt K mg c_Tide c_Wheel):MethD P w K mg base (CXX P w) 5 c_Wheel "make_choice" ["self"] [[]] (spGo c_Wheel c_Tide):=by
  have M_Wheel_choice_time:=m_Wheel_choice_time (P:=P) (w:=w) (base:=base) T
  have M_Wheel_next_to_go:=m_Wheel_next_to_go (P:=P) (w:=w) (base:=base) T
  have M_Tide_mark:=m_Tide_mark (P:=P) (w:=w) (base:=base) T
  refine T.me_Wheel_make_choice.okN (k:=4) sc_Wheel_make_choice (fun vs H Q E h=>?_) (fun f cdv A outer s H vs Q E hr h=>?_)
  · obtain ⟨p,td,pe,ql,gl,s,x,qs,gs,m,D,B,T,G,rfl,_⟩:=h
    rfl
  · obtain ⟨p,td,pe,ql,gl,st,x,qs,gs,m,D,B,TT,G,rfl,W,ok,wo,ne,l1,l2,t1,zi,k⟩:=h
    refine ⟨_,(pss_cons (ps_set (i:=1) sc_Wheel_make_choice.nd rfl (by first|left;rfl|right;rfl) (pe_methX0 (dvs:=[]) M_Wheel_choice_time (by simp) T.cl_Wheel (hr.mono (by decide)) passN (pv 0))) (pss_cons (ps_set (i:=2) sc_Wheel_make_choice.nd rfl (by first|left;rfl|right;rfl) (pe_methX (dvs:=[]) M_Wheel_next_to_go (by simp) T.cl_Wheel (hr.mono (by decide)) passN (pv 0) (pa_cons (pe_methX (dvs:=[]) M_Tide_mark (by simp) T.cl_Tide (hr.mono (by decide)) passN (pe_fld (pv 0) rfl) (pa_cons (pv 1) pa_nil)) pa_nil))) (pss_cons (ps_expr (pe_bm PySem.F.plainAttrs_list PySem.F.slot_list_remove PySem.F.type_list_remove (mt_remove K rfl hr.units66) (pe_fld (pv 0) rfl) (pa_cons (pv 2) pa_nil))) (pss_cons (ps_expr (pe_bm PySem.F.plainAttrs_list PySem.F.slot_list_append PySem.F.type_list_append mt_append (pe_fld (pv 0) rfl) (pa_cons (pe_tup (pa_cons (pe_ix (ix_tupK K rfl) (pv 2) pe_int (fun _ _=>rfl)) (pa_cons (pv 1) pa_nil))) pa_nil))) (pss_one (ps_fld (pv 0) (pe_op op_add (pv 1) (pe_ix (ix_tupK K rfl) (pe_ix (ix_tupK K rfl) (pv 2) pe_int (fun _ _=>rfl)) pe_int (fun _ _=>rfl))) rfl)))))),?_⟩
    show tSeq _ _ _ [some (.ref p),none,none] H
    obtain ⟨dx,fs,h1,fw⟩:=W.ob
    have lq:=W.lenQ
    have nf:fs.lookup ("choice_time" : Str)=none:=fw.no _ (by decide +kernel) (by decide +kernel) (by decide +kernel) (by decide +kernel)
    have nn:fs.lookup ("next_to_go" : Str)=none:=fw.no _ (by decide +kernel) (by decide +kernel) (by decide +kernel) (by decide +kernel)
    refine seq_step fun R hR=>?_
    walk_at "rd"
    refine meth_at h1 nf ?_
    refine ⟨p,td,pe,ql,gl,st,x,qs,gs,m,rfl,W,ne,hR _ _ ?_⟩
    clear hR
    have tl:=wo.tl ne
    obtain ⟨c,hc,cm⟩:=wo.pick ok ne
    refine seq_step fun R hR=>?_
    walk_at "rd"
    refine meth_at h1 nn ?_
    refine fldR_at h1 T.cl_Wheel T.na_Wheel_tide fw.td ?_
    refine mark_of W.tk ok tl t1 fun pm H1 s1 hpm=>?_
    have W:=W.same s1
    have h1:=s1 _ _ h1
    refine ⟨p,pm,_,td,pe,ql,gl,st,x,qs,gs,m,c,rfl,hpm,(mark_sz ok tl).mono (by decide),W,zi,hc,fun kk ad hk hd=>hR _ _ ?_⟩
    clear hR
    have eg:Sw.goF st x=(Sw.ctime x.1 x.2.1+c.2.1.2.2.1,x.2.1.erase c,x.2.2++[(c.1,Sw.ctime x.1 x.2.1)]):=by unfold Sw.goF; rw [hc]
    obtain ⟨c',hc',pp,pt,pb,pe',g1,g2,g3,g4,g5⟩:=paired_get W.rq hd
    rw [hk] at hc'
    cases hc'
    have kl:kk<x.2.1.length:=(List.getElem?_eq_some_iff.mp hk).1
    have wit:WIt H1 ad c:=⟨pp,pt,pb,pe',g1,g2,g3,g4,g5⟩
    have nb:∀ (m':Nat) (i:Sw.WI),m' < kk→x.2.1[m']? = some i→i.1≠c.1:=fun m' i hm hi z=>by
      have e1:(x.2.1.map (·.1))[m']? = some i.1:=by rw [List.getElem?_map,hi]; rfl
      have e2:(x.2.1.map (·.1))[kk]? = some c.1:=by rw [List.getElem?_map,hk]; rfl
      have:=(List.getElem?_inj (List.getElem?_eq_some_iff.mp e1).1 wo.nd).mp (e1.trans (by rw [z,e2]))
      omega
    refine seq_step fun R hR=>?_
    walk_at "rd"
    refine fldR_at h1 T.cl_Wheel T.na_Wheel_queue fw.qu ?_
    refine ⟨tyL_at W.hq,ql,_,.ref ad,kk,itD c,(x.2.1.take (kk+1)).map itD,rfl,rfl,W.hq,line_lt (by rw [List.length_map]; omega),by rw [List.length_map]; omega,it_deep wit,itD_shaped c,?_,?_,?_,?_,hR _ _ ?_⟩
    · rw [← List.map_take]
      exact its_deep (paired_take (kk+1) W.rq)
    · intro e he
      obtain ⟨i,_,rfl⟩:=List.mem_map.mp he
      exact itD_shaped i
    · rw [List.getElem?_map,List.getElem?_take,if_pos (by omega),hk]
      show some (PyData.eqv (itD c) (itD c))=some true
      rw [eqv_refl _ (itD_lay c)]
    · intro m' e hm he
      rw [List.getElem?_map,List.getElem?_take,if_pos (by omega)] at he
      cases ci:x.2.1[m']? with
      | none=>rw [ci] at he; cases he
      | some i =>
        rw [ci] at he
        have:itD i=e:=Option.some.inj he
        rw [← this]
        exact eqv_it (nb m' i hm ci)
    clear hR
    have ee:(qs.map V.ref).eraseIdx kk=(qs.eraseIdx kk).map V.ref:=map_erase qs kk
    rw [ee]
    have W2:=W.setQ (paired_erase kk W.rq)
    rw [← Sw.erase_idx wo.nd hk] at W2
    have k2:KeptW p td pe ql gl H (upd H1 ql (.lst ((qs.eraseIdx kk).map V.ref))):=(Same.keptW s1).trans (upd_keptW (.inr (.inl rfl)))
    have j2:KeptT td H (upd H1 ql (.lst ((qs.eraseIdx kk).map V.ref))):=fun o e=>by
      obtain ⟨dt,ft,t1⟩:=W.td
      rw [upd_ne (ne_of t1 W.hq (by intro z; cases z))]; exact s1 _ _ e
    have g1':=upd_tup (ys:=(qs.eraseIdx kk).map V.ref) W.hq g1
    have g2':=upd_tup (ys:=(qs.eraseIdx kk).map V.ref) W.hq g2
    generalize upd H1 ql (.lst ((qs.eraseIdx kk).map V.ref))=H2 at W2 k2 j2 g1' g2' ⊢
    clear W h1 g1 g2 g3 g4 g5 wit s1 hpm
    obtain ⟨dx,fs,h1,fw⟩:=W2.ob
    have lg:=tupsF_len W2.rg
    refine seq_step fun R hR=>?_
    walk_at "rd"
    refine fldR_at h1 T.cl_Wheel T.na_Wheel_gone fw.go ?_
    refine ⟨tyL_at W2.hg,?_⟩
    refine ixT_at (.of g1') rfl ?_
    intro tp ftp
    have s3:=same_new (o:=.tup [.int (c.1:Int),.int (Sw.ctime x.1 x.2.1)]) ftp
    have W3:=W2.same s3
    have htp:upd H2 tp (.tup [.int (c.1:Int),.int (Sw.ctime x.1 x.2.1)]) tp=some (.tup (goE (c.1,Sw.ctime x.1 x.2.1))):=upd_same
    have k3:=k2.trans (Same.keptW s3)
    have j3:KeptT td H (upd H2 tp (.tup [.int (c.1:Int),.int (Sw.ctime x.1 x.2.1)])):=fun o e=>s3 _ _ (j2 o e)
    have g1':=s3 _ _ g1'
    have g2':=s3 _ _ g2'
    generalize upd H2 tp (.tup [.int (c.1:Int),.int (Sw.ctime x.1 x.2.1)])=H3 at W3 htp k3 j3 g1' g2' ⊢
    refine app_at W3.hg (by rw [List.length_map]; show gs.length<1000; have:gs.length=x.2.2.length:=lg; omega) (hR _ _ ?_)
    clear hR
    have W4:=W3.setG (tupsF_snoc htp W3.rg)
    have em:(gs++[tp]).map V.ref=gs.map V.ref++[.ref tp]:=by rw [List.map_append]; rfl
    rw [em] at W4
    have k4:KeptW p td pe ql gl H (upd H3 gl (.lst (gs.map V.ref++[.ref tp]))):=k3.trans (upd_keptW (.inr (.inr rfl)))
    have j4:KeptT td H (upd H3 gl (.lst (gs.map V.ref++[.ref tp]))):=fun o e=>by
      obtain ⟨dt,ft,t1⟩:=W3.td
      rw [upd_ne (ne_of t1 W3.hg (by intro z; cases z))]; exact j3 o e
    have g1':=upd_tup (ys:=gs.map V.ref++[.ref tp]) W3.hg g1'
    have g2':=upd_tup (ys:=gs.map V.ref++[.ref tp]) W3.hg g2'
    generalize upd H3 gl (.lst (gs.map V.ref++[.ref tp]))=H4 at W4 k4 j4 g1' g2' ⊢
    clear W2 W3 k2 k3 h1 fw s3 ftp htp
    obtain ⟨dx,fs,h1,fw⟩:=W4.ob
    walk_at "rd"
    refine ixT_at (.of g1') rfl (ixT_at (.of g2') rfl ?_)
    refine ⟨_,rfl,set_at h1 T.cl_Wheel T.na_Wheel_free (by have:=fw.len; omega) ?_⟩
    refine k (qs.eraseIdx kk) (gs++[tp]) _ (k4.trans (upd_keptW (.inl rfl))) (fun o e=>by rw [upd_ne W4.d2]; exact j4 o e) ?_
    rw [eg]
    exact W4.setF h1 fw.put_fr
structure WRun (s:Sw.Ti) (T G:List Sw.WI) (x:Sw.WS) (D B:Int):Prop where
  ok:TideOk D B s.lat s.re s.us
  wo:Sw.WOk s T G x
  l1:x.2.1.length+x.2.2.length≤100
  zi:∀ i∈x.2.1,Sw.SzQ 2000 i.2.2.1∧Sw.SzQ 2000 i.2.2.2
  tb:∀ i∈x.2.1,0≤Sw.wAt i∧Sw.wAt i+0<200000000000000∧i.2.1.2.2.1≤1000000
  fb:x.1+1000000*x.2.1.length<400000000000000
theorem ctime_lt {free:Int} {l:List Sw.WI} {b:Int} (h1:free<b) (h2:∀ i∈l,Sw.wAt i<b):Sw.ctime free l<b:=by
  cases l with
  | nil=>exact h1
  | cons i r =>
    have:=h2 i (by simp)
    show (if Sw.wAt i > free then Sw.wAt i else free)<b
    split <;> omega
theorem WRun.step {s:Sw.Ti} {T G:List Sw.WI} {x:Sw.WS} {D B:Int} (h:WRun s T G x D B) (ne:x.2.1≠[]):∃ G',WRun s T G' (Sw.goF s x) D B∧(Sw.goF s x).2.1.length+1=x.2.1.length:=by
  obtain ⟨c,cm,hc,w,l⟩:=h.wo.step h.ok ne
  have e:Sw.goF s x=(Sw.ctime x.1 x.2.1+c.2.1.2.2.1,x.2.1.erase c,x.2.2++[(c.1,Sw.ctime x.1 x.2.1)]):=by unfold Sw.goF; rw [hc]
  have l1:=h.l1
  have cb:=(h.tb c cm).2.2
  have fb:=h.fb
  have pos:=List.length_pos_of_mem cm
  refine ⟨G++[c],⟨h.ok,w,?_,?_,?_,?_⟩,l⟩
  · rw [e] at l ⊢
    show (x.2.1.erase c).length+(x.2.2++[(c.1,Sw.ctime x.1 x.2.1)]).length≤100
    have l:(x.2.1.erase c).length+1=x.2.1.length:=l
    rw [List.length_append]
    simp only [List.length_cons,List.length_nil]
    omega
  · rw [e]; exact fun i hi=>h.zi i (List.mem_of_mem_erase hi)
  · rw [e]; exact fun i hi=>h.tb i (List.mem_of_mem_erase hi)
  · have l:=l
    rw [e] at l ⊢
    have l:(x.2.1.erase c).length+1=x.2.1.length:=l
    show Sw.ctime x.1 x.2.1+c.2.1.2.2.1+1000000*((x.2.1.erase c).length:Int) < _
    have f0:=h.wo.f0
    have ct:=ctime_lt (free:=x.1) (l:=x.2.1) (b:=400000000000000-1000000*x.2.1.length) (by omega) (fun i hi=>by have:=(h.tb i hi).2.1; omega)
    omega
theorem WRun.t1 {s:Sw.Ti} {T G:List Sw.WI} {x:Sw.WS} {D B:Int} (h:WRun s T G x D B):Sw.ctime x.1 x.2.1<1000000000000000:=by
  have fb:=h.fb
  exact ctime_lt (by omega) (fun i hi=>by have:=(h.tb i hi).2.1; omega)
def spTo (C CT:Addr):Sp:=fun vs H Q _=>∃ p a td pe ql gl s x qs gs m D B T G,vs = [.ref p,.int a]∧Wl C CT H p td pe ql gl s x qs gs m∧WRun s T G x D B ∧
  ∀ qs' gs' H',KeptW p td pe ql gl H H'→KeptT td H H'→Wl C CT H' p td pe ql gl s (Sw.runF s (some a) x.2.1.length x) qs' gs' m→Q .non H'
theorem m_Wheel_run_up_to (T:Txt K mg c_Tide c_Wheel):MethD P w K mg base (CXX P w) 6 c_Wheel "run_up_to" ["self", "at"] [[]] (spTo c_Wheel c_Tide):=by
  have M_Wheel_choice_time:=m_Wheel_choice_time (P:=P) (w:=w) (base:=base) T
  have M_Wheel_make_choice:=m_Wheel_make_choice (P:=P) (w:=w) (base:=base) T
  refine T.me_Wheel_run_up_to.okN (k:=5) sc_Wheel_run_up_to (fun vs H Q E h=>?_) (fun f cdv A outer s H vs Q E hr h=>?_)
  · obtain ⟨p,a,td,pe,ql,gl,s,x,qs,gs,m,D,B,T,G,rfl,_⟩:=h
    rfl
  · obtain ⟨p,a,td,pe,ql,gl,st,x,qs,gs,m,D,B,TT,G,rfl,W,wr,k⟩:=h
    refine ⟨_,(pss_one (ps_while PassesOwn.never (PW.pt (pw_and (pt_truthK K rfl (pe_fld (pv 0) rfl)) (pw_and1 (pt_cmpR op_lt (pe_methX0 (dvs:=[]) M_Wheel_choice_time (by simp) T.cl_Wheel (hr.mono (by decide)) passN (pv 0)) (pv 1) (nomark _))))) (pss_one (ps_expr (pe_methX0 (dvs:=[]) M_Wheel_make_choice (by simp) T.cl_Wheel (hr.mono (by decide)) passN (pv 0)))))),?_⟩
    show tWhile _ _ _ [some (.ref p),some (.int a)] H
    refine while_g (fun n σ H'=>∃ G' y qs' gs',σ = [some (.ref p),some (.int a)]∧y.2.1.length=n∧Wl c_Wheel c_Tide H' p td pe ql gl st y qs' gs' m∧WRun st TT G' y D B∧KeptW p td pe ql gl H H'∧KeptT td H H'∧Sw.runF st (some a) y.2.1.length y=Sw.runF st (some a) x.2.1.length x) ⟨G,x,qs,gs,rfl,rfl,W,wr,Same.keptW (Same.refl _),fun o e=>e,rfl⟩ ?_
    rintro n σ H1 ⟨G',y,qs',gs',rfl,rfl,W1,wr1,k1,j1,er⟩ Z z1 z2
    obtain ⟨dx,fs,h1,fw⟩:=W1.ob
    have lq:=W1.lenQ
    walk_at "rd"
    refine fldR_at h1 T.cl_Wheel T.na_Wheel_queue fw.qu ?_
    have nc:fs.lookup ("choice_time" : Str)=none:=fw.no _ (by decide +kernel) (by decide +kernel) (by decide +kernel) (by decide +kernel)
    have nm:fs.lookup ("make_choice" : Str)=none:=fw.no _ (by decide +kernel) (by decide +kernel) (by decide +kernel) (by decide +kernel)
    refine ⟨_,truL (.of W1.hq),?_⟩
    by_cases ne:y.2.1 = []
    · have e0:qs' = []:=List.eq_nil_of_length_eq_zero (by rw [lq,ne]; rfl)
      subst e0
      rw [if_neg (by simp)]
      refine z2 _ ?_
      have ng:¬ Sw.goOn (some a) y:=fun z=>z.1 ne
      refine k [] gs' H1 k1 j1 ?_
      rw [← er,Sw.runF_stop ng]
      exact W1
    · have e1:qs'≠[]:=fun z=>ne (List.eq_nil_of_length_eq_zero (by rw [← lq,z]; rfl))
      rw [if_pos (by simpa using e1)]
      refine meth_at h1 nc ?_
      refine ⟨p,td,pe,ql,gl,st,y,qs',gs',m,rfl,W1,ne,_,rfl,?_⟩
      by_cases c:Sw.ctime y.1 y.2.1<a
      · rw [decide_eq_true c]
        refine z1 _ ?_
        have go:Sw.goOn (some a) y:=⟨ne,fun b e=>by cases e; exact c⟩
        obtain ⟨G2,wr2,ln⟩:=wr1.step ne
        walk_at "rd"
        refine meth_at h1 nm ?_
        have l1:=wr1.l1
        refine ⟨p,td,pe,ql,gl,st,y,qs',gs',m,D,B,TT,G',rfl,W1,wr1.ok,wr1.wo,ne,by omega,by omega,wr1.t1,wr1.zi,fun qs2 gs2 H2 k2 j2 W2=>?_⟩
        refine ⟨_,?_,G2,_,rfl,⟨qs2,gs2,W2⟩,wr2,k1.trans k2,j1.trans j2,?_⟩
        · omega
        · rw [← er,← ln,Sw.runF_go go]
      · rw [decide_eq_false c]
        refine z2 _ ?_
        have ng:¬ Sw.goOn (some a) y:=fun z=>c (z.2 a rfl)
        refine k qs' gs' H1 k1 j1 ?_
        rw [← er,Sw.runF_stop ng]
        exact W1
def spRunOut (C CT:Addr):Sp:=fun vs H Q _=>∃ p td pe ql gl s x qs gs m D B T G,vs = [.ref p]∧Wl C CT H p td pe ql gl s x qs gs m∧WRun s T G x D B ∧
  ∀ qs' gs' H',KeptW p td pe ql gl H H'→KeptT td H H'→Wl C CT H' p td pe ql gl s (Sw.runF s none x.2.1.length x) qs' gs' m→Q .non H'
theorem m_Wheel_run_out (T:Txt K mg c_Tide c_Wheel):MethD P w K mg base (CXX P w) 6 c_Wheel "run_out" ["self"] [[]] (spRunOut c_Wheel c_Tide):=by
  have M_Wheel_make_choice:=m_Wheel_make_choice (P:=P) (w:=w) (base:=base) T
  refine T.me_Wheel_run_out.okN (k:=5) sc_Wheel_run_out (fun vs H Q E h=>?_) (fun f cdv A outer s H vs Q E hr h=>?_)
  · obtain ⟨p,td,pe,ql,gl,s,x,qs,gs,m,D,B,T,G,rfl,_⟩:=h
    rfl
  · obtain ⟨p,td,pe,ql,gl,st,x,qs,gs,m,D,B,TT,G,rfl,W,wr,k⟩:=h
    refine ⟨_,(pss_one (ps_while PassesOwn.never (pt_truthK K rfl (pe_fld (pv 0) rfl)) (pss_one (ps_expr (pe_methX0 (dvs:=[]) M_Wheel_make_choice (by simp) T.cl_Wheel (hr.mono (by decide)) passN (pv 0)))))),?_⟩
    show tWhile _ _ _ [some (.ref p)] H
    refine while_g (fun n σ H'=>∃ G' y qs' gs',σ = [some (.ref p)]∧y.2.1.length=n∧Wl c_Wheel c_Tide H' p td pe ql gl st y qs' gs' m∧WRun st TT G' y D B∧KeptW p td pe ql gl H H'∧KeptT td H H'∧Sw.runF st none y.2.1.length y=Sw.runF st none x.2.1.length x) ⟨G,x,qs,gs,rfl,rfl,W,wr,Same.keptW (Same.refl _),fun o e=>e,rfl⟩ ?_
    rintro n σ H1 ⟨G',y,qs',gs',rfl,rfl,W1,wr1,k1,j1,er⟩ Z z1 z2
    obtain ⟨dx,fs,h1,fw⟩:=W1.ob
    have lq:=W1.lenQ
    walk_at "rd"
    refine fldR_at h1 T.cl_Wheel T.na_Wheel_queue fw.qu ?_
    have nm:fs.lookup ("make_choice" : Str)=none:=fw.no _ (by decide +kernel) (by decide +kernel) (by decide +kernel) (by decide +kernel)
    refine ⟨_,truL (.of W1.hq),?_⟩
    by_cases ne:y.2.1 = []
    · have e0:qs' = []:=List.eq_nil_of_length_eq_zero (by rw [lq,ne]; rfl)
      subst e0
      refine z2 _ ?_
      have ng:¬ Sw.goOn none y:=fun z=>z.1 ne
      refine k [] gs' H1 k1 j1 ?_
      rw [← er,Sw.runF_stop ng]
      exact W1
    · have e1:qs'≠[]:=fun z=>ne (List.eq_nil_of_length_eq_zero (by rw [← lq,z]; rfl))
      have e2:(!(qs'.map V.ref).isEmpty)=true:=by simpa using e1
      rw [e2]
      refine z1 _ ?_
      have go:Sw.goOn none y:=⟨ne,fun b e=>by cases e⟩
      obtain ⟨G2,wr2,ln⟩:=wr1.step ne
      walk_at "rd"
      refine meth_at h1 nm ?_
      have l1:=wr1.l1
      refine ⟨p,td,pe,ql,gl,st,y,qs',gs',m,D,B,TT,G',rfl,W1,wr1.ok,wr1.wo,ne,by omega,by omega,wr1.t1,wr1.zi,fun qs2 gs2 H2 k2 j2 W2=>?_⟩
      refine ⟨_,?_,G2,_,rfl,⟨qs2,gs2,W2⟩,wr2,k1.trans k2,j1.trans j2,?_⟩
      · omega
      · rw [← er,← ln,Sw.runF_go go]
def spTake (C CT:Addr):Sp:=fun vs H Q _=>∃ p pl pc q td pe ql gl s x qs gs m D B,vs = [.ref p,.int ((pl:Nat):Int),.ref pc]∧H pc=some (.tup (q4 q))∧Wl C CT H p td pe ql gl s x qs gs m∧TideOk D B s.lat s.re s.us∧(∀ w e,s.en w=some e→Sw.Grd D e∧0≤e∧e≤(B:Rat)) ∧
  s.lat≤q.1∧q.1<1000000000000000∧1≤q.2.2.1∧q.2.2.1≤1000000∧1≤q.2.2.2∧q.2.2.2≤1000000∧m≤99∧x.2.1.length≤100 ∧
  ∀ qs' H',KeptW p td pe ql gl H H'→(∀ b xs,H b=some (.lst xs)→NoU CT H' td b)→Wl C CT H' p td pe ql gl (s.come q) (x.1,x.2.1++[(pl,q,s.beg q,s.fin q)],x.2.2) qs' gs (m+1)→Q .non H'
theorem m_Wheel_take_in (T:Txt K mg c_Tide c_Wheel):MethD P w K mg base (CXX P w) 6 c_Wheel "take_in" ["self", "place", "piece"] [[]] (spTake c_Wheel c_Tide):=by
  have M_Tide_come:=m_Tide_come (P:=P) (w:=w) (base:=base) T
  refine T.me_Wheel_take_in.okN (k:=5) sc_Wheel_take_in (fun vs H Q E h=>?_) (fun f cdv A outer s H vs Q E hr h=>?_)
  · obtain ⟨p,pl,pc,q,td,pe,ql,gl,s,x,qs,gs,m,D,B,rfl,_⟩:=h
    rfl
  · obtain ⟨p,pl,pc,q,td,pe,ql,gl,st,x,qs,gs,m,D,B,rfl,hpc,W,ok,eok,hl,t1,a1,a2,a3,a4,hm,lx,k⟩:=h
    refine ⟨_,(pss_one (ps_expr (pe_bm PySem.F.plainAttrs_list PySem.F.slot_list_append PySem.F.type_list_append mt_append (pe_fld (pv 0) rfl) (pa_cons (pe_tup (pa_cons (pv 1) (pa_cons (pv 2) (pa_cons (pe_methX (dvs:=[]) M_Tide_come (by simp) T.cl_Tide (hr.mono (by decide)) passN (pe_fld (pv 0) rfl) (pa_cons (pv 2) pa_nil)) pa_nil)))) pa_nil)))),?_⟩
    show tDrop _ _ [some (.ref p),some (.int ((pl:Nat):Int)),some (.ref pc)] H
    obtain ⟨dx,fs,h1,fw⟩:=W.ob
    have lq:=W.lenQ
    obtain ⟨dt,ft,kvs,pr,pu,t2,e2,tw⟩:=Td.ob W.tk
    walk_at "rd"
    refine fldR_at h1 T.cl_Wheel T.na_Wheel_queue fw.qu ?_
    refine ⟨tyL_at W.hq,?_⟩
    refine fldR_at h1 T.cl_Wheel T.na_Wheel_tide fw.td ?_
    refine meth_at t2 (tw.no _ (by decide +kernel) (by decide +kernel) (by decide +kernel) (by decide +kernel)) ?_
    refine ⟨td,pc,q.1,q.2.1,q.2.2.1,q.2.2.2,pe,st.lat,st.re,st.us,st.en,m,D,B,rfl,hpc,W.tk,ok,eok,hl,t1,a1,a2,a3,a4,hm,fun pq pb pq2 H1 kp td1 g3 g4 g5 nu=>?_⟩
    have kt:∀ b xs,H b=some (.tup xs)→H1 b=some (.tup xs):=fun b xs e=>kp _ _ (ne_of e t2 (by intro z; cases z)) (ne_of e e2 (by intro z; cases z)) e
    have kl:∀ b xs,H b=some (.lst xs)→H1 b=some (.lst xs):=fun b xs e=>kp _ _ (ne_of e t2 (by intro z; cases z)) (ne_of e e2 (by intro z; cases z)) e
    have W1:Wl c_Wheel c_Tide H1 p td pe ql gl (st.come q) x qs gs (m+1):=⟨⟨dx,fs,kp _ _ (Ne.symm W.d2) (ne_of h1 e2 (by intro z; cases z)) h1,fw⟩,td1,nu _ _ W.hq,nu _ _ W.hg,kl _ _ W.hq,Paired.mapP W.rq fun _ _ z=>z.keep kt,kl _ _ W.hg,tupsF_keep W.rg kt,W.d1,W.d2⟩
    have k1:KeptW p td pe ql gl H H1:=fun b o _ n2 n3 _ _ e=>kp b o n2 n3 e
    have hpc:=kt _ _ hpc
    have tW1:=W1.td
    intro tp ftp
    have s2:=same_new (o:=.tup [.int ((pl:Nat):Int),.ref pc,.ref pq]) ftp
    have W2:=W1.same s2
    have wit:WIt (upd H1 tp (.tup [.int ((pl:Nat):Int),.ref pc,.ref pq])) tp (pl,q,st.beg q,st.fin q):=⟨pc,pq,pb,pq2,upd_same,s2 _ _ hpc,s2 _ _ g3,s2 _ _ g4,s2 _ _ g5⟩
    have k2:=k1.trans (Same.keptW s2)
    have nu2:∀ b xs,H b=some (.lst xs)→NoU c_Tide (upd H1 tp (.tup [.int ((pl:Nat):Int),.ref pc,.ref pq])) td b:=fun b xs e=>(nu b xs e).same tW1 s2
    generalize upd H1 tp (.tup [.int ((pl:Nat):Int),.ref pc,.ref pq])=H2 at W2 wit k2 nu2 ⊢
    refine app_at W2.hq (by rw [List.length_map]; omega) ?_
    have W3:=W2.setQ (paired_snoc wit W2.rq)
    have em:(qs++[tp]).map V.ref=qs.map V.ref++[.ref tp]:=by rw [List.map_append]; rfl
    rw [em] at W3
    obtain ⟨dt3,ft3,o3⟩:=W2.td
    exact k _ _ (k2.trans (upd_keptW (.inr (.inl rfl)))) (fun b xs e=>(nu2 b xs e).on o3 (by rw [upd_ne (ne_of o3 W2.hq (by intro z; cases z))]; exact o3)) W3
theorem NoU.fresh {C:Addr} {H:Hp} {p pe l:Addr} {lat:Int} {re:Rat} {us:List Sw.T3} {en:Int→Option Rat} {m:Nat} (h:Td C H p pe lat re us en m) (f:H l=none):NoU C H p l:=fun dx fs pu h1 h2=>by
  obtain ⟨dx',fs',pr,pu',ps,kvs,g1,g2,g3,g4,_⟩:=h.ex
  rw [g1] at h1
  cases h1
  rw [g2.unf] at h2
  cases h2
  exact ne_of_none g4 f
def spWI (C CT:Addr):Sp:=fun vs H Q _=>∃ x dx,vs = [.ref x]∧H x=some (.ins C dx [])∧∀ td pe ql gl H',But x H H'→H td=none→H pe=none→H ql=none→H gl=none→Wl C CT H' x td pe ql gl Sw.Ti.nil (0,[],[]) [] [] 0→Q .non H'
theorem k_Wheel (T:Txt K mg c_Tide c_Wheel):MkD P w K mg base (CXX P w) 5 c_Wheel ["self"] [[]] (spWI c_Wheel c_Tide):=by
  have K_Tide:=k_Tide (P:=P) (w:=w) (base:=base) T
  refine T.in_Wheel.okN (k:=4) sc_Wheel_init (fun vs H Q E h=>?_) (fun f cdv A outer s H vs Q E hr h=>?_)
  · obtain ⟨x,dx,rfl,_⟩:=h
    rfl
  · obtain ⟨x,dx,rfl,hx,k⟩:=h
    refine ⟨_,(pss_cons (ps_fld (pv 0) (pe_makeX0 (dvs:=[]) K_Tide (by simp) (hr.mono (by decide)) passN rfl T.mg_Tide) rfl) (pss_cons (ps_fld (pv 0) pe_int rfl) (pss_cons (ps_fld (pv 0) (pe_lst pa_nil) rfl) (pss_one (ps_fld (pv 0) (pe_lst pa_nil) rfl))))),?_⟩
    show tSeq _ _ _ [some (.ref x)] H
    refine seq_step fun R hR=>?_
    walk_at "rd"
    intro td dt n1 n2 n3
    have s0:=same_make (C:=c_Tide) n1 n2
    refine ⟨td,dt,rfl,upd_same,fun pe H1 b1 fpe T1=>⟨rfl,?_⟩⟩
    have nx:x≠td:=ne_of_none hx n1
    have hx1:=b1 x _ nx (s0 _ _ hx)
    have npe:H pe=none:=s0.free fpe
    have q1:Same H H1:=fun b o e=>b1 b o (ne_of_none e n1) (s0 _ _ e)
    clear s0 b1 fpe
    have l1:=putF_len' (fs:=[]) (f := "tide") (v:=.ref td)
    simp only [List.length_nil] at l1
    refine set_at hx1 T.cl_Wheel T.na_Wheel_tide (by simp) (hR _ _ ?_)
    clear hR
    have l2:=putF_len' (fs:=putF "tide" (.ref td) []) (f := "free") (v:=.int 0)
    refine seq_step fun R hR=>?_
    walk_at "rd"
    refine set_at upd_same T.cl_Wheel T.na_Wheel_free (by omega) (hR _ _ ?_)
    clear hR
    rw [upd_upd]
    have T2:=Td.but T1 (but_upd (o:=.ins c_Wheel dx (putF "free" (.int 0) (putF "tide" (.ref td) [])))) hx1 (Ne.symm nx)
    have b2:But x H (upd H1 x (.ins c_Wheel dx (putF "free" (.int 0) (putF "tide" (.ref td) [])))):=fun b o n e=>by rw [upd_ne n]; exact q1 _ _ e
    have hx2:upd H1 x (.ins c_Wheel dx (putF "free" (.int 0) (putF "tide" (.ref td) []))) x=some (.ins c_Wheel dx (putF "free" (.int 0) (putF "tide" (.ref td) []))):=upd_same
    generalize upd H1 x (.ins c_Wheel dx (putF "free" (.int 0) (putF "tide" (.ref td) [])))=H2 at T2 b2 hx2 ⊢
    clear T1 hx1 q1
    refine seq_step fun R hR=>?_
    walk_at "rd"
    intro ql fql
    have l3:=putF_len' (fs:=putF "free" (.int 0) (putF "tide" (.ref td) [])) (f := "queue") (v:=.ref ql)
    have s3:=same_new (o:=.lst []) fql
    have nql:H ql=none:=by
      cases e:H ql with
      | none=>rfl
      | some o =>
        have:ql≠x:=fun z=>by rw [z,hx2] at fql; cases fql
        rw [b2 ql o this e] at fql
        cases fql
    refine set_at (s3 _ _ hx2) T.cl_Wheel T.na_Wheel_queue (by omega) (hR _ _ ?_)
    clear hR
    have U3:=NoU.fresh T2 fql
    obtain ⟨d2,f2,_,_,_,t2,_⟩:=Td.ob T2
    have T3:=Td.but (T2.same s3) (but_upd (o:=.ins c_Wheel dx (putF "queue" (.ref ql) (putF "free" (.int 0) (putF "tide" (.ref td) []))))) (s3 _ _ hx2) (Ne.symm nx)
    have t3:upd (upd H2 ql (.lst [])) x (.ins c_Wheel dx (putF "queue" (.ref ql) (putF "free" (.int 0) (putF "tide" (.ref td) [])))) td=some (.ins c_Tide d2 f2):=by rw [upd_ne (Ne.symm nx)]; exact s3 _ _ t2
    have U3:=U3.on t2 t3
    have b3:But x H (upd (upd H2 ql (.lst [])) x (.ins c_Wheel dx (putF "queue" (.ref ql) (putF "free" (.int 0) (putF "tide" (.ref td) []))))):=fun b o n e=>by rw [upd_ne n]; exact s3 _ _ (b2 b o n e)
    have hx3:upd (upd H2 ql (.lst [])) x (.ins c_Wheel dx (putF "queue" (.ref ql) (putF "free" (.int 0) (putF "tide" (.ref td) [])))) x=some (.ins c_Wheel dx (putF "queue" (.ref ql) (putF "free" (.int 0) (putF "tide" (.ref td) [])))):=upd_same
    have nxq:ql≠x:=fun z=>by rw [z,hx2] at fql; cases fql
    have hq3:upd (upd H2 ql (.lst [])) x (.ins c_Wheel dx (putF "queue" (.ref ql) (putF "free" (.int 0) (putF "tide" (.ref td) [])))) ql=some (.lst []):=by rw [upd_ne nxq,upd_same]
    generalize upd (upd H2 ql (.lst [])) x (.ins c_Wheel dx (putF "queue" (.ref ql) (putF "free" (.int 0) (putF "tide" (.ref td) []))))=H3 at T3 U3 b3 hx3 hq3 t3 ⊢
    clear T2 t2 s3 fql b2 hx2
    walk_at "rd"
    intro gl fgl
    have s4:=same_new (o:=.lst []) fgl
    have ngl:H gl=none:=by
      cases e:H gl with
      | none=>rfl
      | some o =>
        have:gl≠x:=fun z=>by rw [z,hx3] at fgl; cases fgl
        rw [b3 gl o this e] at fgl
        cases fgl
    refine set_at (s4 _ _ hx3) T.cl_Wheel T.na_Wheel_gone (by omega) ?_
    have U4:=NoU.fresh T3 fgl
    have T4:=Td.but (T3.same s4) (but_upd (o:=.ins c_Wheel dx (putF "gone" (.ref gl) (putF "queue" (.ref ql) (putF "free" (.int 0) (putF "tide" (.ref td) [])))))) (s4 _ _ hx3) (Ne.symm nx)
    have t4:upd (upd H3 gl (.lst [])) x (.ins c_Wheel dx (putF "gone" (.ref gl) (putF "queue" (.ref ql) (putF "free" (.int 0) (putF "tide" (.ref td) []))))) td=some (.ins c_Tide d2 f2):=by rw [upd_ne (Ne.symm nx)]; exact s4 _ _ t3
    have nxg:gl≠x:=fun z=>by rw [z,hx3] at fgl; cases fgl
    refine k td pe ql gl _ (fun b o n e=>by rw [upd_ne n]; exact s4 _ _ (b3 b o n e)) n1 npe nql ngl ⟨⟨dx,_,upd_same,FW.mk0 td ql gl⟩,T4,U3.on t3 t4,U4.on t3 t4,?_,.nil,?_,.nil,ne_of_none hq3 fgl,Ne.symm nx⟩
    · rw [upd_ne nxq]; exact s4 _ _ hq3
    · rw [upd_ne nxg,upd_same]; rfl
theorem d_overflows (T:Txt K mg c_Tide c_Wheel):Def P w K mg base (CXX P w) 2 "overflows" ["wheel", "piece", "rooms"] (fun _ _ _ _=>False):=by
  refine T.src_overflows.okN (k:=1) sc_overflows (fun vs H Q E h=>h.elim) (fun f cdv A outer s H vs Q E hr h=>h.elim)
theorem DI.wr {n:Nat} {M:Int} {c:Nat} {s:Sw.Ti} {k:Nat} {T G:List Sw.WI} {D:Int} {x:Sw.WS} (h:Sw.DI n M c s k T G D x) (hk:k≤60):WRun s T G x D (k*1000000):=by
  have fb:=h.fb
  have ln:=h.ln
  exact ⟨h.ro.ok,h.wo,by omega,h.zi,fun i hi=>by have:=h.tb i hi; omega,by omega⟩
def spDealt:Sp:=fun vs H Q _=>∃ l ps qs n M a c,vs = [.ref l,.non]∧Row H l ps qs∧Sw.Good n M a c qs∧∀ r ga da gs H',Same H H'→H' r=some (.tup [.ref ga,.ref da])→H' ga=some (.lst (gs.map V.ref))→TupsF goE H' gs (Sw.dealtF qs).2.2→H' da=some (.lst [])→H ga=none→H da=none→ga≠da→Q (.ref r) H'
theorem d_dealt (T:Txt K mg c_Tide c_Wheel):DefD P w K mg base (CXX P w) 7 "dealt" ["row", "rooms"] [[],[.non]] spDealt:=by
  have K_Wheel:=k_Wheel (P:=P) (w:=w) (base:=base) T
  have M_Wheel_run_up_to:=m_Wheel_run_up_to (P:=P) (w:=w) (base:=base) T
  have M_Wheel_run_out:=m_Wheel_run_out (P:=P) (w:=w) (base:=base) T
  have M_Wheel_take_in:=m_Wheel_take_in (P:=P) (w:=w) (base:=base) T
  have D_overflows:=d_overflows (P:=P) (w:=w) (base:=base) T
  refine T.src_dealt.okN (k:=6) sc_dealt (fun vs H Q E h=>?_) (fun f cdv A outer s H vs Q E hr h=>?_)
  · obtain ⟨l,ps,qs,n,M,a,c,rfl,_⟩:=h
    rfl
  · obtain ⟨l,ps,qs,n,M,a,c,rfl,R0,g,k⟩:=h
    refine ⟨_,(pss_cons (ps_set (i:=2) sc_dealt.nd rfl (by first|left;rfl|right;rfl) (pe_makeX0 (dvs:=[]) K_Wheel (by simp) (hr.mono (by decide)) passN rfl T.mg_Wheel)) (pss_cons (ps_set (i:=3) sc_dealt.nd rfl (by first|left;rfl|right;rfl) (pe_lst pa_nil)) (pss_cons (ps_for PassesOwn.never rfl (pi_enumK K rfl rfl T.no_enumerate (pa_cons (pv 0) pa_nil)) (pg_tupK (n:=2) K rfl rfl (pgs_cons (pg_name (i:=4) sc_dealt.nd rfl (by first|left;rfl|right;rfl)) (pgs_cons (pg_name (i:=5) sc_dealt.nd rfl (by first|left;rfl|right;rfl)) pgs_nil))) (pss_cons (ps_expr (pe_methX (dvs:=[]) M_Wheel_run_up_to (by simp) T.cl_Wheel (hr.mono (by decide)) passN (pv 2) (pa_cons (pe_ix (ix_tupK K rfl) (pv 5) pe_int (fun _ _=>rfl)) pa_nil))) (pss_one (ps_if (PW.pt (pw_and (pt_cmpR op_notN (pv 1) pe_non (nomark _)) (pw_and1 (pt_val (pe_callX D_overflows (hr.mono (by decide)) rfl passN (pa_cons (pv 2) (pa_cons (pv 5) (pa_cons (pv 1) pa_nil)))))))) (pss_one (ps_expr (pe_bm PySem.F.plainAttrs_list PySem.F.slot_list_append PySem.F.type_list_append mt_append (pv 3) (pa_cons (pv 4) pa_nil)))) (pss_one (ps_expr (pe_methX (dvs:=[]) M_Wheel_take_in (by simp) T.cl_Wheel (hr.mono (by decide)) passN (pv 2) (pa_cons (pv 4) (pa_cons (pv 5) pa_nil))))))))) (pss_cons (ps_expr (pe_methX0 (dvs:=[]) M_Wheel_run_out (by simp) T.cl_Wheel (hr.mono (by decide)) passN (pv 2))) (pss_one (ps_ret (pe_tup (pa_cons (pe_fld (pv 2) rfl) (pa_cons (pv 3) pa_nil))))))))),?_⟩
    show tSeq _ _ _ [some (.ref l),some .non,none,none,none,none] H
    have n60:qs.length≤60:=by have:=g.ln; have:=g.F.n1; omega
    have lr:=R0.r.len
    refine seq_step fun R hR=>?_
    walk_at "rd"
    intro p dx f1 f2 f3
    have s0:=same_make (C:=c_Wheel) f1 f2
    refine ⟨p,dx,rfl,upd_same,fun td pe ql gl H1 b1 ntd npe nql ngl W=>⟨rfl,hR _ _ ?_⟩⟩
    clear hR
    have q1:Same H H1:=fun b o e=>b1 b o (ne_of_none e f1) (s0 _ _ e)
    have ntd:=s0.free ntd
    have npe:=s0.free npe
    have nql:=s0.free nql
    have ngl:=s0.free ngl
    clear b1 s0 f2 f3
    refine seq_step fun R hR=>?_
    walk_at "rd"
    intro da fda
    refine hR _ _ ?_
    clear hR
    have s1:=same_new (o:=.lst []) fda
    obtain ⟨dx1,fs1,o1,_⟩:=W.ob
    obtain ⟨dt1,ft1,kv1,_,_,o2,o3,_⟩:=Td.ob W.tk
    have nda1:da≠p:=(ne_of_none o1 fda).symm
    have nda2:da≠td:=(ne_of_none o2 fda).symm
    have nda3:da≠pe:=(ne_of_none o3 fda).symm
    have nda4:da≠ql:=(ne_of_none W.hq fda).symm
    have nda5:da≠gl:=(ne_of_none W.hg fda).symm
    have nda:H da=none:=q1.free fda
    have W:=W.same s1
    have hda:upd H1 da (.lst []) da=some (.lst []):=upd_same
    have q2:=q1.trans s1
    generalize upd H1 da (.lst [])=H2 at W hda q2 ⊢
    clear q1 s1 fda o1 o2 o3
    have kH:∀ {Ha Hb:Hp},Same H Ha→KeptW p td pe ql gl Ha Hb→Same H Hb:=fun sa kb b o e=>kb b o (ne_of_none e f1) (ne_of_none e ntd) (ne_of_none e npe) (ne_of_none e nql) (ne_of_none e ngl) (sa _ _ e)
    refine seq_step fun R hR=>?_
    refine for_step fun Z hZ=>?_
    walk_at "rd"
    refine ⟨⟨_,.of (q2 _ _ R0.hl)⟩,hZ _ _ ?_⟩
    refine for_enum (xs:=ps.map V.ref) (fun k σ H'=>∃ v4 v5 qs' gs',σ = [some (.ref l),some .non,some (.ref p),some (.ref da),v4,v5]∧Same H H'∧H' da=some (.lst [])∧Wl c_Wheel c_Tide H' p td pe ql gl (Sw.Ti.nil.after (qs.take k)) (Sw.dealS qs k) qs' gs' k) ⟨none,none,[],[],rfl,q2,hda,W⟩ (fun i σ H' _ ⟨_,_,_,_,_,sm,_⟩=>.of (sm _ _ R0.hl)) ?_ ?_
    · clear W hda q2
      rintro i y σ H3 pt hy ⟨v4,v5,qs',gs',rfl,sm,hda,W⟩ hpt
      obtain ⟨pc,hpc,rfl⟩:∃ p,ps[i]? = some p∧V.ref p=y:=by simpa using hy
      obtain ⟨q,hq,hq2⟩:=R0.r.get hpc
      have hi:i<qs.length:=(List.getElem?_eq_some_iff.mp hq).1
      obtain ⟨TT,G,D,di⟩:=Sw.deal_ok g (k:=i) (by omega)
      have sn:=same_new (o:=.tup [.int i,.ref pc]) hpt
      have sm:=sm.trans sn
      have hda:=sn _ _ hda
      have W:=W.same sn
      refine ⟨pt,_,rfl,.of upd_same,rfl,_,_,rfl,_,_,rfl,rfl,?_⟩
      generalize upd H3 pt (.tup [.int i,.ref pc])=H4 at sm hda W ⊢
      clear sn hpt
      show tSeq _ _ _ [some (.ref l),some .non,some (.ref p),some (.ref da),some (.int (i:Int)),some (.ref pc)] H4
      refine nx_step fun N hN=>?_
      obtain ⟨dx1,fs1,o1,fw⟩:=W.ob
      refine seq_step fun R hR=>?_
      walk_at "rd"
      refine meth_at o1 (fw.no _ (by decide +kernel) (by decide +kernel) (by decide +kernel) (by decide +kernel)) ?_
      refine ixT_at (.of (sm _ _ hq2)) rfl ?_
      refine ⟨p,q.1,td,pe,ql,gl,_,_,qs',gs',i,D,_,TT,G,rfl,W,DI.wr di (by omega),fun qs2 gs2 H5 k5 _ W5=>hR _ _ ?_⟩
      clear hR
      obtain ⟨G2,d2,en2⟩:=di.run (some q.1) _ (Nat.le_refl _)
      have sm:=kH sm k5
      have hda:=k5 _ _ nda1 nda2 nda3 nda4 nda5 hda
      obtain ⟨dx5,fs5,o5,fw5⟩:=W5.ob
      have pc0:=g.pc q (List.mem_of_getElem? hq)
      obtain ⟨p0,p1,n1,n2,s1,s2⟩:=pc0
      have M2:=g.F.M2
      have hl:=Sw.lat_to (s:=Sw.Ti.nil) (fun q h=>(g.pc q h).1) g.pw hq
      have ln2:=d2.ln
      walk_at "rd"
      refine meth_at o5 (fw5.no _ (by decide +kernel) (by decide +kernel) (by decide +kernel) (by decide +kernel)) ?_
      refine ⟨p,i,pc,q,td,pe,ql,gl,_,_,qs2,gs2,i,D,_,rfl,sm _ _ hq2,W5,d2.ro.ok,d2.ro.eok,hl,by omega,n1,n2,s1,by omega,by omega,by omega,fun qs3 H6 k6 _ W6=>?_⟩
      walk_at "rd"
      refine hN _ _ ⟨_,_,qs3,gs2,rfl,kH sm k6,k6 _ _ nda1 nda2 nda3 nda4 nda5 hda,?_⟩
      rw [take_succ_of hq,Sw.Ti.after_snoc,Sw.dealS_go hq]
      exact W6
    · rintro σ H3 ⟨v4,v5,qs',gs',rfl,sm,hda,W⟩
      rw [List.length_map,lr,List.take_of_length_le (Nat.le_refl _)] at W
      refine hR _ _ ?_
      clear hR
      obtain ⟨TT,G,D,di⟩:=Sw.deal_ok g (k:=qs.length) (Nat.le_refl _)
      rw [List.take_of_length_le (Nat.le_refl _)] at di
      obtain ⟨dx1,fs1,o1,fw⟩:=W.ob
      refine seq_step fun R hR=>?_
      walk_at "rd"
      refine meth_at o1 (fw.no _ (by decide +kernel) (by decide +kernel) (by decide +kernel) (by decide +kernel)) ?_
      refine ⟨p,td,pe,ql,gl,_,_,qs',gs',qs.length,D,_,TT,G,rfl,W,DI.wr di n60,fun qs2 gs2 H4 k4 _ W4=>hR _ _ ?_⟩
      clear hR
      have sm:=kH sm k4
      have hda:=k4 _ _ nda1 nda2 nda3 nda4 nda5 hda
      obtain ⟨dx4,fs4,o4,fw4⟩:=W4.ob
      walk_at "rd"
      refine fldR_at o4 T.cl_Wheel T.na_Wheel_gone fw4.go ?_
      intro r fr1
      have s5:=same_new (o:=.tup [.ref gl,.ref da]) fr1
      exact k r gl da gs2 _ (sm.trans s5) upd_same (s5 _ _ W4.hg) (tupsF_same W4.rg s5) (s5 _ _ hda) ngl nda nda5.symm
def spTagsOf:Sp:=fun vs H Q _=>∃ n M a c l ps qs,vs = [.ref l]∧Row H l ps qs∧Sw.Fit n M a c∧qs.length≤n∧(∀ q∈qs,Sw.PcOk M q)∧qs.Pairwise (fun a b=>a.1≤b.1)∧∀ tl tp H',Same H H'→TgL H' tl tp (Sw.Ti.nil.tags qs)→Q (.ref tl) H'
theorem lat_le {qs:List Q4}:∀ {s:Sw.Ti} {i:Nat} {q:Q4},(∀ q∈qs,s.lat≤q.1)→qs.Pairwise (fun a b=>a.1≤b.1)→qs[i]? = some q→(s.after (qs.take i)).lat≤q.1:=by
  induction qs with
  | nil=>intro s i q _ _ e; simp at e
  | cons x r ih =>
    intro s i q h0 hp e
    obtain ⟨h1,h2⟩:=List.pairwise_cons.mp hp
    cases i with
    | zero =>
      have:x=q:=by simpa using e
      subst this
      exact h0 x (by simp)
    | succ j =>
      have e:r[j]? = some q:=by simpa using e
      exact ih (s:=s.come x) (fun y hy=>h1 y hy) h2 e
theorem d_tags_of (T:Txt K mg c_Tide c_Wheel):Def P w K mg base (CXX P w) 6 "tags_of" ["row"] spTagsOf:=by
  have K_Tide:=k_Tide (P:=P) (w:=w) (base:=base) T
  have M_Tide_come:=m_Tide_come (P:=P) (w:=w) (base:=base) T
  refine T.src_tags_of.okN (k:=5) sc_tags_of (fun vs H Q E h=>?_) (fun f cdv A outer s H vs Q E hr h=>?_)
  · obtain ⟨n,M,a,c,l,ps,qs,rfl,_⟩:=h
    rfl
  · obtain ⟨n,M,a,c,l,ps,qs,rfl,R0,F,hn,hq,hp,k⟩:=h
    refine ⟨_,(pss_cons (ps_set (i:=1) sc_tags_of.nd rfl (by first|left;rfl|right;rfl) (pe_makeX0 (dvs:=[]) K_Tide (by simp) (hr.mono (by decide)) passN rfl T.mg_Tide)) (pss_one (ps_ret (pe_lc ["piece"] [("tide", 1)] rfl (by with_unfolding_all rfl) (by decide +kernel) rfl (by decide +kernel) (by exact ⟨rfl,True.intro⟩) (by with_unfolding_all rfl) ⟨⟨rfl,rfl,rfl⟩,True.intro⟩ (pi_listK K rfl (pv 0)) (fun _ _ _=>(pg_name (i:=0) (show (["piece", "tide"]:List Str).Nodup from by decide +kernel) rfl (by first|left;rfl|right;rfl))) (fun _ _ _=>pifs_nil) (fun _ _ _=>(pe_methX (dvs:=[]) M_Tide_come (by simp) T.cl_Tide (hr.mono (by decide)) passN (pv 1) (pa_cons (pv 0) pa_nil))))))),?_⟩
    show tSeq _ _ _ [some (.ref l),none] H
    have len:=R0.r.len
    have n6:=F.n1
    refine seq_step fun R hR=>?_
    walk_at "rd"
    intro x dx hx hdx ne
    refine ⟨x,dx,rfl,upd_same,fun pe H1 bt hpe td=>⟨rfl,hR _ _ ?_⟩⟩
    have sm0:Same H H1:=bt.same (same_make hx hdx) hx
    have npe:H pe=none:=(same_make hx hdx).free hpe
    clear bt hpe hdx
    walk_at "rd"
    refine ⟨⟨_,.of (R0.same sm0).hl⟩,fun Dl hDl=>?_⟩
    show CompG _ _ _ _ Dl [none,some (.ref x)] _ _
    have nDl:H Dl=none:=sm0.free hDl
    refine comp_walk (xs:=ps.map V.ref) (fun i τ H'=>∃ v tp D,τ = [v,some (.ref x)]∧Same H H'∧Td c_Tide H' x pe (Sw.Ti.nil.after (qs.take i)).lat (Sw.Ti.nil.after (qs.take i)).re (Sw.Ti.nil.after (qs.take i)).us (Sw.Ti.nil.after (qs.take i)).en i∧Sw.RunOk n M c (Sw.Ti.nil.after (qs.take i)) i D∧TgL H' Dl tp (Sw.Ti.nil.tags (qs.take i))∧tp.length=i) ⟨none,[],1,rfl,sm0.trans (same_new hDl),td.same (same_new hDl),Sw.RunOk.nil,⟨upd_same,.nil⟩,rfl⟩ (fun i τ H' _ ⟨_,_,_,_,sm,_⟩=>.of (sm _ _ R0.hl)) ?_ ?_
    · rintro i y τ H2 hy ⟨v,tp,D,rfl,sm,td,ro,tg,lt⟩
      obtain ⟨pp,hpp,rfl⟩:∃ p,ps[i]? = some p∧V.ref p=y:=by
        rw [List.getElem?_map] at hy
        cases e:ps[i]? with
        | none=>rw [e] at hy; cases hy
        | some z=>rw [e] at hy; exact ⟨z,rfl,Option.some.inj hy⟩
      have hi:i<ps.length:=(List.getElem?_eq_some_iff.mp hpp).1
      obtain ⟨q,hqi,hqp⟩:=R0.r.get hpp
      have po:=hq q (List.mem_of_getElem? hqi)
      obtain ⟨p0,p1,n1,n2,s1,s2⟩:=id po
      have M2:=F.M2
      have hl:=lat_le (s:=Sw.Ti.nil) (fun z hz=>(hq z hz).1) hp hqi
      obtain ⟨D',j,j0,eD,ro',_⟩:=ro.come F (by omega) po hl
      have et:qs.take (i+1)=qs.take i++[q]:=take_succ_of hqi
      rw [et,Sw.Ti.after_snoc,Sw.Ti.tags_snoc]
      generalize Sw.Ti.nil.after (qs.take i)=st at td ro ro' hl ⊢
      obtain ⟨dx2,fs2,kvs2,pr2,pu2,h1,h2,ft⟩:=Td.ob td
      walk_at "rd"
      refine meth_at h1 (ft.no _ (by decide +kernel) (by decide +kernel) (by decide +kernel) (by decide +kernel)) ?_
      refine ⟨x,pp,q.1,q.2.1,q.2.2.1,q.2.2.2,pe,st.lat,st.re,st.us,st.en,i,D,i*1000000,rfl,sm _ _ hqp,td,ro.ok,ro.eok,hl,by omega,n1,n2,s1,by omega,by omega,fun w qb qe H3 kp td' hw hb he nu=>?_⟩
      have sm3:Same H H3:=fun b o e=>kp b o (ne_of_none e hx) (ne_of_none e npe) (sm _ _ e)
      have hD3:H3 Dl=some (.lst (tp.map V.ref)):=kp _ _ (ne_of tg.hl h1 (by intro z; cases z)) (ne_of tg.hl h2 (by intro z; cases z)) tg.hl
      have kt:∀ b xs,H2 b=some (.tup xs)→upd H3 Dl (.lst (tp.map V.ref++[.ref w])) b=some (.tup xs):=fun b xs e=>by
        rw [upd_ne (ne_of e tg.hl (by intro z; cases z))]
        exact kp _ _ (ne_of e h1 (by intro z; cases z)) (ne_of e h2 (by intro z; cases z)) e
      have kt3:∀ b xs,H3 b=some (.tup xs)→upd H3 Dl (.lst (tp.map V.ref++[.ref w])) b=some (.tup xs):=fun b xs e=>by
        rw [upd_ne (ne_of e hD3 (by intro z; cases z))]; exact e
      refine ⟨_,hD3,line_lt (by rw [List.length_map]; omega),fun b o e=>?_,Td.list td' (nu _ _ tg.hl) hD3,⟨D',ro'⟩,tp++[w],⟨?_,paired_snoc ⟨qb,qe,kt3 _ _ hw,kt3 _ _ hb,kt3 _ _ he⟩ (Paired.mapP tg.r fun _ _ z=>z.keep kt)⟩,by rw [List.length_append]; simp [lt]⟩
      · rw [upd_ne (ne_of_none e nDl)]; exact sm3 _ _ e
      · rw [upd_same,List.map_append]; rfl
    · rintro τ H2 ⟨v,tp,D,rfl,sm,td,ro,tg,lt⟩
      rw [List.take_of_length_le (by rw [List.length_map]; omega)] at tg
      exact k _ _ _ sm tg
def spHeadsAt:Sp:=fun vs H Q _=>∃ l ps qs tl tp ts pm pk mo ma,vs = [.ref l,.ref tl,.ref pm,.ref pk]∧Row H l ps qs∧TgL H tl tp ts∧ts.length=qs.length∧qs.length≤60∧H pm=some (.tup (fq mo))∧H pk=some (.tup (fq ma))∧Sw.SzQ 5000 mo∧Sw.SzQ 5000 ma∧(∀ t∈ts,Sw.SzQ 5000 t.1∧Sw.SzQ 5000 t.2)∧(∀ q∈qs,0≤q.1∧q.1<100000000000000) ∧
  ∀ h H',Same H H'→H h=none→H' h=some (.lst ((Sw.hdP (fsOf qs ts) mo ma).map natI))→Q (.ref h) H'
theorem d_heads_at (T:Txt K mg c_Tide c_Wheel):Def P w K mg base (CXX P w) 2 "heads_at" ["row", "tags", "moment", "mark"] spHeadsAt:=by
  have D_under:=d_under (P:=P) (w:=w) (base:=base) T
  refine T.src_heads_at.okN (k:=1) sc_heads_at (fun vs H Q E h=>?_) (fun f cdv A outer s H vs Q E hr h=>?_)
  · obtain ⟨l,ps,qs,tl,tp,ts,pm,pk,mo,ma,rfl,_⟩:=h
    rfl
  · obtain ⟨l,ps,qs,tl,tp,ts,pm,pk,mo,ma,rfl,R0,TL,lt,lq,hm,hk,zm,zk,zt,zq,k⟩:=h
    refine ⟨_,(pss_cons (ps_set (i:=4) sc_heads_at.nd rfl (by first|left;rfl|right;rfl) (pe_lst pa_nil)) (pss_cons (ps_for PassesOwn.never rfl (pi_enumK K rfl rfl T.no_enumerate (pa_cons (pv 0) pa_nil)) (pg_tupK (n:=2) K rfl rfl (pgs_cons (pg_name (i:=5) sc_heads_at.nd rfl (by first|left;rfl|right;rfl)) (pgs_cons (pg_name (i:=6) sc_heads_at.nd rfl (by first|left;rfl|right;rfl)) pgs_nil))) (pss_cons (ps_set (i:=7) sc_heads_at.nd rfl (by first|left;rfl|right;rfl) (pe_ix (ix_tupK K rfl) (pe_ix (ix_listK K rfl) (pv 1) (pv 5) (fun _ _=>rfl)) pe_int (fun _ _=>rfl))) (pss_cons (ps_set (i:=8) sc_heads_at.nd rfl (by first|left;rfl|right;rfl) (pe_ix (ix_tupK K rfl) (pe_ix (ix_listK K rfl) (pv 1) (pv 5) (fun _ _=>rfl)) pe_int (fun _ _=>rfl))) (pss_cons (ps_set (i:=9) sc_heads_at.nd rfl (by first|left;rfl|right;rfl) (pe_not (pe_callX D_under (hr.mono (by decide)) rfl passN (pa_cons (pv 2) (pa_cons (pe_tup (pa_cons (pe_ix (ix_tupK K rfl) (pv 6) pe_int (fun _ _=>rfl)) (pa_cons pe_int pa_nil))) pa_nil))))) (pss_one (ps_if (PW.pt (pw_and (pt_val (pv 9)) (pw_and (pt_not (pt_val (pe_callX D_under (hr.mono (by decide)) rfl passN (pa_cons (pv 3) (pa_cons (pv 7) pa_nil))))) (pw_and1 (pt_val (pe_callX D_under (hr.mono (by decide)) rfl passN (pa_cons (pv 3) (pa_cons (pv 8) pa_nil)))))))) (pss_one (ps_expr (pe_bm PySem.F.plainAttrs_list PySem.F.slot_list_append PySem.F.type_list_append mt_append (pv 4) (pa_cons (pv 5) pa_nil)))) pss_nil)))))) (pss_one (ps_ret (pv 4))))),?_⟩
    show tSeq _ _ _ [some (.ref l),some (.ref tl),some (.ref pm),some (.ref pk),none,none,none,none,none,none] H
    have len:=R0.r.len
    refine seq_step fun R hR=>?_
    walk_at "rd"
    intro h hh
    refine hR _ _ ?_
    have s0:=same_new (o:=.lst []) hh
    have h0:upd H h (.lst []) h=some (.lst []):=upd_same
    generalize upd H h (.lst [])=H1 at s0 h0 ⊢
    refine seq_step fun R hR=>?_
    refine for_step fun Z hZ=>?_
    walk_at "rd"
    refine ⟨⟨_,.of (R0.same s0).hl⟩,hZ _ _ ?_⟩
    refine for_enum (xs:=ps.map V.ref) (fun i σ H'=>∃ v5 v6 v7 v8 v9,σ = [some (.ref l),some (.ref tl),some (.ref pm),some (.ref pk),some (.ref h),v5,v6,v7,v8,v9]∧Same H H'∧H' h=some (.lst (((List.range i).filter (hdI (fsOf qs ts) mo ma)).map natI))) ⟨none,none,none,none,none,rfl,s0,h0⟩ (fun i σ H' _ ⟨_,_,_,_,_,_,sm,_⟩=>.of (sm _ _ R0.hl)) ?_ ?_
    · rintro i x σ H2 p hx ⟨v5,v6,v7,v8,v9,rfl,sm,hL⟩ hp
      obtain ⟨pp,hpp,rfl⟩:∃ p,ps[i]? = some p∧V.ref p=x:=by simpa using hx
      obtain ⟨q,hq,hqp⟩:=R0.r.get hpp
      have hi:i<qs.length:=(List.getElem?_eq_some_iff.mp hq).1
      obtain ⟨t,hti⟩:∃ t,ts[i]? = some t:=⟨_,List.getElem?_eq_getElem (by omega)⟩
      obtain ⟨pt,hpt,pb,pe,g1,g2,g3⟩:=TL.item hti
      obtain ⟨z1,z2⟩:=zt t (List.mem_of_getElem? hti)
      obtain ⟨q0,q1⟩:=zq q (List.mem_of_getElem? hq)
      have eh:hdI (fsOf qs ts) mo ma i=Sw.hdB mo ma (q.1,t.1,t.2,q.2.2.2):=by unfold hdI; rw [fsOf_get hq hti]
      have er:=range_filter (hdI (fsOf qs ts) mo ma) i
      rw [eh] at er
      have sn:=same_new (o:=.tup [.int i,.ref pp]) hp
      have sm:=sm.trans sn
      have hL:=sn _ _ hL
      refine ⟨p,_,rfl,.of upd_same,rfl,?_⟩
      generalize upd H2 p (.tup [.int i,.ref pp])=H3 at sm hL ⊢
      clear sn
      walk_at "rd"
      refine seq_step fun R hR=>?_
      walk_at "rd"
      refine ixL_at (.of (sm _ _ TL.hl)) hpt (ixT_at (.of (sm _ _ g1)) rfl (hR _ _ ?_))
      refine seq_step fun R hR=>?_
      walk_at "rd"
      refine ixL_at (.of (sm _ _ TL.hl)) hpt (ixT_at (.of (sm _ _ g1)) rfl (hR _ _ ?_))
      refine seq_step fun R hR=>?_
      walk_at "rd"
      refine ixT_at (.of (sm _ _ hqp)) rfl ?_
      walk_at "rd"
      intro y hy
      have sn:=same_new (o:=.tup [.int q.1,.int 1]) hy
      have sm:=sm.trans sn
      have hL:=sn _ _ hL
      refine ⟨pm,y,mo,(q.1:Rat),rfl,sm _ _ hm,at_int (n:=q.1),zm,(szq_at q0 q1).mono (by decide),?_⟩
      generalize upd H3 y (.tup [.int q.1,.int 1])=H4 at sm hL ⊢
      clear sn
      walk_at "rd"
      refine hR _ _ ?_
      refine nx_step fun R hR=>?_
      have no:Sw.hdB mo ma (q.1,t.1,t.2,q.2.2.2)=false→R [some (.ref l),some (.ref tl),some (.ref pm),some (.ref pk),some (.ref h),some (.int i),some (.ref pp),some (.ref pb),some (.ref pe),some (.bl (!decide (mo<(q.1:Rat))))] H4:=fun e=>by
        refine hR _ _ ⟨⟨_,_,_,_,_,rfl⟩,sm,?_⟩
        rw [er,e,if_neg (by decide),List.append_nil]
        exact hL
      walk_at "rd"
      refine ite2 (fun c1=>no ?_) fun c1=>?_
      · cases e:Sw.hdB mo ma (q.1,t.1,t.2,q.2.2.2) with
        | false=>rfl
        | true =>
          obtain ⟨b,_⟩:=Sw.hdB_iff.mp e
          exact absurd c1 (by have:(q.1:Rat)≤mo:=b; grind)
      · refine ⟨pk,pb,ma,t.1,rfl,sm _ _ hk,sm _ _ g2,zk,z1,?_⟩
        walk_at "rd"
        refine ite2 (fun c2=>no ?_) fun c2=>?_
        · cases e:Sw.hdB mo ma (q.1,t.1,t.2,q.2.2.2) with
          | false=>rfl
          | true =>
            obtain ⟨_,b,_⟩:=Sw.hdB_iff.mp e
            exact absurd c2 (by have:t.1≤ma:=b; grind)
        refine ⟨pk,pe,ma,t.2,rfl,sm _ _ hk,sm _ _ g3,zk,z2,?_⟩
        walk_at "rd"
        refine ite2 (fun c3=>?_) fun c3=>no ?_
        · refine ⟨tyL_at hL,app_at hL ?_ (hR _ _ ⟨⟨_,_,_,_,_,rfl⟩,fun b o e=>?_,?_⟩)⟩
          · have:=List.length_filter_le (hdI (fsOf qs ts) mo ma) (List.range i)
            rw [List.length_range] at this
            rw [List.length_map]
            omega
          · rw [upd_ne (ne_of_none e hh)]; exact sm _ _ e
          · have e:Sw.hdB mo ma (q.1,t.1,t.2,q.2.2.2)=true:=Sw.hdB_iff.mpr ⟨by show (q.1:Rat)≤mo; grind,by show t.1≤ma; grind,c3⟩
            rw [upd_same,er,e,if_pos rfl,List.map_append]
            rfl
        · cases e:Sw.hdB mo ma (q.1,t.1,t.2,q.2.2.2) with
          | false=>rfl
          | true =>
            obtain ⟨_,_,b⟩:=Sw.hdB_iff.mp e
            exact absurd b c3
    · rintro σ H2 ⟨v5,v6,v7,v8,v9,rfl,sm,hL⟩
      refine hR _ _ ?_
      walk_at "rd"
      refine k h H2 sm hh ?_
      rw [hdP_eq,fsOf_len lt,← len,hL,List.length_map]
def spFirstEnd:Sp:=fun vs H Q _=>∃ tl tp ts hl,∃ hs:List Nat,∃ sh pm pk mo ma,∃ ef:Nat→Rat,vs = [.ref tl,.ref hl,.int sh,.ref pm,.ref pk]∧TgL H tl tp ts∧H hl=some (.lst (hs.map natI))∧hs≠[]∧hs.length≤60∧(∀ i∈hs,∃ t,ts[i]? = some t∧t.2=ef i∧Sw.SzQ 2400 (ef i))∧H pm=some (.tup (fq mo))∧H pk=some (.tup (fq ma)) ∧
  Sw.SzQ 2400 mo∧Sw.SzQ 2400 ma∧Sw.Sz 200 sh∧Sw.SzQ 2400 (Sw.minL (hs.map ef)-ma)∧Sw.SzQ 2400 ((Sw.minL (hs.map ef)-ma)*(sh:Rat)) ∧
  ∀ r H',Same H H'→H' r=some (.tup (fq (mo+(Sw.minL (hs.map ef)-ma)*(sh:Rat))))→Q (.ref r) H'
theorem d_first_end (T:Txt K mg c_Tide c_Wheel):Def P w K mg base (CXX P w) 4 "first_end" ["tags", "heads", "shares", "moment", "mark"] spFirstEnd:=by
  have D_least:=d_least (P:=P) (w:=w) (base:=base) T
  have D_minus:=d_minus (P:=P) (w:=w) (base:=base) T
  have D_times:=d_times (P:=P) (w:=w) (base:=base) T
  have D_plus:=d_plus (P:=P) (w:=w) (base:=base) T
  refine T.src_first_end.okN (k:=3) sc_first_end (fun vs H Q E h=>?_) (fun f cdv A outer s H vs Q E hr h=>?_)
  · obtain ⟨tl,tp,ts,hl,hs,sh,pm,pk,mo,ma,ef,rfl,_⟩:=h
    rfl
  · obtain ⟨tl,tp,ts,hl,hs,sh,pm,pk,mo,ma,ef,rfl,TL,hh,hne,hlen,he,hm,hk,zm,zk,zs,zw,zr,k⟩:=h
    refine ⟨_,(pss_cons (ps_set (i:=5) sc_first_end.nd rfl (by first|left;rfl|right;rfl) (pe_callX D_minus (hr.mono (by decide)) rfl passN (pa_cons (pe_callX D_least (hr.mono (by decide)) rfl passN (pa_cons (pe_lc ["place"] [("tags", 0)] rfl (by with_unfolding_all rfl) (by decide +kernel) rfl (by decide +kernel) (by exact ⟨rfl,True.intro⟩) (by with_unfolding_all rfl) ⟨⟨rfl,rfl,rfl⟩,True.intro⟩ (pi_listK K rfl (pv 1)) (fun _ _ _=>(pg_name (i:=0) (show (["place", "tags"]:List Str).Nodup from by decide +kernel) rfl (by first|left;rfl|right;rfl))) (fun _ _ _=>pifs_nil) (fun _ _ _=>(pe_ix (ix_tupK K rfl) (pe_ix (ix_listK K rfl) (pv 1) (pv 0) (fun _ _=>rfl)) pe_int (fun _ _=>rfl)))) pa_nil)) (pa_cons (pv 4) pa_nil)))) (pss_one (ps_ret (pe_callX D_plus (hr.mono (by decide)) rfl passN (pa_cons (pv 3) (pa_cons (pe_callX D_times (hr.mono (by decide)) rfl passN (pa_cons (pv 5) (pa_cons (pe_tup (pa_cons (pv 2) (pa_cons pe_int pa_nil))) pa_nil))) pa_nil)))))),?_⟩
    show tSeq _ _ _ [some (.ref tl),some (.ref hl),some (.int sh),some (.ref pm),some (.ref pk),none] H
    refine seq_step fun R hR=>?_
    walk_at "rd"
    refine ⟨⟨_,.of hh⟩,fun Dl hDl=>?_⟩
    refine comp_walk (xs:=hs.map natI) (fun i τ H'=>∃ v es,τ = [v,some (.ref tl)]∧Same H H'∧Lst fq H' Dl es ((hs.take i).map ef)∧es.length=i) ⟨none,[],rfl,same_new hDl,⟨upd_same,.nil⟩,rfl⟩ (fun i τ H' _ ⟨_,_,_,sm,_⟩=>.of (sm _ _ hh)) ?_ ?_
    · rintro i y τ H2 hy ⟨v,es,rfl,sm,L,le⟩
      obtain ⟨j,hj,rfl⟩:∃ j,hs[i]? = some j∧natI j=y:=by simpa using hy
      obtain ⟨t,ht,et,_⟩:=he j (List.mem_of_getElem? hj)
      obtain ⟨pt,hpt,pb,pe,g1,g2,g3⟩:=TL.item ht
      have hi:i<hs.length:=(List.getElem?_eq_some_iff.mp hj).1
      unfold natI
      walk_at "rd"
      simp only [tYes,if_true]
      refine ixL_at (.of (sm _ _ TL.hl)) hpt ?_
      refine ixT_at (.of (sm _ _ g1)) rfl ?_
      have kt:∀ b xs,H2 b=some (.tup xs)→upd H2 Dl (.lst (es.map V.ref++[.ref pe])) b=some (.tup xs):=fun b xs e=>by
        rw [upd_ne (ne_of e L.hl (by intro z; cases z))]; exact e
      refine ⟨_,L.hl,line_lt (by rw [List.length_map]; omega),fun b o e=>?_,es++[pe],⟨?_,?_⟩,by simp [le]⟩
      · rw [upd_ne (ne_of_none e hDl)]; exact sm _ _ e
      · rw [upd_same,List.map_append]; rfl
      · rw [take_succ_of hj,List.map_append]
        exact tupsF_snoc (kt _ _ (by rw [sm _ _ g3,et])) (tupsF_keep L.r kt)
    · rintro τ H2 ⟨v,es,rfl,sm,L,le⟩
      rw [List.take_of_length_le (by rw [List.length_map]; exact Nat.le_refl _)] at L
      refine ⟨Dl,es,hs.map ef,rfl,L,by simpa using hne,fun q hq=>?_,fun r H3 s3 hr3=>?_⟩
      · obtain ⟨i,hi,rfl⟩:=List.mem_map.mp hq
        obtain ⟨t,_,_,z⟩:=he i hi
        exact z.mono (by decide)
      have sm:=sm.trans s3
      have zl:Sw.SzQ 2400 (Sw.minL (hs.map ef)):=by
        obtain ⟨i,hi,e⟩:=List.mem_map.mp (Sw.minL_mem (l:=hs.map ef) (by simpa using hne))
        obtain ⟨t,_,_,z⟩:=he i hi
        rw [← e]; exact z
      refine ⟨r,pk,_,ma,2400,rfl,hr3,sm _ _ hk,by decide,zl,zk,fun w1 f1=>hR _ _ ?_⟩
      have n1:=same_new (o:=.tup (fq (Sw.minL (hs.map ef)-ma))) f1
      have sm:=sm.trans n1
      have h1:upd H3 w1 (.tup (fq (Sw.minL (hs.map ef)-ma))) w1=some (.tup (fq (Sw.minL (hs.map ef)-ma))):=upd_same
      generalize upd H3 w1 (.tup (fq (Sw.minL (hs.map ef)-ma)))=H4 at sm h1 ⊢
      walk_at "rd"
      intro w2 f2
      have n2:=same_new (o:=.tup [.int sh,.int 1]) f2
      refine ⟨w1,w2,_,(sh:Rat),2400,rfl,n2 _ _ h1,at_int (n:=sh),by decide,zw,(Sw.SzQ.int zs).mono (by decide),fun w3 f3=>?_⟩
      have n3:=same_new (o:=.tup (fq ((Sw.minL (hs.map ef)-ma)*(sh:Rat)))) f3
      refine ⟨pm,w3,mo,_,2400,rfl,n3 _ _ (n2 _ _ (sm _ _ hm)),upd_same,by decide,zm,zr,fun w4 f4=>?_⟩
      exact k w4 _ (((sm.trans n2).trans n3).trans (same_new f4)) upd_same
def shV (fs:List Sw.F4):V→Option V
  | .int i=>some (.int (Sw.shr fs i.toNat))
  | _=>none
theorem shV_map (fs:List Sw.F4) (hs:List Nat):(hs.map natI).filterMap (shV fs)=(hs.map (Sw.shr fs)).map V.int:=by
  induction hs with
  | nil=>rfl
  | cons i r ih =>
    rw [List.map_cons,List.filterMap_cons,List.map_cons,List.map_cons,← ih]
    rfl
theorem div1 (n:Int):((n:Int):Rat) / ((1:Int):Rat)=(n:Rat):=by
  have:((1:Int):Rat) = 1:=rfl
  rw [this]; grind
theorem f01:((0:Int):Rat) / ((1:Int):Rat) = 0:=by
  have z0:((0:Int):Rat) = 0:=rfl
  rw [z0]; grind
def PlD (H0 H:Hp) (l:Addr) (sp:List Addr):Prop:=∃ pls:List Addr,Paired (fun p pl=>∃ pf pt,H p=some (.tup [.ref pf,.ref pt,.ref pl])) sp pls∧pls.Nodup∧∀ pl∈pls,H0 pl=none∧pl≠l∧∃ xs,H pl=some (.lst xs)
theorem PlD.same {H0 H H':Hp} {l:Addr} {sp:List Addr} (h:PlD H0 H l sp) (s:Same H H'):PlD H0 H' l sp:=by
  obtain ⟨pls,h1,h2,h3⟩:=h
  exact ⟨pls,Paired.mapP h1 fun _ _ ⟨pf,pt,e⟩=>⟨pf,pt,s _ _ e⟩,h2,fun pl hp=>⟨(h3 pl hp).1,(h3 pl hp).2.1,let ⟨xs,e⟩:=(h3 pl hp).2.2; ⟨xs,s _ _ e⟩⟩⟩
theorem pl_inj {H:Hp}:∀ {sp pls pls':List Addr},Paired (fun p pl=>∃ pf pt,H p=some (.tup [.ref pf,.ref pt,.ref pl])) sp pls→Paired (fun p pl=>∃ pf pt,H p=some (.tup [.ref pf,.ref pt,.ref pl])) sp pls'→pls=pls'
  | _,_,_,.nil,.nil=>rfl
  | _,_,_,.cons ⟨_,_,a⟩ b,.cons ⟨_,_,c⟩ d=>by
    rw [a] at c
    cases c
    rw [pl_inj b d]
theorem PlD.list {H0 H:Hp} {l b:Addr} {sp:List Addr} {xs ys:List V} (h:PlD H0 H l sp) (hb:H b=some (.lst xs)):PlD H0 (upd H b (.lst ys)) l sp:=by
  obtain ⟨pls,h1,h2,h3⟩:=h
  refine ⟨pls,Paired.mapP h1 fun _ _ ⟨pf,pt,e⟩=>⟨pf,pt,upd_tup hb e⟩,h2,fun pl hp=>⟨(h3 pl hp).1,(h3 pl hp).2.1,?_⟩⟩
  obtain ⟨xs,e⟩:=(h3 pl hp).2.2
  by_cases c:pl=b
  · subst c; exact ⟨ys,upd_same⟩
  · exact ⟨xs,by rw [upd_ne c]; exact e⟩
theorem PlD.app {H0 H:Hp} {l p pl pf pt:Addr} {sp:List Addr} {xs:List V} (h:PlD H0 H l sp) (hp:H p=some (.tup [.ref pf,.ref pt,.ref pl])) (hl:H pl=some (.lst xs)) (n0:H0 pl=none) (n1:pl≠l) (nw:∀ pls:List Addr,Paired (fun p pl=>∃ pf pt,H p=some (.tup [.ref pf,.ref pt,.ref pl])) sp pls→pl ∉ pls):PlD H0 H l (sp++[p]):=by
  obtain ⟨pls,h1,h2,h3⟩:=h
  refine ⟨pls++[pl],paired_snoc ⟨pf,pt,hp⟩ h1,?_,fun q hq=>?_⟩
  · rw [List.nodup_append]
    refine ⟨h2,by simp,fun a ha b hb e=>?_⟩
    have:b=pl:=List.mem_singleton.mp hb
    subst this
    subst e
    exact nw pls h1 ha
  · rcases List.mem_append.mp hq with z | z
    · exact h3 q z
    · have:q=pl:=List.mem_singleton.mp z
      subst this
      exact ⟨n0,n1,xs,hl⟩
def spFlow:Sp:=fun vs H Q _=>∃ n M a c l ps qs,vs = [.ref l]∧Row H l ps qs∧Sw.Fit n M a c∧qs.length≤n∧(∀ q∈qs,Sw.PcOk M q)∧qs.Pairwise (fun a b=>a.1≤b.1)∧∀ sl sp H',Same H H'→H sl=none→ScL H' sl sp (Sw.flowF (fsOf qs (Sw.Ti.nil.tags qs)) (2*n+1) 0 0)→PlD H H' sl sp→Q (.ref sl) H'
theorem d_flow (T:Txt K mg c_Tide c_Wheel):Def P w K mg base (CXX P w) 7 "flow" ["row"] spFlow:=by
  have D_tags_of:=d_tags_of (P:=P) (w:=w) (base:=base) T
  have D_heads_at:=d_heads_at (P:=P) (w:=w) (base:=base) T
  have D_first_end:=d_first_end (P:=P) (w:=w) (base:=base) T
  have D_ratio:=d_ratio (P:=P) (w:=w) (base:=base) T
  have D_under:=d_under (P:=P) (w:=w) (base:=base) T
  have D_least:=d_least (P:=P) (w:=w) (base:=base) T
  have D_plus:=d_plus (P:=P) (w:=w) (base:=base) T
  have D_minus:=d_minus (P:=P) (w:=w) (base:=base) T
  have D_over:=d_over (P:=P) (w:=w) (base:=base) T
  refine T.src_flow.okN (k:=6) sc_flow (fun vs H Q E h=>?_) (fun f cdv A outer s H vs Q E hr h=>?_)
  · obtain ⟨n,M,a,c,l,ps,qs,rfl,_⟩:=h
    rfl
  · obtain ⟨n,M,a,c,l,ps,qs,rfl,R0,F,hn,hq,hp,k⟩:=h
    refine ⟨_,(pss_cons (ps_set (i:=1) sc_flow.nd rfl (by first|left;rfl|right;rfl) (pe_callX D_tags_of (hr.mono (by decide)) rfl passN (pa_cons (pv 0) pa_nil))) (pss_cons (ps_set (i:=2) sc_flow.nd rfl (by first|left;rfl|right;rfl) (pe_lst pa_nil)) (pss_cons (ps_set (i:=3) sc_flow.nd rfl (by first|left;rfl|right;rfl) (pe_callX D_ratio (hr.mono (by decide)) rfl passN (pa_cons pe_int (pa_cons pe_int pa_nil)))) (pss_cons (ps_set (i:=4) sc_flow.nd rfl (by first|left;rfl|right;rfl) (pe_callX D_ratio (hr.mono (by decide)) rfl passN (pa_cons pe_int (pa_cons pe_int pa_nil)))) (pss_one (ps_while PassesOwn.never (pt_val pe_bl) (pss_cons (ps_set (i:=5) sc_flow.nd rfl (by first|left;rfl|right;rfl) (pe_callX D_heads_at (hr.mono (by decide)) rfl passN (pa_cons (pv 0) (pa_cons (pv 1) (pa_cons (pv 3) (pa_cons (pv 4) pa_nil)))))) (pss_cons (ps_set (i:=6) sc_flow.nd rfl (by first|left;rfl|right;rfl) (pe_callB (call_sumK K rfl rfl) rfl T.no_sum boot_sum (pa_cons (pe_lc ["place"] [("row", 0)] rfl (by with_unfolding_all rfl) (by decide +kernel) rfl (by decide +kernel) (by exact ⟨rfl,True.intro⟩) (by with_unfolding_all rfl) ⟨⟨rfl,rfl,rfl⟩,True.intro⟩ (pi_listK K rfl (pv 5)) (fun _ _ _=>(pg_name (i:=0) (show (["place", "row"]:List Str).Nodup from by decide +kernel) rfl (by first|left;rfl|right;rfl))) (fun _ _ _=>pifs_nil) (fun _ _ _=>(pe_ix (ix_tupK K rfl) (pe_ix (ix_listK K rfl) (pv 1) (pv 0) (fun _ _=>rfl)) pe_int (fun _ _=>rfl)))) pa_nil))) (pss_cons (ps_setL (i0:=7) ["piece"] [("moment", 3)] rfl (by with_unfolding_all rfl) (by decide +kernel) rfl (by decide +kernel) (by exact ⟨rfl,True.intro⟩) (by with_unfolding_all rfl) ⟨⟨rfl,rfl,rfl⟩,True.intro⟩ (pi_listK K rfl (pv 0)) (fun _ _ _=>(pg_name (i:=0) (show (["piece", "moment"]:List Str).Nodup from by decide +kernel) rfl (by first|left;rfl|right;rfl))) (fun _ _ _=>(pifs_one (pt_val (pe_callX D_under (hr.mono (by decide)) rfl passN (pa_cons (pv 1) (pa_cons (pe_tup (pa_cons (pe_ix (ix_tupK K rfl) (pv 0) pe_int (fun _ _=>rfl)) (pa_cons pe_int pa_nil))) pa_nil)))))) (fun _ _ _=>(pe_callX D_ratio (hr.mono (by decide)) rfl passN (pa_cons (pe_ix (ix_tupK K rfl) (pv 0) pe_int (fun _ _=>rfl)) (pa_cons pe_int pa_nil)))) (by with_unfolding_all rfl) sc_flow.nd rfl (by first|left;rfl|right;rfl)) (pss_cons (ps_if (pt_truthK K rfl (pv 5)) (pss_one (ps_expr (pe_bm PySem.F.plainAttrs_list PySem.F.slot_list_append PySem.F.type_list_append mt_append (pv 7) (pa_cons (pe_callX D_first_end (hr.mono (by decide)) rfl passN (pa_cons (pv 1) (pa_cons (pv 5) (pa_cons (pv 6) (pa_cons (pv 3) (pa_cons (pv 4) pa_nil)))))) pa_nil)))) pss_nil) (pss_cons (ps_if (pt_not (pt_truthK K rfl (pv 7))) (pss_one (ps_ret (pv 2))) pss_nil) (pss_cons (ps_set (i:=8) sc_flow.nd rfl (by first|left;rfl|right;rfl) (pe_callX D_least (hr.mono (by decide)) rfl passN (pa_cons (pv 7) pa_nil))) (pss_cons (ps_if (pt_truthK K rfl (pv 5)) (pss_cons (ps_expr (pe_bm PySem.F.plainAttrs_list PySem.F.slot_list_append PySem.F.type_list_append mt_append (pv 2) (pa_cons (pe_tup (pa_cons (pv 3) (pa_cons (pv 8) (pa_cons (pe_lc ["place"] [("shares", 6),("row", 0)] rfl (by with_unfolding_all rfl) (by decide +kernel) rfl (by decide +kernel) (by exact ⟨rfl,⟨rfl,True.intro⟩⟩) (by with_unfolding_all rfl) ⟨⟨rfl,rfl,rfl⟩,⟨⟨rfl,rfl,rfl⟩,True.intro⟩⟩ (pi_listK K rfl (pv 5)) (fun _ _ _=>(pg_name (i:=0) (show (["place", "shares", "row"]:List Str).Nodup from by decide +kernel) rfl (by first|left;rfl|right;rfl))) (fun _ _ _=>pifs_nil) (fun _ _ _=>(pe_tup (pa_cons (pv 0) (pa_cons (pe_callX D_ratio (hr.mono (by decide)) rfl passN (pa_cons (pe_ix (ix_tupK K rfl) (pe_ix (ix_listK K rfl) (pv 2) (pv 0) (fun _ _=>rfl)) pe_int (fun _ _=>rfl)) (pa_cons (pv 1) pa_nil))) pa_nil))))) pa_nil)))) pa_nil))) (pss_one (ps_set (i:=4) sc_flow.nd rfl (by first|left;rfl|right;rfl) (pe_callX D_plus (hr.mono (by decide)) rfl passN (pa_cons (pv 4) (pa_cons (pe_callX D_over (hr.mono (by decide)) rfl passN (pa_cons (pe_callX D_minus (hr.mono (by decide)) rfl passN (pa_cons (pv 8) (pa_cons (pv 3) pa_nil))) (pa_cons (pe_tup (pa_cons (pv 6) (pa_cons pe_int pa_nil))) pa_nil))) pa_nil)))))) pss_nil) (pss_one (ps_set (i:=3) sc_flow.nd rfl (by first|left;rfl|right;rfl) (pv 8)))))))))))))))),?_⟩
    show tSeq _ _ _ [some (.ref l),none,none,none,none,none,none,none,none] H
    obtain ⟨D,ok⟩:=Sw.fs_ok F hn hq hp
    have tln:(Sw.Ti.nil.tags qs).length=qs.length:=Sw.Ti.tags_len
    have n6:=F.n1
    refine seq_step fun R hR=>?_
    walk_at "rd"
    refine ⟨n,M,a,c,l,ps,qs,rfl,R0,F,hn,hq,hp,fun tl tp H1 s1 TL=>hR _ _ ?_⟩
    have R1:=R0.same s1
    generalize Sw.Ti.nil.tags qs=ts at ok tln TL k
    have fsl:(fsOf qs ts).length=qs.length:=fsOf_len tln
    have get:∀ i,i<qs.length→∃ q t,qs[i]? = some q∧ts[i]? = some t∧(fsOf qs ts)[i]? = some (q.1,t.1,t.2,q.2.2.2):=fun i hi=>by
      have h1:qs[i]? = some (qs[i]'hi):=List.getElem?_eq_getElem _
      have h2:ts[i]? = some (ts[i]'(by omega)):=List.getElem?_eq_getElem _
      exact ⟨_,_,h1,h2,fsOf_get h1 h2⟩
    have szt:∀ t∈ts,Sw.SzQ 5000 t.1∧Sw.SzQ 5000 t.2:=fun t ht=>by
      obtain ⟨i,hi⟩:=List.getElem?_of_mem ht
      obtain ⟨q,t',e1,e2,e3⟩:=get i (by have:=(List.getElem?_eq_some_iff.mp hi).1; omega)
      rw [hi] at e2
      cases e2
      have:=ok.szt (List.mem_of_getElem? e3)
      exact ⟨this.1.mono (by decide),this.2.mono (by decide)⟩
    have chq:∀ mo,Sw.chs (fsOf qs ts) mo=qs.filterMap fun q=>if mo<(q.1:Rat) then some (q.1:Rat) else none:=fun mo=>Sw.chs_of tln
    have hdi:∀ {mo ma:Rat} {i:Nat},i∈Sw.hdP (fsOf qs ts) mo ma→i<qs.length:=fun {mo ma i} hi=>by
      obtain ⟨f,e,_⟩:=Sw.hdP_mem.mp hi
      have:=(List.getElem?_eq_some_iff.mp e).1
      omega
    refine seq_step fun R hR=>?_
    walk_at "rd"
    intro sl hsl
    refine hR _ _ ?_
    have n1:=same_new (o:=.lst []) hsl
    have SL:ScL (upd H1 sl (.lst [])) sl [] []:=⟨upd_same,.nil⟩
    have PD:∀ H',PlD H1 H' sl []:=fun _=>⟨[],.nil,List.nodup_nil,fun pl h=>absurd h List.not_mem_nil⟩
    generalize upd H1 sl (.lst [])=H2 at n1 SL ⊢
    refine seq_step fun R hR=>?_
    walk_at "rd"
    refine ⟨_,_,70,rfl,by decide,Sw.Sz.r18 (by decide) (by decide),fun _ pm fm=>hR _ _ ?_,fun z=>absurd z (by decide)⟩
    rw [f01]
    have n2:=same_new (o:=.tup (fq 0)) fm
    refine seq_step fun R hR=>?_
    walk_at "rd"
    refine ⟨_,_,70,rfl,by decide,Sw.Sz.r18 (by decide) (by decide),fun _ pk fk=>hR _ _ ?_,fun z=>absurd z (by decide)⟩
    rw [f01]
    have n3:=same_new (o:=.tup (fq 0)) fk
    have hm:upd (upd H2 pm (.tup (fq 0))) pk (.tup (fq 0)) pm=some (.tup (fq 0)):=n3 _ _ upd_same
    have hk:upd (upd H2 pm (.tup (fq 0))) pk (.tup (fq 0)) pk=some (.tup (fq 0)):=upd_same
    have SL:=(SL.same n2).same n3
    have n1:=(n1.trans n2).trans n3
    generalize upd (upd H2 pm (.tup (fq 0))) pk (.tup (fq 0))=H3 at n1 SL hm hk ⊢
    clear n2 n3 fm fk
    refine while_m (fun m σ H'=>∃ done sp mo ma G pm pk v5 v6 v7 v8,σ = [some (.ref l),some (.ref tl),some (.ref sl),some (.ref pm),some (.ref pk),v5,v6,v7,v8]∧Same H1 H'∧ScL H' sl sp done∧PlD H1 H' sl sp∧H' pm=some (.tup (fq mo))∧H' pk=some (.tup (fq ma))∧Sw.FSt n M a c (fsOf qs ts) D mo ma G∧Sw.mu (fsOf qs ts) mo ma≤m∧sp.length+m≤2*n∧done++Sw.flowF (fsOf qs ts) (m+1) mo ma=Sw.flowF (fsOf qs ts) (2*n+1) 0 0) (m0:=2*n)
      ⟨[],[],0,0,D,pm,pk,none,none,none,none,rfl,n1,SL,PD _,hm,hk,.start ok,Sw.mu0 ok.ln 0 0,by simp,rfl⟩ ?_
    clear SL PD hm hk n1
    rintro m σ H4 ⟨done,sp,mo,ma,G,pm,pk,v5,v6,v7,v8,rfl,sm,SL,PD,hm,hk,st,hmu,hln,tot⟩
    refine ⟨true,fun Q hQ=>⟨_,rfl,hQ⟩,fun _=>?_,fun z=>by cases z⟩
    show tSeq _ _ _ [some (.ref l),some (.ref tl),some (.ref sl),some (.ref pm),some (.ref pk),v5,v6,v7,v8] H4
    have zmo:=(st.zmo ok).mono (show 2130≤2400 by decide)
    have zma:=(st.zma ok).mono (show 2130≤2400 by decide)
    refine ends_hide fun D' hN hQ=>?_
    refine seq_step fun R hR=>?_
    walk_at "rd"
    refine ⟨l,ps,qs,tl,tp,ts,pm,pk,mo,ma,rfl,R1.same sm,TL.same sm,tln,by omega,hm,hk,zmo.mono (by decide),zma.mono (by decide),szt,fun q h=>⟨(hq q h).1,(hq q h).2.1⟩,fun h H5 s5 nh hh=>hR _ _ ?_⟩
    have slen:(Sw.hdP (fsOf qs ts) mo ma).length≤60:=by have:=Sw.hdP_len (fsOf qs ts) mo ma; omega
    refine seq_step fun R hR=>?_
    walk_at "rd"
    refine ⟨⟨_,.of hh⟩,fun Dl hDl=>?_⟩
    refine comp_pure (K:=K) (a:=h) (xs:=(Sw.hdP (fsOf qs ts) mo ma).map natI) (v0:=none) (caps:=[some (.ref l)]) (shV (fsOf qs ts)) hDl (.of hh) (by rw [List.length_map]; omega) (fun x hx v H' C N s' h1 h2=>?_) ?_
    · obtain ⟨i,hi,rfl⟩:=List.mem_map.mp hx
      obtain ⟨q,t,e1,e2,e3⟩:=get i (hdi hi)
      have Rx:=((R1.same sm).same s5).same s'
      obtain ⟨p,q',i1,i2,i3⟩:=Rx.item (i:=(i:Int)) (by omega) (by have:=hdi hi; omega)
      have i2:qs[i]? = some q':=by simpa using i2
      rw [e1] at i2
      cases i2
      unfold natI
      walk_at "rd"
      simp only [tYes,if_true]
      refine ixL_at (.of Rx.hl) i1 ?_
      refine ixT_at (.of i3) rfl ?_
      exact h1 _ (by show some (V.int (Sw.shr (fsOf qs ts) i))=some _; rw [Sw.shr_at e3])
    rw [shV_map]
    refine ⟨Dl,_,rfl,.of upd_same,hR _ _ ?_⟩
    have s6:=s5.trans (same_new (o:=.lst (((Sw.hdP (fsOf qs ts) mo ma).map (Sw.shr (fsOf qs ts))).map V.int)) hDl)
    have hh:=same_new (o:=.lst (((Sw.hdP (fsOf qs ts) mo ma).map (Sw.shr (fsOf qs ts))).map V.int)) hDl _ _ hh
    generalize upd H5 Dl (.lst (((Sw.hdP (fsOf qs ts) mo ma).map (Sw.shr (fsOf qs ts))).map V.int))=H6 at s6 hh ⊢
    clear hDl s5
    have hS:((Sw.hdP (fsOf qs ts) mo ma).map (Sw.shr (fsOf qs ts))).sum=Sw.shP (fsOf qs ts) (Sw.hdP (fsOf qs ts) mo ma):=rfl
    rw [hS]
    refine seq_step fun R hR=>?_
    walk_at "rd"
    have R6:=(R1.same sm).same s6
    have hm6:=s6 _ _ hm
    refine ⟨⟨_,.of R6.hl⟩,fun Cl hCl=>?_⟩
    have nCl:H4 Cl=none:=s6.free hCl
    refine comp_walk (xs:=ps.map V.ref) (fun i τ H'=>∃ v es,τ = [v,some (.ref pm)]∧Same H6 H'∧Lst fq H' Cl es ((qs.take i).filterMap fun q=>if mo<(q.1:Rat) then some (q.1:Rat) else none)∧es.length≤i) ⟨none,[],rfl,same_new hCl,⟨upd_same,.nil⟩,Nat.le_refl _⟩ (fun i τ H' _ ⟨_,_,_,s',_⟩=>.of (s' _ _ R6.hl)) ?_ ?_
    · rintro i y τ H7 hy ⟨v,es,rfl,s7,L,le⟩
      obtain ⟨pp,hpp,rfl⟩:∃ p,ps[i]? = some p∧V.ref p=y:=by simpa using hy
      obtain ⟨q,hqi,hqp⟩:=R6.r.get hpp
      have hi:i<qs.length:=(List.getElem?_eq_some_iff.mp hqi).1
      obtain ⟨q0,q1,_⟩:=hq q (List.mem_of_getElem? hqi)
      have et:=take_succ_of hqi
      walk_at "rd"
      refine ixT_at (.of (s7 _ _ hqp)) rfl ?_
      walk_at "rd"
      intro w1 f1
      have m1:=same_new (o:=.tup [.int q.1,.int 1]) f1
      refine ⟨pm,w1,mo,(q.1:Rat),rfl,m1 _ _ (s7 _ _ hm6),at_int (n:=q.1),zmo.mono (by decide),(szq_at q0 q1).mono (by decide),?_⟩
      have s7:=s7.trans m1
      have L:Lst fq (upd H7 w1 (.tup [.int q.1,.int 1])) Cl es _:=⟨m1 _ _ L.hl,tupsF_same L.r m1⟩
      generalize upd H7 w1 (.tup [.int q.1,.int 1])=H8 at s7 L ⊢
      clear m1 f1
      walk_at "rd"
      refine ite2 (fun c1=>?_) fun c1=>?_
      · refine ixT_at (.of (s7 _ _ hqp)) rfl ?_
        walk_at "rd"
        refine ⟨_,_,70,rfl,by decide,Sw.Sz.r18 (by decide) (by decide),fun _ w2 f2=>?_,fun z=>absurd z (by decide)⟩
        have m2:=same_new (o:=.tup (fq (((q.1:Int):Rat) / ((1:Int):Rat)))) f2
        have kt:∀ b xs,upd H8 w2 (.tup (fq (((q.1:Int):Rat) / ((1:Int):Rat)))) b=some (.tup xs)→upd (upd H8 w2 (.tup (fq (((q.1:Int):Rat) / ((1:Int):Rat))))) Cl (.lst (es.map V.ref++[.ref w2])) b=some (.tup xs):=fun b xs e=>by
          rw [upd_ne (ne_of e (m2 _ _ L.hl) (by intro z; cases z))]; exact e
        refine ⟨_,m2 _ _ L.hl,line_lt (by rw [List.length_map]; omega),fun b o e=>?_,es++[w2],⟨?_,?_⟩,by rw [List.length_append]; simp only [List.length_cons,List.length_nil]; omega⟩
        · rw [upd_ne (ne_of_none e hCl)]; exact m2 _ _ (s7 _ _ e)
        · rw [upd_same,List.map_append]; rfl
        · rw [et,List.filterMap_append]
          have e1:([q]:List Q4).filterMap (fun q=>if mo<(q.1:Rat) then some (q.1:Rat) else none) = [(q.1:Rat)]:=by simp [c1]
          rw [e1]
          exact tupsF_snoc (kt _ _ (by rw [upd_same,div1])) (tupsF_keep (tupsF_same L.r m2) kt)
      · refine ⟨s7,es,⟨L.hl,?_⟩,by omega⟩
        rw [et,List.filterMap_append]
        have e1:([q]:List Q4).filterMap (fun q=>if mo<(q.1:Rat) then some (q.1:Rat) else none) = []:=by simp [c1]
        rw [e1,List.append_nil]
        exact L.r
    rintro τ H7 ⟨v,es,rfl,s67,L,le⟩
    rw [List.take_of_length_le (by rw [List.length_map]; have:=R0.r.len; omega),← chq mo] at L
    have len7:es.length≤60:=by rw [List.length_map] at le; have:=R0.r.len; omega
    refine hR _ _ ?_
    have s7:=s6.trans s67
    have hh7:=s67 _ _ hh
    clear s67
    refine seq_step fun R hR=>?_
    have next:∀ es' H8,Same H4 H8→H8 h=some (.lst ((Sw.hdP (fsOf qs ts) mo ma).map natI))→Lst fq H8 Cl es' (Sw.chA (fsOf qs ts) mo ma)→R [some (.ref l),some (.ref tl),some (.ref sl),some (.ref pm),some (.ref pk),some (.ref h),some (.int (Sw.shP (fsOf qs ts) (Sw.hdP (fsOf qs ts) mo ma))),some (.ref Cl),v8] H8:=fun es' H8 s8 hh L=>by
      refine hR _ _ ?_
      have elen:=tupsF_len L.r
      refine seq_step fun R hR=>?_
      walk_at "rd"
      by_cases ce:Sw.chA (fsOf qs ts) mo ma = []
      · refine ⟨false,.inl ⟨_,.of L.hl,?_⟩,?_⟩
        · rw [ce] at elen
          rw [List.length_eq_zero_iff.mp elen]; rfl
        rw [if_pos rfl]
        refine hQ _ _ (k sl sp H8 ((s1.trans sm).trans s8) (s1.free hsl) ?_ ?PD2)
        case PD2=>obtain ⟨pls,q1,q2,q3⟩:=PD.same s8; exact ⟨pls,q1,q2,fun pl hp=>⟨s1.free (q3 pl hp).1,(q3 pl hp).2⟩⟩
        have e:Sw.flowF (fsOf qs ts) (m+1) mo ma = []:=by unfold Sw.flowF; rw [if_pos ce]
        rw [e,List.append_nil] at tot
        rw [← tot]
        exact SL.same s8
      · refine ⟨true,.inl ⟨_,.of L.hl,?_⟩,?_⟩
        · cases es' with
          | nil =>
            rw [List.length_nil] at elen
            exact absurd (List.length_eq_zero_iff.mp elen.symm) ce
          | cons y r=>rfl
        rw [if_neg (by decide)]
        refine hR _ _ ?_
        refine seq_step fun R hR=>?_
        walk_at "rd"
        refine ⟨Cl,es',_,rfl,L,ce,fun x hx=>((st.zch ok hx).1).mono (by decide),fun r H9 s89 hr9=>hR _ _ ?_⟩
        have mem:=Sw.minL_mem ce
        have s9:=s8.trans s89
        have hh9:=s89 _ _ hh
        have nsl:H9 sl=some (.lst (sp.map V.ref)):=s9 _ _ SL.hl
        clear s89
        refine seq_step fun R hR=>?_
        walk_at "rd"
        by_cases he:Sw.hdP (fsOf qs ts) mo ma = []
        · refine ⟨false,.inl ⟨_,.of hh9,by rw [he]; rfl⟩,?_⟩
          rw [if_neg (by decide)]
          refine hR _ _ ?_
          have t1:=Sw.turn_rest he ce
          have mu1:=Sw.turn_mu t1
          refine nx_step fun R hR=>?_
          walk_at "rd"
          refine hR _ _ (hN _ _ ⟨m-1,by omega,done,sp,_,ma,G,r,pk,_,_,_,_,rfl,sm.trans s9,SL.same s9,PD.same s9,hr9,s9 _ _ hk,st.rest ok t1 ?_,by omega,by omega,?_⟩)
          · rcases t1.way with z | z
            · exact z
            · exact absurd he z.1
          · rw [show m-1+1=m by omega,← tot,Sw.flowF_succ,if_neg ce,if_pos he]
        · refine ⟨true,.inl ⟨_,.of hh9,?_⟩,?_⟩
          · cases e:Sw.hdP (fsOf qs ts) mo ma with
            | nil=>exact absurd e he
            | cons y r=>rfl
          rw [if_pos rfl]
          have t1:=Sw.turn_go ok.s1 he
          have mu1:=Sw.turn_mu t1
          obtain ⟨G',st'⟩:=st.go ok he
          obtain ⟨S1,S2,S3,S4⟩:=ok.shB he
          have zS:Sw.Sz 70 (Sw.shP (fsOf qs ts) (Sw.hdP (fsOf qs ts) mo ma)):=Sw.Sz.r18 (by omega) (by omega)
          refine seq_step fun R' hR'=>?_
          walk_at "rd"
          refine ⟨tyL_at nsl,?_⟩
          refine ⟨⟨_,.of hh9⟩,fun Pl hPl=>?_⟩
          have R9:=(R1.same sm).same s9
          refine comp_walk (xs:=(Sw.hdP (fsOf qs ts) mo ma).map natI) (fun i τ H'=>∃ v es,τ = [v,some (.int (Sw.shP (fsOf qs ts) (Sw.hdP (fsOf qs ts) mo ma))),some (.ref l)]∧Same H9 H'∧H' Pl=some (.lst (es.map V.ref))∧Paired (PrA H') es (((Sw.hdP (fsOf qs ts) mo ma).take i).map fun i=>(i,(Sw.shr (fsOf qs ts) i:Rat) / (Sw.shP (fsOf qs ts) (Sw.hdP (fsOf qs ts) mo ma):Rat)))∧es.length≤i) ⟨none,[],rfl,same_new hPl,upd_same,.nil,Nat.le_refl _⟩ (fun i τ H' _ ⟨_,_,_,s',_⟩=>.of (s' _ _ hh9)) ?_ ?_
          · rintro i y τ H10 hy ⟨v,es,rfl,s10,hes,pr,le⟩
            obtain ⟨j,hj,rfl⟩:∃ j,(Sw.hdP (fsOf qs ts) mo ma)[i]? = some j∧natI j=y:=by simpa using hy
            have hi:i<(Sw.hdP (fsOf qs ts) mo ma).length:=(List.getElem?_eq_some_iff.mp hj).1
            have hjm:=List.mem_of_getElem? hj
            obtain ⟨q,t,e1,e2,e3⟩:=get j (hdi hjm)
            obtain ⟨p,q',i1,i2,i3⟩:=(R9.same s10).item (i:=(j:Int)) (by omega) (by have:=hdi hjm; omega)
            have i2:qs[j]? = some q':=by simpa using i2
            rw [e1] at i2
            cases i2
            have esh:Sw.shr (fsOf qs ts) j=q.2.2.2:=Sw.shr_at e3
            unfold natI
            walk_at "rd"
            simp only [tYes,if_true]
            walk_at "rd"
            refine ixL_at (.of (R9.same s10).hl) i1 ?_
            refine ixT_at (.of i3) rfl ?_
            walk_at "rd"
            refine ⟨_,_,70,rfl,by decide,zS,fun _ w1 f1=>?_,fun z=>absurd z (by omega)⟩
            intro w2 f2
            have m1:=same_new (o:=.tup (fq ((q.2.2.2:Rat) / (Sw.shP (fsOf qs ts) (Sw.hdP (fsOf qs ts) mo ma):Rat)))) f1
            have m2:=same_new (o:=.tup [.int (j:Int),.ref w1]) f2
            have m3:=m1.trans m2
            have h1:upd (upd H10 w1 (.tup (fq ((q.2.2.2:Rat) / (Sw.shP (fsOf qs ts) (Sw.hdP (fsOf qs ts) mo ma):Rat))))) w2 (.tup [.int (j:Int),.ref w1]) w1=some (.tup (fq ((Sw.shr (fsOf qs ts) j:Rat) / (Sw.shP (fsOf qs ts) (Sw.hdP (fsOf qs ts) mo ma):Rat)))):=by rw [esh]; exact m2 _ _ upd_same
            have h2:upd (upd H10 w1 (.tup (fq ((q.2.2.2:Rat) / (Sw.shP (fsOf qs ts) (Sw.hdP (fsOf qs ts) mo ma):Rat))))) w2 (.tup [.int (j:Int),.ref w1]) w2=some (.tup [.int (j:Int),.ref w1]):=upd_same
            generalize upd (upd H10 w1 (.tup (fq ((q.2.2.2:Rat) / (Sw.shP (fsOf qs ts) (Sw.hdP (fsOf qs ts) mo ma):Rat))))) w2 (.tup [.int (j:Int),.ref w1])=H11 at m3 h1 h2 ⊢
            have kt:∀ b xs,H11 b=some (.tup xs)→upd H11 Pl (.lst (es.map V.ref++[.ref w2])) b=some (.tup xs):=fun b xs e=>by
              rw [upd_ne (ne_of e (m3 _ _ hes) (by intro z; cases z))]; exact e
            refine ⟨_,m3 _ _ hes,line_lt (by rw [List.length_map]; omega),fun b o e=>?_,es++[w2],?_,?_,by rw [List.length_append]; simp only [List.length_cons,List.length_nil]; omega⟩
            · rw [upd_ne (ne_of_none e hPl)]; exact m3 _ _ (s10 _ _ e)
            · rw [upd_same,List.map_append]; rfl
            · rw [take_succ_of hj,List.map_append]
              exact paired_snoc ⟨w1,kt _ _ h2,kt _ _ h1⟩ (Paired.mapP (Paired.mapP pr fun _ _ z=>z.keep fun _ _ e=>m3 _ _ e) fun _ _ z=>z.keep kt)
          rintro τ H10 ⟨v,es,rfl,s10,hes,pr,le⟩
          rw [List.take_of_length_le (by rw [List.length_map]; exact Nat.le_refl _)] at pr
          intro t ft
          have s11:=s10.trans (same_new (o:=.tup [.ref pm,.ref r,.ref Pl]) ft)
          have m11:=same_new (o:=.tup [.ref pm,.ref r,.ref Pl]) ft
          have ht:upd H10 t (.tup [.ref pm,.ref r,.ref Pl]) t=some (.tup [.ref pm,.ref r,.ref Pl]):=upd_same
          have hes:=m11 _ _ hes
          have pr:=Paired.mapP pr fun _ _ z=>PrA.keep z fun _ _ e=>m11 _ _ e
          generalize upd H10 t (.tup [.ref pm,.ref r,.ref Pl])=H11 at s11 ht hes pr ⊢
          have s49:=s9.trans s11
          have nPl:Pl≠sl:=fun z=>by rw [z,nsl] at hPl; cases hPl
          refine app_at (s11 _ _ nsl) (by rw [List.length_map]; omega) (hR' _ _ ?_)
          have SL':=(SL.same s49).app (p:=t) (x:=(mo,Sw.minL (Sw.chA (fsOf qs ts) mo ma),Sw.prt (fsOf qs ts) mo ma)) ⟨pm,r,Pl,es,ht,s49 _ _ hm,s11 _ _ hr9,hes,pr⟩ (fun pf pt pl e=>by rw [ht] at e; cases e; exact nPl)
          have PD':=((PD.same s49).app ht hes (sm.free (s9.free hPl)) nPl (fun pls pr' hm=>by
            obtain ⟨i,hi⟩:=List.getElem?_of_mem hm
            obtain ⟨pls0,q1,_,q3⟩:=PD.same s9
            have ee:pls=pls0:=pl_inj pr' (Paired.mapP q1 fun _ _ ⟨pf,pt,e⟩=>⟨pf,pt,s11 _ _ e⟩)
            subst ee
            obtain ⟨xs,e⟩:=(q3 Pl hm).2.2
            rw [hPl] at e
            cases e)).list (ys:=sp.map V.ref++[.ref t]) (s11 _ _ nsl)
          have kp:∀ b o,b≠sl→H11 b=some o→upd H11 sl (.lst (sp.map V.ref++[.ref t])) b=some o:=fun b o n e=>by rw [upd_ne n]; exact e
          have hm':=kp _ _ (ne_of (s49 _ _ hm) (s11 _ _ nsl) (by intro z; cases z)) (s49 _ _ hm)
          have hk':=kp _ _ (ne_of (s49 _ _ hk) (s11 _ _ nsl) (by intro z; cases z)) (s49 _ _ hk)
          have hr':=kp _ _ (ne_of (s11 _ _ hr9) (s11 _ _ nsl) (by intro z; cases z)) (s11 _ _ hr9)
          have s12:Same H1 (upd H11 sl (.lst (sp.map V.ref++[.ref t]))):=fun b o e=>kp _ _ (ne_of_none e hsl) (s49 _ _ (sm _ _ e))
          generalize upd H11 sl (.lst (sp.map V.ref++[.ref t]))=H12 at SL' PD' hm' hk' hr' s12 ⊢
          walk_at "rd"
          refine ⟨r,pm,_,mo,2400,rfl,hr',hm',by decide,((st.zch ok mem).1).mono (by decide),zmo,fun w1 f1=>?_⟩
          have m1:=same_new (o:=.tup (fq (Sw.minL (Sw.chA (fsOf qs ts) mo ma)-mo))) f1
          walk_at "rd"
          intro w2 f2
          have m2:=same_new (o:=.tup [.int (Sw.shP (fsOf qs ts) (Sw.hdP (fsOf qs ts) mo ma)),.int 1]) f2
          refine ⟨w1,w2,_,(Sw.shP (fsOf qs ts) (Sw.hdP (fsOf qs ts) mo ma):Rat),2400,rfl,m2 _ _ upd_same,at_int,by decide,((st.zch ok mem).2).mono (by decide),(Sw.SzQ.int zS).mono (by decide),Sw.q_cast_ne (by omega),fun w3 f3=>?_⟩
          have m3:=same_new (o:=.tup (fq ((Sw.minL (Sw.chA (fsOf qs ts) mo ma)-mo) / (Sw.shP (fsOf qs ts) (Sw.hdP (fsOf qs ts) mo ma):Rat)))) f3
          have m123:=(m1.trans m2).trans m3
          refine ⟨pk,w3,ma,_,2400,rfl,m123 _ _ hk',upd_same,by decide,zma,(st.zov ok he mem).mono (by decide),fun w4 f4=>?_⟩
          have m4:=same_new (o:=.tup (fq (ma+(Sw.minL (Sw.chA (fsOf qs ts) mo ma)-mo) / (Sw.shP (fsOf qs ts) (Sw.hdP (fsOf qs ts) mo ma):Rat)))) f4
          have m1234:=m123.trans m4
          refine hR _ _ ?_
          refine nx_step fun R hR=>?_
          walk_at "rd"
          refine hR _ _ (hN _ _ ⟨m-1,by omega,_,sp++[t],_,_,G',r,w4,_,_,_,_,rfl,s12.trans m1234,SL'.same m1234,PD'.same m1234,m1234 _ _ hr',upd_same,st',by omega,?_,?_⟩)
          · rw [List.length_append]; simp only [List.length_cons,List.length_nil]; omega
          · rw [show m-1+1=m by omega,← tot,Sw.flowF_succ,if_neg ce,if_neg he,List.append_assoc]
            rfl
    walk_at "rd"
    by_cases he:Sw.hdP (fsOf qs ts) mo ma = []
    · refine ⟨false,.inl ⟨_,.of hh7,by rw [he]; rfl⟩,?_⟩
      rw [if_neg (by decide)]
      refine next es H7 s7 hh7 ?_
      have e:Sw.chA (fsOf qs ts) mo ma=Sw.chs (fsOf qs ts) mo:=by unfold Sw.chA; rw [if_pos he,List.append_nil]
      rw [e]
      exact L
    · refine ⟨true,.inl ⟨_,.of hh7,?_⟩,?_⟩
      · cases e:Sw.hdP (fsOf qs ts) mo ma with
        | nil=>exact absurd e he
        | cons y r=>rfl
      rw [if_pos rfl]
      obtain ⟨S1,S2,S3,S4⟩:=ok.shB he
      have zS:Sw.Sz 200 (Sw.shP (fsOf qs ts) (Sw.hdP (fsOf qs ts) mo ma)):=Sw.Sz.r60 (by omega) (by omega)
      refine ⟨tyL_at L.hl,tl,tp,ts,h,_,_,pm,pk,mo,ma,Sw.enP (fsOf qs ts),rfl,(TL.same sm).same s7,hh7,he,slen,fun i hi=>?_,s7 _ _ hm,s7 _ _ hk,zmo,zma,zS,((st.way ok he).2.2.2).mono (by decide),(st.zway ok he).mono (by decide),fun r H8 s8 hr8=>?_⟩
      · obtain ⟨q,t,e1,e2,e3⟩:=get i (hdi hi)
        refine ⟨t,e2,(Sw.enP_at e3).symm,?_⟩
        rw [Sw.enP_at e3]
        exact ((ok.szt (List.mem_of_getElem? e3)).2).mono (by decide)
      have L8:Lst fq H8 Cl es (Sw.chs (fsOf qs ts) mo):=⟨s8 _ _ L.hl,tupsF_same L.r s8⟩
      refine app_at L8.hl (by rw [List.length_map]; omega) ?_
      have kt:∀ b xs,H8 b=some (.tup xs)→upd H8 Cl (.lst (es.map V.ref++[.ref r])) b=some (.tup xs):=fun b xs e=>by
        rw [upd_ne (ne_of e L8.hl (by intro z; cases z))]; exact e
      refine next (es++[r]) _ (fun b o e=>?_) ?_ ⟨?_,?_⟩
      · rw [upd_ne (ne_of_none e nCl)]; exact s8 _ _ (s7 _ _ e)
      · have nhC:h≠Cl:=fun z=>by rw [← z] at hCl; rw [hh] at hCl; cases hCl
        rw [upd_ne nhC]; exact s8 _ _ hh7
      · rw [upd_same,List.map_append]; rfl
      · have e:Sw.chA (fsOf qs ts) mo ma=Sw.chs (fsOf qs ts) mo++[Sw.fst1 (fsOf qs ts) mo ma]:=by unfold Sw.chA; rw [if_neg he]
        rw [e]
        exact tupsF_snoc (kt _ _ hr8) (tupsF_keep L8.r kt)
def spTotal:Sp:=fun vs H Q _=>∃ l ps qs,vs = [.ref l]∧Lst fq H l ps qs∧(∀ i,Sw.SzQ 2400 (Sw.tq (qs.take i)))∧(∀ q∈qs,Sw.SzQ 2400 q)∧∀ r H',Same H H'→H' r=some (.tup (fq (Sw.tq qs)))→Q (.ref r) H'
theorem d_total (T:Txt K mg c_Tide c_Wheel):Def P w K mg base (CXX P w) 4 "total" ["some"] spTotal:=by
  have D_ratio:=d_ratio (P:=P) (w:=w) (base:=base) T
  have D_plus:=d_plus (P:=P) (w:=w) (base:=base) T
  refine T.src_total.okN (k:=3) sc_total (fun vs H Q E h=>?_) (fun f cdv A outer s H vs Q E hr h=>?_)
  · obtain ⟨l,ps,qs,rfl,_⟩:=h
    rfl
  · obtain ⟨l,ps,qs,rfl,L,st,sz,k⟩:=h
    refine ⟨_,(pss_cons (ps_set (i:=1) sc_total.nd rfl (by first|left;rfl|right;rfl) (pe_callX D_ratio (hr.mono (by decide)) rfl passN (pa_cons pe_int (pa_cons pe_int pa_nil)))) (pss_cons (ps_for PassesOwn.never rfl (pi_listK K rfl (pv 0)) (pg_name (i:=2) sc_total.nd rfl (by first|left;rfl|right;rfl)) (pss_one (ps_set (i:=1) sc_total.nd rfl (by first|left;rfl|right;rfl) (pe_callX D_plus (hr.mono (by decide)) rfl passN (pa_cons (pv 1) (pa_cons (pv 2) pa_nil)))))) (pss_one (ps_ret (pv 1))))),?_⟩
    show tSeq _ _ _ [some (.ref l),none,none] H
    refine seq_step fun R hR=>?_
    walk_at "rd"
    refine ⟨_,_,70,rfl,by decide,Sw.Sz.r18 (by decide) (by decide),fun _ pm fm=>hR _ _ ?_,fun z=>absurd z (by decide)⟩
    rw [f01]
    refine seq_step fun R hR=>?_
    refine for_step fun Z hZ=>?_
    walk_at "rd"
    have n1:=same_new (o:=.tup (fq 0)) fm
    refine ⟨⟨_,.of (n1 _ _ L.hl)⟩,hZ _ _ ?_⟩
    refine for_list (K:=K) (a:=l) (xs:=ps.map V.ref) (fun i σ H'=>Same H H'∧∃ x v,σ = [some (.ref l),some (.ref x),v]∧H' x=some (.tup (fq (Sw.tq (qs.take i))))) ⟨n1,pm,none,rfl,upd_same⟩ (fun i σ H' _ q=>.of (q.1 _ _ L.hl)) ?_ ?_
    · rintro i v σ H1 hv ⟨sm,x,v2,rfl,hx⟩
      obtain ⟨p,hp,rfl⟩:∃ p,ps[i]? = some p∧V.ref p=v:=by simpa using hv
      obtain ⟨q,hq,hp2⟩:=tupsF_get L.r hp
      have zq:=sz q (List.mem_of_getElem? hq)
      show tAsg _ _ _ [some (.ref l),some (.ref x),some (.ref p)] H1
      refine nx_step fun R' hR'=>?_
      walk_at "rd"
      refine ⟨x,p,_,q,2400,rfl,hx,sm _ _ hp2,by decide,st i,zq,fun r hr'=>hR' _ _ ?_⟩
      refine ⟨sm.trans (same_new hr'),r,_,rfl,?_⟩
      rw [upd_same,take_succ_of hq,Sw.tq_snoc]
    · rintro σ H1 ⟨sm,x,v2,rfl,hx⟩
      refine hR _ _ ?_
      walk_at "rd"
      have ln:=tupsF_len L.r
      rw [List.take_of_length_le (by rw [List.length_map,ln]; exact Nat.le_refl _)] at hx
      exact k x H1 sm hx
def spFlowed:Sp:=fun vs H Q _=>∃ n M a c l ps qs who t,vs = [.ref l,.int who,.int t]∧Row H l ps qs∧Sw.Good n M a c qs∧0≤t∧t<1000000000000000∧∀ r H',Same H H'→H' r=some (.tup (fq (Sw.gT (fsOf qs (Sw.Ti.nil.tags qs)) (Sw.whoAt qs) who (t:Rat) (2*n+1))))→Q (.ref r) H'
theorem d_flowed (T:Txt K mg c_Tide c_Wheel):Def P w K mg base (CXX P w) 8 "flowed" ["row", "who", "at"] spFlowed:=by
  have D_flow:=d_flow (P:=P) (w:=w) (base:=base) T
  have D_under:=d_under (P:=P) (w:=w) (base:=base) T
  have D_lesser:=d_lesser (P:=P) (w:=w) (base:=base) T
  have D_minus:=d_minus (P:=P) (w:=w) (base:=base) T
  have D_times:=d_times (P:=P) (w:=w) (base:=base) T
  have D_total:=d_total (P:=P) (w:=w) (base:=base) T
  refine T.src_flowed.okN (k:=7) sc_flowed (fun vs H Q E h=>?_) (fun f cdv A outer s H vs Q E hr h=>?_)
  · obtain ⟨n,M,a,c,l,ps,qs,who,t,rfl,_⟩:=h
    rfl
  · obtain ⟨n,M,a,c,l,ps,qs,who,t,rfl,R0,g,t0,t1,k⟩:=h
    refine ⟨_,(pss_cons (ps_set (i:=3) sc_flowed.nd rfl (by first|left;rfl|right;rfl) (pe_lst pa_nil)) (pss_cons (ps_for PassesOwn.never rfl (pi_listK K rfl (pe_callX D_flow (hr.mono (by decide)) rfl passN (pa_cons (pv 0) pa_nil))) (pg_tupK (n:=3) K rfl rfl (pgs_cons (pg_name (i:=4) sc_flowed.nd rfl (by first|left;rfl|right;rfl)) (pgs_cons (pg_name (i:=5) sc_flowed.nd rfl (by first|left;rfl|right;rfl)) (pgs_cons (pg_name (i:=6) sc_flowed.nd rfl (by first|left;rfl|right;rfl)) pgs_nil)))) (pss_one (ps_if (pt_val (pe_callX D_under (hr.mono (by decide)) rfl passN (pa_cons (pv 4) (pa_cons (pe_tup (pa_cons (pv 2) (pa_cons pe_int pa_nil))) pa_nil)))) (pss_cons (ps_set (i:=7) sc_flowed.nd rfl (by first|left;rfl|right;rfl) (pe_callX D_minus (hr.mono (by decide)) rfl passN (pa_cons (pe_callX D_lesser (hr.mono (by decide)) rfl passN (pa_cons (pv 5) (pa_cons (pe_tup (pa_cons (pv 2) (pa_cons pe_int pa_nil))) pa_nil))) (pa_cons (pv 4) pa_nil)))) (pss_one (ps_expr (pe_bm PySem.F.plainAttrs_list PySem.F.slot_list_extend PySem.F.type_list_extend mt_extend (pv 3) (pa_cons (pe_lc ["place", "rate"] [("who", 1),("row", 0),("time", 7)] rfl (by with_unfolding_all rfl) (by decide +kernel) rfl (by decide +kernel) (by exact ⟨rfl,⟨rfl,⟨rfl,True.intro⟩⟩⟩) (by with_unfolding_all rfl) ⟨⟨rfl,rfl,rfl⟩,⟨⟨rfl,rfl,rfl⟩,⟨⟨rfl,rfl,rfl⟩,True.intro⟩⟩⟩ (pi_listK K rfl (pv 6)) (fun _ _ _=>(pg_tupK (n:=2) K rfl rfl (pgs_cons (pg_name (i:=0) (show (["place", "rate", "who", "row", "time"]:List Str).Nodup from by decide +kernel) rfl (by first|left;rfl|right;rfl)) (pgs_cons (pg_name (i:=1) (show (["place", "rate", "who", "row", "time"]:List Str).Nodup from by decide +kernel) rfl (by first|left;rfl|right;rfl)) pgs_nil)))) (fun _ _ _=>(pifs_one (pt_cmpR op_eq (pe_ix (ix_tupK K rfl) (pe_ix (ix_listK K rfl) (pv 3) (pv 0) (fun _ _=>rfl)) pe_int (fun _ _=>rfl)) (pv 2) (nomark _)))) (fun _ _ _=>(pe_callX D_times (hr.mono (by decide)) rfl passN (pa_cons (pv 1) (pa_cons (pv 4) pa_nil))))) pa_nil))))) pss_nil))) (pss_one (ps_ret (pe_callX D_total (hr.mono (by decide)) rfl passN (pa_cons (pv 3) pa_nil)))))),?_⟩
    show tSeq _ _ _ [some (.ref l),some (.int who),some (.int t),none,none,none,none,none] H
    obtain ⟨D,ok⟩:=Sw.fs_ok g.F g.ln g.pc g.pw
    have RR:=g.runs
    have n6:=g.F.n1
    have ln:=g.ln
    have fsl:(fsOf qs (Sw.Ti.nil.tags qs)).length=qs.length:=fsOf_len Sw.Ti.tags_len
    have fz:=fun x hx=>RR.x_sz ok t0 t1 (N:=2*n+1) (x:=x) hx
    have fw:=RR.fw_sz ok (Sw.whoAt qs) who t (2*n+1)
    have fl:=Sw.flowF_len (fs:=fsOf qs (Sw.Ti.nil.tags qs)) (n:=2*n+1) (mo:=0) (ma:=0)
    have big:121*62+100<sizeLine:=by decide
    rw [fsl] at fz
    rw [← Sw.fw_sum] at k
    have zt:Sw.SzQ 200 (t:Rat):=(Sw.SzQ.int (Sw.Sz.r18 (by omega) (by omega))).mono (by decide)
    refine seq_step fun R hR=>?_
    walk_at "rd"
    intro so hso
    refine hR _ _ ?_
    clear hR
    have n0:=same_new (o:=.lst []) hso
    have hd0:upd H so (.lst []) so=some (.lst []):=upd_same
    generalize upd H so (.lst [])=H0 at n0 hd0 ⊢
    refine seq_step fun R hR=>?_
    refine for_step fun Z hZ=>?_
    walk_at "rd"
    refine ⟨n,M,a,c,l,ps,qs,rfl,R0.same n0,g.F,g.ln,g.pc,g.pw,fun sl sp H1 s1 nsl SL PD=>?_⟩
    generalize Sw.flowF (fsOf qs (Sw.Ti.nil.tags qs)) (2*n+1) 0 0=xs at k fz fw fl SL
    clear RR ok
    have xl:=Paired.length SL.r
    have hd1:=s1 _ _ hd0
    have R1:=(R0.same n0).same s1
    have s1:=n0.trans s1
    have nlo:l≠so:=ne_of_none R0.hl hso
    refine ⟨sl,rfl,⟨_,.of SL.hl⟩,hZ _ _ ?_⟩
    have nso:sl≠so:=(ne_of_none hd0 nsl).symm
    obtain ⟨pls,pp,_,pe⟩:=PD
    refine for_list (K:=K) (a:=sl) (xs:=sp.map V.ref) (fun i σ H'=>∃ v4 v5 v6 v7 es,σ = [some (.ref l),some (.int who),some (.int t),some (.ref so),v4,v5,v6,v7]∧(∀ b o,b≠so→H1 b=some o→H' b=some o)∧Lst fq H' so es (Sw.fwL (Sw.whoAt qs) who (t:Rat) (xs.take i))∧es.length≤60*i) ⟨none,none,none,none,[],rfl,fun _ _ _ e=>e,⟨hd1,.nil⟩,Nat.zero_le _⟩ (fun i σ H' _ ⟨_,_,_,_,_,_,kp,_⟩=>.of (kp _ _ nso SL.hl)) ?_ ?_
    · rintro i y σ H2 hy ⟨v4,v5,v6,v7,es,rfl,kp,L,le⟩
      obtain ⟨p,hpi,rfl⟩:∃ p,sp[i]? = some p∧V.ref p=y:=by simpa using hy
      obtain ⟨x,hx,⟨pf,pt,pl,ss,g1,g2,g3,g4,g5⟩,nl⟩:=paired_get SL.r hpi
      have hi:i<sp.length:=(List.getElem?_eq_some_iff.mp hpi).1
      obtain ⟨z1,z2,z3,lx,zp⟩:=fz x (List.mem_of_getElem? hx)
      have el:=Paired.length g5
      have tk:∀ b zs,H1 b=some (.tup zs)→H2 b=some (.tup zs):=fun b zs e=>kp _ _ (ne_of e hd1 (by intro z; cases z)) e
      have npl:pl≠so:=by
        obtain ⟨pl',hpl,pf',pt',e⟩:=paired_get pp hpi
        rw [g1] at e
        cases e
        exact (ne_of_none hd0 (pe pl (List.mem_of_getElem? hpl)).1).symm
      have ex:Sw.fwL (Sw.whoAt qs) who (t:Rat) (xs.take (i+1))=Sw.fwL (Sw.whoAt qs) who (t:Rat) (xs.take i)++(if x.1<(t:Rat) then (x.2.2.filter fun p=>decide (Sw.whoAt qs p.1=who)).map fun p=>p.2*(min x.2.1 (t:Rat)-x.1) else []):=by
        rw [take_succ_of hx,Sw.fwL_app]
        congr 1
        exact List.append_nil _
      refine ⟨p,_,rfl,.of (tk _ _ g1),rfl,_,_,rfl,_,_,rfl,_,_,rfl,rfl,?_⟩
      show tIfS _ _ _ _ [some (.ref l),some (.int who),some (.int t),some (.ref so),some (.ref pf),some (.ref pt),some (.ref pl),v7] H2
      refine ends_hide fun D' hN hQ=>?_
      walk_at "rd"
      intro w1 f1
      have m1:=same_new (o:=.tup [.int t,.int 1]) f1
      have h1:upd H2 w1 (.tup [.int t,.int 1]) w1=some (.tup (fq (t:Rat))):=at_int
      have L1:Lst fq (upd H2 w1 (.tup [.int t,.int 1])) so es _:=⟨m1 _ _ L.hl,tupsF_same L.r m1⟩
      have kp1:∀ b o,b≠so→H1 b=some o→upd H2 w1 (.tup [.int t,.int 1]) b=some o:=fun b o n e=>m1 _ _ (kp b o n e)
      have tk1:∀ b zs,H1 b=some (.tup zs)→upd H2 w1 (.tup [.int t,.int 1]) b=some (.tup zs):=fun b zs e=>m1 _ _ (tk _ _ e)
      generalize upd H2 w1 (.tup [.int t,.int 1])=H3 at h1 L1 kp1 tk1 ⊢
      clear m1 f1 L kp tk
      refine ⟨pf,w1,x.1,(t:Rat),rfl,tk1 _ _ g2,h1,z1.mono (by decide),zt.mono (by decide),?_⟩
      walk_at "rd"
      refine ite2 (fun c1=>?_) fun c1=>?_
      · rw [if_pos c1] at ex
        refine seq_step fun R hR=>?_
        walk_at "rd"
        intro w2 f2
        have m2:=same_new (o:=.tup [.int t,.int 1]) f2
        refine ⟨pt,w2,x.2.1,(t:Rat),rfl,m2 _ _ (tk1 _ _ g3),at_int,z2.mono (by decide),zt.mono (by decide),fun w3 f3=>?_⟩
        have m3:=same_new (o:=.tup (fq (min x.2.1 (t:Rat)))) f3
        have zm:Sw.SzQ 2400 (min x.2.1 (t:Rat)):=by
          rw [Rat.min_def]; split
          · exact z2.mono (by decide)
          · exact zt.mono (by decide)
        refine ⟨w3,pf,min x.2.1 (t:Rat),x.1,2400,rfl,upd_same,m3 _ _ (m2 _ _ (tk1 _ _ g2)),by decide,zm,z1.mono (by decide),fun w4 f4=>hR _ _ ?_⟩
        clear hR
        have m4:=same_new (o:=.tup (fq (min x.2.1 (t:Rat)-x.1))) f4
        have mm:=(m2.trans m3).trans m4
        have h4:upd (upd (upd H3 w2 (.tup [.int t,.int 1])) w3 (.tup (fq (min x.2.1 (t:Rat))))) w4 (.tup (fq (min x.2.1 (t:Rat)-x.1))) w4=some (.tup (fq (min x.2.1 (t:Rat)-x.1))):=upd_same
        generalize upd (upd (upd H3 w2 (.tup [.int t,.int 1])) w3 (.tup (fq (min x.2.1 (t:Rat))))) w4 (.tup (fq (min x.2.1 (t:Rat)-x.1)))=H4 at mm h4 ⊢
        have L4:Lst fq H4 so es _:=⟨mm _ _ L1.hl,tupsF_same L1.r mm⟩
        have kp4:∀ b o,b≠so→H1 b=some o→H4 b=some o:=fun b o n e=>mm _ _ (kp1 b o n e)
        clear mm m2 m3 m4 f2 f3 f4 L1 kp1 tk1
        generalize min x.2.1 (t:Rat)-x.1=tm at z3 ex h4
        walk_at "rd"
        refine ⟨tyL_at L4.hl,?_⟩
        refine ⟨⟨_,.of (kp4 _ _ npl g4)⟩,fun Dl hDl=>?_⟩
        show CompG _ _ _ _ Dl [none,none,some (.int who),some (.ref l),some (.ref w4)] _ _
        refine comp_walk (xs:=ss.map V.ref) (fun j τ H'=>∃ v0 v1 rs,τ = [v0,v1,some (.int who),some (.ref l),some (.ref w4)]∧Same H4 H'∧Lst fq H' Dl rs (((x.2.2.take j).filter fun p=>decide (Sw.whoAt qs p.1=who)).map fun p=>p.2*tm)∧rs.length≤j) ⟨none,none,[],rfl,same_new hDl,⟨upd_same,.nil⟩,Nat.le_refl _⟩ (fun j τ H' _ ⟨_,_,_,_,sm,_⟩=>.of (sm _ _ (kp4 _ _ npl g4))) ?_ ?_
        · rintro j y' τ H5 hy' ⟨v0,v1,rs,rfl,sm,Lr,lr⟩
          obtain ⟨e,he,rfl⟩:∃ w,ss[j]? = some w∧V.ref w=y':=by simpa using hy'
          obtain ⟨z,hz,pr,e1,e2⟩:=paired_get g5 he
          have hj:j<ss.length:=(List.getElem?_eq_some_iff.mp he).1
          obtain ⟨lz,zz⟩:=zp z (List.mem_of_getElem? hz)
          have tk5:∀ b zs,H1 b=some (.tup zs)→H5 b=some (.tup zs):=fun b zs e=>sm _ _ (kp4 _ _ (ne_of e hd1 (by intro z; cases z)) e)
          have R5:Row H5 l ps qs:=⟨sm _ _ (kp4 _ _ nlo R1.hl),R1.r.keep tk5⟩
          obtain ⟨pq,q,i1,i2,i3⟩:=R5.item (i:=(z.1:Int)) (by omega) (by omega)
          have i2:qs[z.1]? = some q:=by simpa using i2
          have ew:Sw.whoAt qs z.1=q.2.1:=Sw.whoAt_of i2
          have et:((x.2.2.take (j+1)).filter fun p=>decide (Sw.whoAt qs p.1=who)).map (fun p=>p.2*tm)=((x.2.2.take j).filter fun p=>decide (Sw.whoAt qs p.1=who)).map (fun p=>p.2*tm)++(if q.2.1=who then [z.2*tm] else []):=by
            rw [take_succ_of hz,List.filter_append,List.map_append]
            congr 1
            by_cases d:q.2.1=who
            · rw [if_pos d,List.filter_cons_of_pos (by rw [decide_eq_true_eq,ew]; exact d)]; rfl
            · rw [if_neg d,List.filter_cons_of_neg (by rw [decide_eq_true_eq,ew]; exact d)]; rfl
          walk_at "rd"
          refine ⟨_,.of (tk5 _ _ e1),rfl,_,_,rfl,_,_,rfl,rfl,?_⟩
          walk_at "rd"
          refine ixL_at (.of R5.hl) i1 (ixT_at (.of i3) rfl ⟨rfl,?_⟩)
          by_cases d:q.2.1=who
          · rw [if_pos (show V.int q.2.1=V.int who by rw [d])]
            rw [if_pos d] at et
            walk_at "rd"
            refine ⟨pr,w4,z.2,tm,2400,rfl,tk5 _ _ e2,sm _ _ h4,by decide,zz.mono (by decide),z3.mono (by decide),fun w5 f5=>?_⟩
            have m5:=same_new (o:=.tup (fq (z.2*tm))) f5
            have L5:Lst fq (upd H5 w5 (.tup (fq (z.2*tm)))) Dl rs _:=⟨m5 _ _ Lr.hl,tupsF_same Lr.r m5⟩
            have kt:∀ b zs,upd H5 w5 (.tup (fq (z.2*tm))) b=some (.tup zs)→upd (upd H5 w5 (.tup (fq (z.2*tm)))) Dl (.lst (rs.map V.ref++[.ref w5])) b=some (.tup zs):=fun b zs e=>upd_tup L5.hl e
            refine ⟨_,L5.hl,line_lt (by rw [List.length_map]; omega),fun b o e=>?_,rs++[w5],⟨by rw [upd_same,List.map_append]; rfl,?_⟩,by rw [List.length_append]; simp only [List.length_cons,List.length_nil]; omega⟩
            · rw [upd_ne (ne_of_none e hDl)]; exact m5 _ _ (sm _ _ e)
            · rw [et]
              exact tupsF_snoc (kt _ _ upd_same) (tupsF_keep L5.r kt)
          · rw [if_neg (fun y=>d (V.int.inj y))]
            rw [if_neg d,List.append_nil] at et
            exact ⟨sm,rs,⟨Lr.hl,by rw [et]; exact Lr.r⟩,by omega⟩
        · rintro τ H5 ⟨v0,v1,rs,rfl,sm,Lr,lr⟩
          rw [List.take_of_length_le (by rw [List.length_map]; omega)] at Lr
          rw [List.length_map] at lr
          have L5:Lst fq H5 so es _:=⟨sm _ _ L4.hl,tupsF_same L4.r sm⟩
          have kt:∀ b zs,H5 b=some (.tup zs)→upd H5 so (.lst (es.map V.ref++rs.map V.ref)) b=some (.tup zs):=fun b zs e=>upd_tup L5.hl e
          refine ⟨so,Dl,_,_,rfl,rfl,L5.hl,Lr.hl,by rw [List.length_map,List.length_map]; omega,hN _ _ ⟨_,_,_,_,es++rs,rfl,fun b o n e=>?_,⟨by rw [upd_same,List.map_append],?_⟩,?_⟩⟩
          · rw [upd_ne n]; exact sm _ _ (kp4 b o n e)
          · rw [ex]
            exact tupsF_app (tupsF_keep Lr.r kt) (tupsF_keep L5.r kt)
          · rw [List.length_append]; omega
      · rw [if_neg c1,List.append_nil] at ex
        exact hN _ _ ⟨_,_,_,_,es,rfl,kp1,by rw [ex]; exact L1,by omega⟩
    · rintro σ H2 ⟨v4,v5,v6,v7,es,rfl,kp,L,le⟩
      rw [List.length_map] at le
      rw [List.take_of_length_le (by rw [List.length_map]; omega)] at L
      refine hR _ _ ?_
      clear hR
      walk_at "rd"
      refine ⟨so,es,_,rfl,L,fun j=>(fw.2 j).mono (by decide),fun q hq=>((fw.1 q hq).2).mono (by decide),fun r H3 s3 hr3=>?_⟩
      refine k r H3 (fun b o e=>s3 _ _ (kp _ _ (ne_of_none e hso) (s1 _ _ e))) hr3
theorem d__law_cell_at (T:Txt K mg c_Tide c_Wheel):Def P w K mg base (CXX P w) 1 "_law_cell_at" ["_law_script", "_law_k"] (spCell K):=by
  refine T.src__law_cell_at.okN (k:=0) sc__law_cell_at (fun vs H Q E h=>?_) (fun f cdv A outer s H vs Q E hr h=>?_)
  · obtain ⟨a,ns,i,rfl,_⟩:=h
    rfl
  · obtain ⟨a,ns,i,rfl,hS,hi,k⟩:=h
    refine ⟨_,(pss_cons (ps_if (pt_cmpR op_lt (pv 1) (pe_callB (call_lenK K rfl) rfl T.no_len boot_len (pa_cons (pv 0) pa_nil)) (nomark _)) (pss_one (ps_ret (pe_ix (ix_listK K rfl) (pv 0) (pv 1) (fun _ _=>rfl)))) pss_nil) (pss_one (ps_ret pe_int))),?_⟩
    refine ⟨_,rfl,_,rfl,a,_,rfl,.inl hS,_,_,rfl,rfl,_,rfl,?_⟩
    refine ite2 (fun h=>?_) (fun h=>?_)
    · have h':i<(ns.map V.int).length:=of_decide_eq_true h
      exact ⟨_,rfl,_,rfl,a,_,_,_,rfl,rfl,hS,cellAt_get hi (by simpa using h'),k⟩
    · have h':¬ i<(ns.map V.int).length:=fun z=>h (decide_eq_true z)
      show Q (.int 0) H
      rw [cellAt_none hi (by simpa using h')] at k
      exact k
theorem cut_drop (xs:List V) (n:Nat) (h:n≤xs.length):cutV xs (some (n:Int)) none=xs.drop n:=by
  unfold cutV
  rw [HT.sIx_none,HT.sIx_nat,Nat.min_eq_left h]
  exact List.take_of_length_le (by rw [List.length_drop]; omega)
def spStream:Sp:=fun vs H Q _=>∃ c mn,vs = [.int c,.int ((mn:Nat):Int)]∧mn≤60∧∀ p (ms:List Int) H',Same H H'→H p=none→H' p=some (.lst (ms.map V.int))→ms.length=mn→(∀ m∈ms,0≤m∧m<2147483647)→Q (.ref p) H'
theorem d__law_stream (T:Txt K mg c_Tide c_Wheel):Def P w K mg base (CXX P w) 1 "_law_stream" ["_law_cell", "_law_many"] spStream:=by
  refine T.src__law_stream.okN (k:=0) sc__law_stream (fun vs H Q E h=>?_) (fun f cdv A outer s H vs Q E hr h=>?_)
  · obtain ⟨c,mn,rfl,_⟩:=h
    rfl
  · obtain ⟨c,mn,rfl,mn6,k⟩:=h
    refine ⟨_,(pss_cons (ps_set (i:=2) sc__law_stream.nd rfl (by first|left;rfl|right;rfl) (pe_lst pa_nil)) (pss_cons (ps_set (i:=3) sc__law_stream.nd rfl (by first|left;rfl|right;rfl) (pe_op op_add (pe_op op_mod (pv 0) pe_int) pe_int)) (pss_cons (ps_for PassesOwn.never rfl (pi_range1 rfl T.no_range (pa_cons (pe_op op_add (pv 1) pe_int) pa_nil)) (pg_name (i:=4) sc__law_stream.nd rfl (by first|left;rfl|right;rfl)) (pss_cons (ps_set (i:=3) sc__law_stream.nd rfl (by first|left;rfl|right;rfl) (pe_op op_mod (pe_op op_add (pe_op op_add (pe_op op_mulL (pv 3) (pv 3)) (pe_op op_mulL pe_int (pv 3))) (pv 4)) pe_int)) (pss_one (ps_expr (pe_bm PySem.F.plainAttrs_list PySem.F.slot_list_append PySem.F.type_list_append mt_append (pv 2) (pa_cons (pv 3) pa_nil)))))) (pss_one (ps_ret (pe_slice (sl_listK K rfl) (pv 2) (po_some pe_int) po_none)))))),?_⟩
    show tSeq _ _ _ [some (.int c),some (.int ((mn:Nat):Int)),none,none,none] H
    refine seq_step fun R hR=>?_
    walk_at "rd"
    intro p0 hp0
    refine hR _ _ ?_
    have s0:=same_new (o:=.lst []) hp0
    have h0:upd H p0 (.lst []) p0=some (.lst (([]:List Int).map V.int)):=upd_same
    generalize upd H p0 (.lst [])=H0 at s0 h0 ⊢
    refine seq_step fun R hR=>?_
    walk_at "rd"
    refine hR _ _ ?_
    have e1:=Int.emod_nonneg c (show (2147483647:Int)≠0 by decide)
    have e2:=Int.emod_lt_of_pos c (show (0:Int)<2147483647 by decide)
    generalize hx:c % 2147483647+48271=x
    have x0:0≤x:=by omega
    have x1:x<3000000000:=by omega
    clear hx e1 e2
    refine seq_step fun R hR=>?_
    refine for_step fun Z hZ=>?_
    walk_at "rd"
    have e1:((mn:Int)+1).toNat=mn+1:=by omega
    rw [e1]
    refine ⟨by omega,by omega,hZ _ _ ?_⟩
    refine for_range (fun i σ H'=>∃ n v4 ms,σ = [some (.int c),some (.int ((mn:Nat):Int)),some (.ref p0),some (.int n),v4]∧Same H H'∧H' p0=some (.lst ((ms:List Int).map V.int))∧ms.length=i∧(∀ m∈ms,0≤m∧m<2147483647)∧0≤n∧n<3000000000) ⟨x,none,[],rfl,s0,h0,rfl,fun m h=>absurd h List.not_mem_nil,x0,x1⟩ ?_ ?_
    · rintro i σ H1 hi ⟨n,v4,ms,rfl,sm,hl,lm,mm,n0,n1⟩
      show tSeq _ _ _ [some (.int c),some (.int ((mn:Nat):Int)),some (.ref p0),some (.int n),some (.int (0+(i:Int)))] H1
      have zn:Sw.Sz 70 n:=Sw.Sz.r18 (by omega) (by omega)
      refine seq_step fun R hR=>?_
      walk_at "rd"
      refine ⟨⟨zn.mono (by decide),zn.mono (by decide)⟩,⟨Sw.Sz.lit (by decide),zn.mono (by decide)⟩,hR _ _ ?_⟩
      generalize hy:(n*n+48271*n+(0+(i:Int))) % 2147483647=y
      have y0:0≤y:=by rw [← hy]; exact Int.emod_nonneg _ (by decide)
      have y1:y<2147483647:=by rw [← hy]; exact Int.emod_lt_of_pos _ (by decide)
      refine nx_step fun R hR=>?_
      walk_at "rd"
      refine ⟨tyL_at hl,app_at hl (by rw [List.length_map]; omega) (hR _ _ ?_)⟩
      refine ⟨y,_,ms++[y],rfl,fun b o e=>?_,by rw [upd_same,List.map_append]; rfl,by simp [lm],fun m h=>?_,y0,by omega⟩
      · rw [upd_ne (ne_of_none e hp0)]; exact sm _ _ e
      · rcases List.mem_append.mp h with z | z
        · exact mm m z
        · have:m=y:=by simpa using z
          subst this
          exact ⟨y0,y1⟩
    · rintro σ H1 ⟨n,v4,ms,rfl,sm,hl,lm,mm,n0,n1⟩
      refine hR _ _ ?_
      walk_at "rd"
      refine slL_at (.of hl) fun p hp=>?_
      have lm:ms.length=mn+1:=by simpa using lm
      have ec:=cut_drop (ms.map V.int) 1 (by rw [List.length_map]; omega)
      refine k p (ms.drop 1) _ (sm.trans (same_new hp)) (sm.free hp) (by rw [upd_same]; exact congrArg (fun z=>some (HO.lst z)) (ec.trans (by rw [List.map_drop]))) (by rw [List.length_drop,lm]; omega) fun m h=>mm m (List.mem_of_mem_drop h)
theorem cut_len (xs:List V) (lo hi:Nat):(cutV xs (some (lo:Int)) (some (hi:Int))).length≤hi-lo:=by
  unfold cutV
  rw [HT.sIx_nat,HT.sIx_nat,List.length_take]
  omega
theorem pickX {K:PySem.W.Frag} {H:Hp} {t:Addr} {i:Int} {Q:VK} (xs:List Int) (h0:0≤i) (h1:i<xs.length) (k:∀ z:Int,xs[i.toNat]? = some z→Q (.int z) (upd H t (.lst (xs.map V.int)))):rIxL K (.ref t) (.int i) (upd H t (.lst (xs.map V.int))) Q:=by
  have:=atI_nat (xs:=xs.map V.int) (j:=i.toNat) (v:=V.int (xs[i.toNat]'(by omega))) (by simp)
  rw [Int.toNat_of_nonneg h0] at this
  exact ixL_at (.of upd_same) this (k _ (List.getElem?_eq_getElem _))
def spRow (K:PySem.W.Frag):Sp:=fun vs H Q _=>∃ (a:Addr) (ns:List Int),vs = [.ref a]∧SqL K H a (ns.map V.int)∧ns.length≤63∧∀ H' l ps qs,Same H H'→H l=none→Row H' l ps qs→qs.length≤12→(∃ n M a c,Sw.Good n M a c qs)→Q (.ref l) H'
theorem d__law_row (T:Txt K mg c_Tide c_Wheel):Def P w K mg base (CXX P w) 2 "_law_row" ["_law_script"] (spRow K):=by
  have D__law_stream:=d__law_stream (P:=P) (w:=w) (base:=base) T
  have D__law_cell_at:=d__law_cell_at (P:=P) (w:=w) (base:=base) T
  refine T.src__law_row.okN (k:=1) sc__law_row (fun vs H Q E h=>?_) (fun f cdv A outer s H vs Q E hr h=>?_)
  · obtain ⟨a,ns,rfl,_⟩:=h
    rfl
  · obtain ⟨a,ns,rfl,hS,hlen,k⟩:=h
    refine ⟨_,(pss_cons (ps_set (i:=1) sc__law_row.nd rfl (by first|left;rfl|right;rfl) (pe_op op_mod (pe_callX D__law_cell_at (hr.mono (by decide)) rfl passN (pa_cons (pv 0) (pa_cons pe_int pa_nil))) pe_int)) (pss_cons (ps_set (i:=2) sc__law_row.nd rfl (by first|left;rfl|right;rfl) (pe_op op_mod (pe_op op_fdivL (pv 1) pe_int) pe_int)) (pss_cons (ps_set (i:=3) sc__law_row.nd rfl (by first|left;rfl|right;rfl) (pe_ix (ix_listK K rfl) (pe_lst (pa_cons pe_int (pa_cons pe_int (pa_cons pe_int (pa_cons pe_int pa_nil))))) (pv 2) (fun _ _=>rfl))) (pss_cons (ps_set (i:=4) sc__law_row.nd rfl (by first|left;rfl|right;rfl) (pe_lst pa_nil)) (pss_cons (ps_for PassesOwn.never rfl (pi_enumK K rfl rfl T.no_enumerate (pa_cons (pe_slice (sl_listK K rfl) (pv 0) (po_some pe_int) (po_some (pe_op op_add pe_int (pe_ix (ix_listK K rfl) (pe_lst (pa_cons pe_int (pa_cons pe_int (pa_cons pe_int (pa_cons pe_int pa_nil))))) (pv 2) (fun _ _=>rfl))))) pa_nil)) (pg_tupK (n:=2) K rfl rfl (pgs_cons (pg_name (i:=5) sc__law_row.nd rfl (by first|left;rfl|right;rfl)) (pgs_cons (pg_name (i:=6) sc__law_row.nd rfl (by first|left;rfl|right;rfl)) pgs_nil))) (pss_cons (ps_set (i:=7) sc__law_row.nd rfl (by first|left;rfl|right;rfl) (pe_callX D__law_stream (hr.mono (by decide)) rfl passN (pa_cons (pv 6) (pa_cons pe_int pa_nil)))) (pss_cons (ps_set (i:=8) sc__law_row.nd rfl (by first|left;rfl|right;rfl) (pe_op op_mod (pe_ix (ix_listK K rfl) (pv 7) pe_int (fun _ _=>rfl)) (pe_op op_add pe_int (pe_op op_mod (pv 1) pe_int)))) (pss_cons (ps_if (pt_cmpR op_eq (pe_op op_mod (pe_op op_fdivL (pv 1) pe_int) pe_int) pe_int (nomark _)) (pss_one (ps_set (i:=8) sc__law_row.nd rfl (by first|left;rfl|right;rfl) (pe_op op_mod (pe_op op_fdivL (pv 5) pe_int) (pe_op op_add pe_int (pe_op op_mod (pv 1) pe_int))))) (pss_one (ps_if (pt_cmpR op_gt (pv 5) pe_int (nomark _)) (pss_one (ps_set (i:=3) sc__law_row.nd rfl (by first|left;rfl|right;rfl) (pe_op op_add (pv 3) (pe_op op_mod (pe_ix (ix_listK K rfl) (pv 7) pe_int (fun _ _=>rfl)) (pe_ix (ix_listK K rfl) (pe_lst (pa_cons pe_int (pa_cons pe_int (pa_cons (pe_op op_add (pe_op op_pow pe_int pe_int) pe_int) (pa_cons pe_int pa_nil))))) (pv 2) (fun _ _=>rfl)))))) pss_nil))) (pss_cons (ps_set (i:=9) sc__law_row.nd rfl (by first|left;rfl|right;rfl) (pe_op op_add pe_int (pe_op op_mod (pe_ix (ix_listK K rfl) (pv 7) pe_int (fun _ _=>rfl)) (pe_ix (ix_listK K rfl) (pe_lst (pa_cons pe_int (pa_cons pe_int (pa_cons (pe_op op_pow pe_int pe_int) (pa_cons pe_int pa_nil))))) (pv 2) (fun _ _=>rfl))))) (pss_cons (ps_set (i:=10) sc__law_row.nd rfl (by first|left;rfl|right;rfl) (pe_op op_add pe_int (pe_op op_mod (pe_ix (ix_listK K rfl) (pv 7) pe_int (fun _ _=>rfl)) (pe_ix (ix_listK K rfl) (pe_lst (pa_cons pe_int (pa_cons pe_int (pa_cons (pe_op op_pow pe_int pe_int) (pa_cons pe_int pa_nil))))) (pv 2) (fun _ _=>rfl))))) (pss_one (ps_expr (pe_bm PySem.F.plainAttrs_list PySem.F.slot_list_append PySem.F.type_list_append mt_append (pv 4) (pa_cons (pe_tup (pa_cons (pv 3) (pa_cons (pv 8) (pa_cons (pv 9) (pa_cons (pv 10) pa_nil))))) pa_nil)))))))))) (pss_one (ps_ret (pv 4)))))))),?_⟩
    show tSeq _ _ _ [some (.ref a),none,none,none,none,none,none,none,none,none,none] H
    refine seq_step fun R hR=>?_
    walk_at "rd"
    refine spCell_of hS (by decide) ?_
    walk_at "rd"
    refine hR _ _ ?_
    clear hR
    have k0:=Int.emod_nonneg (cellI ns 0) (show (2147483647:Int)≠0 by decide)
    generalize cellI ns 0 % 2147483647=kind at k0 ⊢
    refine seq_step fun R hR=>?_
    walk_at "rd"
    refine hR _ _ ?_
    clear hR
    generalize hw:kind / 4 % 4=way
    have w0:0≤way∧way<4:=by omega
    clear hw
    refine seq_step fun R hR=>?_
    walk_at "rd"
    intro q1 f1
    refine pickX [0,7,3,0] w0.1 w0.2 fun at0 hm1=>hR _ _ ?_
    clear hR
    have a0:0≤at0∧at0≤7:=by
      have hm:=List.mem_of_getElem? hm1
      simp only [List.mem_cons,List.not_mem_nil,or_false] at hm
      omega
    have s1:=same_new (o:=.lst (([0,7,3,0]:List Int).map V.int)) f1
    generalize upd H q1 (.lst (([0,7,3,0]:List Int).map V.int))=H1 at s1 ⊢
    clear hm1 f1
    refine seq_step fun R hR=>?_
    walk_at "rd"
    intro l hl
    refine hR _ _ ?_
    clear hR
    have hl0:H l=none:=s1.free hl
    have s2:=same_new (o:=.lst []) hl
    have hl2:upd H1 l (.lst []) l=some (.lst (([]:List Addr).map V.ref)):=upd_same
    have sm2:=s1.trans s2
    generalize upd H1 l (.lst [])=H2 at hl2 sm2 ⊢
    clear s1 s2 hl
    refine seq_step fun R hR=>?_
    refine for_step fun Z hZ=>?_
    walk_at "rd"
    intro q2 f2
    refine pickX [12,12,5,12] w0.1 w0.2 fun hi hm2=>⟨_,rfl,?_⟩
    have b2:1≤hi∧hi≤12:=by
      have hm:=List.mem_of_getElem? hm2
      simp only [List.mem_cons,List.not_mem_nil,or_false] at hm
      omega
    have n2:=same_new (o:=.lst (([12,12,5,12]:List Int).map V.int)) f2
    have hl2:=n2 _ _ hl2
    have sm2:=sm2.trans n2
    generalize upd H2 q2 (.lst (([12,12,5,12]:List Int).map V.int))=H3 at hl2 sm2 ⊢
    clear n2 f2
    obtain ⟨ms,em,hm3⟩:=cutV_ints ns (some 1) (some (1+hi))
    have lms:(ms.length:Int)≤hi:=by
      have e:=cut_len (ns.map V.int) 1 (1+hi).toNat
      have e1:(((1+hi).toNat:Nat):Int) = 1+hi:=by omega
      rw [e1] at e
      have e2:cutV (ns.map V.int) (some ((1:Nat):Int)) (some (1+hi))=ms.map V.int:=em
      rw [e2,List.length_map] at e
      omega
    refine slL_at (sm2.seq hS) fun p hp=>?_
    have npl:p≠l:=fun z=>by rw [z,hl2] at hp; cases hp
    have n3:=same_new (o:=.lst (cutV (ns.map V.int) (some 1) (some (1+hi)))) hp
    have hl3:=n3 _ _ hl2
    have sm3:=sm2.trans n3
    have hp3:upd H3 p (.lst (cutV (ns.map V.int) (some 1) (some (1+hi)))) p=some (.lst (ms.map V.int)):=by rw [upd_same,em]
    generalize upd H3 p (.lst (cutV (ns.map V.int) (some 1) (some (1+hi))))=H4 at hl3 sm3 hp3 ⊢
    clear n3 hp hl2 sm2 em
    refine ⟨p,rfl,⟨_,.of hp3⟩,hZ _ _ ?_⟩
    have cls:(hi≤8∧way = 2)∨way≠2:=by
      by_cases w2:way = 2
      · subst w2
        simp at hm2
        exact .inl ⟨by omega,rfl⟩
      · exact .inr w2
    refine for_enum (K:=K) (a:=p) (xs:=ms.map V.int) (fun i σ H'=>∃ at_ ps qs v6 v7 v8 v9 v10 v11,σ = [some (.ref a),some (.int kind),some (.int way),some (.int at_),some (.ref l),v6,v7,v8,v9,v10,v11]∧Same H H'∧H' p=some (.lst (ms.map V.int))∧Row H' l ps qs∧qs.length=i∧0≤at_∧at_≤7+1000001*i∧(∀ q∈qs,0≤q.1∧q.1≤at_∧1≤q.2.2.1∧q.2.2.1≤1000000∧1≤q.2.2.2∧q.2.2.2≤1000000∧(way≠2→q.2.2.2≤99))∧qs.Pairwise (fun a b=>a.1≤b.1)) ⟨at0,[],[],none,none,none,none,none,none,rfl,sm3,hp3,⟨hl3,.nil⟩,rfl,a0.1,by simp; omega,fun q h=>absurd h List.not_mem_nil,.nil⟩ (fun i σ H' _ ⟨_,_,_,_,_,_,_,_,_,_,_,h,_⟩=>.of h) ?_ ?_
    · rintro i y σ H5 pt hy ⟨at_,ps,qs,v6,v7,v8,v9,v10,v11,rfl,sm,hp5,R5,lq,t0,t1,qk,pw⟩ hpt
      obtain ⟨c,hc,rfl⟩:∃ c,ms[i]? = some c∧V.int c=y:=by simpa using hy
      have hil:i<ms.length:=(List.getElem?_eq_some_iff.mp hc).1
      refine ⟨pt,_,rfl,.of upd_same,rfl,_,_,rfl,_,_,rfl,rfl,?_⟩
      have s5:=same_new (o:=.tup [.int i,.int c]) hpt
      have sm:=sm.trans s5
      have hp5:=s5 _ _ hp5
      have R5:=R5.same s5
      generalize upd H5 pt (.tup [.int i,.int c])=H5' at sm hp5 R5 ⊢
      clear s5 hpt
      show tSeq _ _ _ [some (.ref a),some (.int kind),some (.int way),some (.int at_),some (.ref l),some (.int i),some (.int c),v8,v9,v10,v11] H5'
      refine nx_step fun N hN=>?_
      refine seq_step fun R hR=>?_
      walk_at "rd"
      refine ⟨c,4,rfl,by decide,fun xp xs H6 s6 _ hx lx xm=>hR _ _ ?_⟩
      clear hR
      match xs,lx with
      | [x0,x1,x2,x3],_ =>
        have m0:=xm x0 (by simp)
        have m1:=xm x1 (by simp)
        have m2:=xm x2 (by simp)
        have m3:=xm x3 (by simp)
        have sm:=sm.trans s6
        have hp5:=s6 _ _ hp5
        have R5:=R5.same s6
        clear s6 xm
        have kd:0≤kind % 4∧kind % 4<4:=by omega
        refine seq_step fun R hR=>?_
        walk_at "rd"
        refine ixL_at (.of hx) (show atI [V.int x0,.int x1,.int x2,.int x3] 3=some (.int x3) from rfl) ?_
        refine ⟨_,rfl,by omega,hR _ _ ?_⟩
        clear hR
        have wb:=Int.emod_nonneg x3 (show 1+kind % 4≠0 by omega)
        have wb2:=Int.emod_lt_of_pos x3 (show 0<1+kind % 4 by omega)
        generalize x3 % (1+kind % 4)=who0 at wb wb2 ⊢
        refine seq_step fun R hR=>?_
        have key:∀ at1 who H7,Same H6 H7→at_≤at1→at1≤at_ + 1000001→0≤who→who<4→R [some (.ref a),some (.int kind),some (.int way),some (.int at1),some (.ref l),some (.int i),some (.int c),some (.ref xp),some (.int who),v10,v11] H7:=by
          intro at1 who H7 sA at1a at1b wh0 wh1
          refine hR _ _ ?_
          clear hR
          have hx0:∀ {HH:Hp},Same H6 HH→SqL K HH xp [.int x0,.int x1,.int x2,.int x3]:=fun sh=>.of (sh _ _ hx)
          refine seq_step fun R hR=>?_
          walk_at "rd"
          refine ixL_at (hx0 sA) (show atI [V.int x0,.int x1,.int x2,.int x3] 1=some (.int x1) from rfl) ?_
          intro q5 f5
          refine pickX [9,29,1000000,9] w0.1 w0.2 fun z hz=>⟨_,rfl,z,rfl,?_,hR _ _ ?_⟩
          · have hm:=List.mem_of_getElem? hz
            simp only [List.mem_cons,List.not_mem_nil,or_false] at hm
            omega
          clear hR
          have z1:0<z∧z≤1000000:=by
            have hm:=List.mem_of_getElem? hz
            simp only [List.mem_cons,List.not_mem_nil,or_false] at hm
            omega
          have sA:=sA.trans (same_new (o:=.lst (([9,29,1000000,9]:List Int).map V.int)) f5)
          generalize upd H7 q5 (.lst (([9,29,1000000,9]:List Int).map V.int))=H9 at sA ⊢
          clear f5 hz
          have u0:=Int.emod_nonneg x1 (show z≠0 by omega)
          have u1:=Int.emod_lt_of_pos x1 z1.1
          generalize hle:1+x1 % z=len
          have lenb:1≤len∧len≤1000000:=by omega
          clear hle u0 u1 z1
          refine seq_step fun R hR=>?_
          walk_at "rd"
          refine ixL_at (hx0 sA) (show atI [V.int x0,.int x1,.int x2,.int x3] 2=some (.int x2) from rfl) ?_
          intro q7 f7
          refine pickX [9,50,1000000,3] w0.1 w0.2 fun z hz=>⟨_,rfl,z,rfl,?_,hR _ _ ?_⟩
          · have hm:=List.mem_of_getElem? hz
            simp only [List.mem_cons,List.not_mem_nil,or_false] at hm
            omega
          clear hR
          have z1:0<z∧z≤1000000:=by
            have hm:=List.mem_of_getElem? hz
            simp only [List.mem_cons,List.not_mem_nil,or_false] at hm
            omega
          have z2:way≠2→z≤50:=fun w2=>by
            have w5:way = 0∨way = 1∨way = 3:=by omega
            rcases w5 with rfl | rfl | rfl <;> simp at hz <;> omega
          have sA:=sA.trans (same_new (o:=.lst (([9,50,1000000,3]:List Int).map V.int)) f7)
          generalize upd H9 q7 (.lst (([9,50,1000000,3]:List Int).map V.int))=H10 at sA ⊢
          clear f7 hz
          have u0:=Int.emod_nonneg x2 (show z≠0 by omega)
          have u1:=Int.emod_lt_of_pos x2 z1.1
          generalize hsh:1+x2 % z=sh
          have shb:1≤sh∧sh≤1000000∧(way≠2→sh≤99):=⟨by omega,by omega,fun w2=>by have:=z2 w2; omega⟩
          clear hsh u0 u1 z1 z2
          walk_at "rd"
          have R10:=R5.same sA
          refine ⟨tyL_at R10.hl,?_⟩
          intro tp ftp
          have sA:=sA.trans (same_new (o:=.tup [.int at1,.int who,.int len,.int sh]) ftp)
          have htp:upd H10 tp (.tup [.int at1,.int who,.int len,.int sh]) tp=some (.tup (q4 (at1,who,len,sh))):=upd_same
          generalize upd H10 tp (.tup [.int at1,.int who,.int len,.int sh])=H11 at sA htp ⊢
          have R11:=R5.same sA
          have hp11:=sA _ _ hp5
          have lr:=R11.r.len
          have kt:∀ b xs,H11 b=some (.tup xs)→upd H11 l (.lst (ps.map V.ref++[.ref tp])) b=some (.tup xs):=fun b xs e=>upd_tup R11.hl e
          refine app_at R11.hl (by rw [List.length_map]; omega) (hN _ _ ⟨at1,ps++[tp],qs++[(at1,who,len,sh)],_,_,_,_,_,_,rfl,fun b o e=>?_,?_,⟨?_,?_⟩,by rw [List.length_append,lq]; rfl,by omega,by push_cast; omega,fun q hq=>?_,?_⟩)
          · rw [upd_ne (ne_of_none e hl0)]; exact sA _ _ (sm _ _ e)
          · rw [upd_ne npl]; exact hp11
          · rw [upd_same,List.map_append]; rfl
          · exact Tups.snoc (kt _ _ htp) (R11.r.keep kt)
          · rcases List.mem_append.mp hq with y | y
            · have:=qk q y
              omega
            · have:q = _:=List.mem_singleton.mp y
              rw [this]
              exact ⟨by omega,Int.le_refl _,lenb.1,lenb.2,shb.1,shb.2.1,shb.2.2⟩
          · rw [List.pairwise_append]
            refine ⟨pw,by simp,fun u hu v hv=>?_⟩
            have:v = _:=List.mem_singleton.mp hv
            rw [this]
            have:=qk u hu
            show u.1≤at1
            omega
        clear hR
        walk_at "rd"
        refine ite2 (fun _=>?_) fun _=>?_
        · refine ⟨by omega,key _ _ _ (Same.refl _) (Int.le_refl _) (by omega) (Int.emod_nonneg _ (by omega)) ?_⟩
          have:=Int.emod_lt_of_pos ((i:Int) / 3) (show 0<1+kind % 4 by omega)
          omega
        · refine ite2 (fun _=>?_) fun _=>key _ _ _ (Same.refl _) (Int.le_refl _) (by omega) wb (by omega)
          refine ixL_at (.of hx) (show atI [V.int x0,.int x1,.int x2,.int x3] 0=some (.int x0) from rfl) ?_
          intro q4' f4
          refine pickX [4,30,1000001,2] w0.1 w0.2 fun z hz=>⟨_,rfl,z,rfl,?_,?_⟩
          · have hm:=List.mem_of_getElem? hz
            simp only [List.mem_cons,List.not_mem_nil,or_false] at hm
            omega
          have z1:0<z∧z≤1000001:=by
            have hm:=List.mem_of_getElem? hz
            simp only [List.mem_cons,List.not_mem_nil,or_false] at hm
            omega
          have u0:=Int.emod_nonneg x0 (show z≠0 by omega)
          have u1:=Int.emod_lt_of_pos x0 z1.1
          exact key _ _ _ (same_new f4) (by omega) (by omega) wb (by omega)
    · rintro σ H5 ⟨at_,ps,qs,v6,v7,v8,v9,v10,v11,rfl,sm,hp5,R5,lq,t0,t1,qk,pw⟩
      rw [List.length_map] at lq t1
      refine hR _ _ ?_
      walk_at "rd"
      refine k H5 l ps qs sm hl0 R5 (by omega) ?_
      rcases cls with ⟨h8,_⟩ | nw
      · exact ⟨16,1000000,24,44,⟨Sw.fit16,by omega,fun q hq=>by have:=qk q hq; exact ⟨by omega,by omega,by omega,by omega,by omega,by omega⟩,pw⟩⟩
      · exact ⟨60,99,13,20,⟨Sw.fit60,by omega,fun q hq=>by have:=qk q hq; have:=this.2.2.2.2.2.2 nw; exact ⟨by omega,by omega,by omega,by omega,by omega,by omega⟩,pw⟩⟩
theorem row_at {H:Hp} {l:Addr} {ps:List Addr} {qs:List Q4} {i:Nat} {q:Q4} (R:Row H l ps qs) (h:qs[i]? = some q):∃ p,ps[i]? = some p∧H p=some (.tup (q4 q)):=by
  have hi:=(List.getElem?_eq_some_iff.mp h).1
  have hp:ps[i]? = some (ps[i]'(by rw [R.r.len]; exact hi)):=List.getElem?_eq_getElem _
  obtain ⟨q',e,h'⟩:=R.r.get hp
  rw [h] at e
  cases e
  exact ⟨_,hp,h'⟩
def goD (x:Nat×Int):PyData:=.tuple [.int (x.1:Int),.int x.2]
theorem gos_deep {H:Hp}:∀ {ps:List Addr} {gn:List (Nat×Int)},TupsF goE H ps gn→DeepAll K H (ps.map V.ref) (gn.map goD)
  | _,_,Paired.nil=>.nil
  | _,_,Paired.cons a b=>.cons (.tup (.of a) (.cons (.int _) (.cons (.int _) .nil))) (gos_deep b)
theorem shaped_gos (gn:List (Nat×Int)):PySem.SeqAt.shaped (.list (gn.map goD))=true:=shaped_list (n:=1) (fun _=>rfl) (fun _=>by simp [goD,PyData.depth,PyData.depthAll]) (by decide) gn
theorem goes_after {n:Nat} {M:Int} {a c:Nat} {qs:List Q4} {rm:Int→Option Int} (g:Sw.Good n M a c qs) {k:Nat} {g1:Nat×Int} {q:Q4} (hg:(Sw.dealtR rm qs).2.2[k]? = some g1) (hq:qs[g1.1]? = some q):q.1≤g1.2:=by
  obtain ⟨T,cs,tr,td,ch,pm,bz⟩:=Sw.dealtR_near (rm:=rm) g
  have el:=congrArg List.length ch.len
  rw [List.length_map,List.length_map] at el
  have kl:k<cs.length:=by have:=(List.getElem?_eq_some_iff.mp hg).1; omega
  have hc:cs[k]? = some cs[k]:=List.getElem?_eq_getElem kl
  generalize cs[k] = c at hc
  have e1:(cs.map (·.1))[k]? = some c.1:=by rw [List.getElem?_map,hc]; rfl
  rw [ch.len,List.getElem?_map,hg] at e1
  have e2:g1.1=c.1:=Option.some.inj e1
  have e3:=tr.it c (pm.subset (List.mem_of_getElem? hc))
  rw [← e2,hq] at e3
  cases e3
  exact (ch.at hg hc).come
theorem dealt_bd {n:Nat} {M:Int} {a c:Nat} {qs:List Q4} (g:Sw.Good n M a c qs):∀ g'∈(Sw.dealtF qs).2.2,0≤g'.2∧g'.2≤200000000000000∧∃ q,qs[g'.1]? = some q:=by
  have e1:=(Sw.dealt_none qs).1
  intro g' hg'
  have pm:=(Sw.places g (L:=1000000) fun q hq=>(g.pc q hq).2.2.2.1).1
  have lt:g'.1<qs.length:=List.mem_range.mp (pm.subset (List.mem_map.mpr ⟨g',hg',rfl⟩))
  obtain ⟨q,hq⟩:∃ q,qs[g'.1]? = some q:=⟨_,List.getElem?_eq_getElem lt⟩
  rw [e1] at hg'
  obtain ⟨k,hk⟩:=List.getElem?_of_mem hg'
  have ga:=goes_after (rm:=fun _=>none) g hk hq
  have q0:=(g.pc q (List.mem_of_getElem? hq)).1
  obtain ⟨t,T,G,D,tk,h,jr,tr,hl,gb,le⟩:=Sw.dealR_tr (rm:=fun _=>none) g (k:=qs.length) (Nat.le_refl _)
  obtain ⟨G',h',jr',en,_⟩:=Sw.JR.run g.F.n1 none _ h jr (Nat.le_refl _)
  have z1:g'.2≤(Sw.dealtR (fun _=>none) qs).1:=jr'.fr g' hg'
  have z2:(Sw.dealtR (fun _=>none) qs).1+1000000*((Sw.dealtR (fun _=>none) qs).2.1.length:Int)≤100000000000000+1000000*(t:Int):=h'.fb
  have z3:=g.ln
  have z4:=g.F.n1
  refine ⟨by omega,by omega,q,hq⟩
structure GoL (H:Hp) (ga:Addr) (gs:List Addr) (gn:List (Nat×Int)) (qs:List Q4):Prop where
  hg:H ga=some (.lst (gs.map V.ref))
  ht:TupsF goE H gs gn
  bd:∀ g∈gn,0≤g.2∧g.2≤200000000000000∧∃ q,qs[g.1]? = some q
  ln:gn.length≤20
theorem GoL.same {H H':Hp} {ga:Addr} {gs:List Addr} {gn:List (Nat×Int)} {qs:List Q4} (h:GoL H ga gs gn qs) (s:Same H H'):GoL H' ga gs gn qs:=⟨s _ _ h.hg,tupsF_same h.ht s,h.bd,h.ln⟩
theorem gos_snoc {H:Hp} {l:Addr} {ps:List Addr} {gs:List D2} {tp:Addr} {x:D2} (G:Gos H l ps gs) (h:H tp=some (.tup (d2 x))):Gos (upd H l (.lst (ps.map V.ref++[.ref tp]))) l (ps++[tp]) (gs++[x]):=by
  have kt:∀ b xs,H b=some (.tup xs)→upd H l (.lst (ps.map V.ref++[.ref tp])) b=some (.tup xs):=fun b xs e=>upd_tup G.hl e
  refine ⟨by rw [upd_same,List.map_append]; rfl,?_⟩
  exact Duos.app (.cons (kt _ _ h) .nil) (G.r.keep kt)
def spMoments:Sp:=fun vs H Q _=>∃ c l ps qs ga gs gn,vs = [.int c,.ref l,.ref ga]∧Row H l ps qs∧(∀ q∈qs,1≤q.2.2.1∧q.2.2.1≤1000000)∧GoL H ga gs gn qs∧∀ ml mp ms H',Same H H'→Gos H' ml mp ms→ms.length≤3→(∀ m∈ms,0≤m.1∧m.1<1000000000000000)→Q (.ref ml) H'
theorem d__law_moments (T:Txt K mg c_Tide c_Wheel):Def P w K mg base (CXX P w) 2 "_law_moments" ["_law_cell", "_law_row_here", "_law_goings"] spMoments:=by
  have D__law_stream:=d__law_stream (P:=P) (w:=w) (base:=base) T
  refine T.src__law_moments.okN (k:=1) sc__law_moments (fun vs H Q E h=>?_) (fun f cdv A outer s H vs Q E hr h=>?_)
  · obtain ⟨c,l,ps,qs,ga,gs,gn,rfl,_⟩:=h
    rfl
  · obtain ⟨c,l,ps,qs,ga,gs,gn,rfl,R0,ql,G0,k⟩:=h
    refine ⟨_,(pss_cons (ps_set (i:=3) sc__law_moments.nd rfl (by first|left;rfl|right;rfl) (pe_lst pa_nil)) (pss_cons (ps_if (pt_cmpR (op_neDK K rfl hr.units) (pv 2) (pe_lst pa_nil) (nomark _)) (pss_cons (ps_set (i:=4) sc__law_moments.nd rfl (by first|left;rfl|right;rfl) (pe_callX D__law_stream (hr.mono (by decide)) rfl passN (pa_cons (pv 0) (pa_cons pe_int pa_nil)))) (pss_one (ps_for PassesOwn.never rfl (pi_listK K rfl (pv 4)) (pg_name (i:=5) sc__law_moments.nd rfl (by first|left;rfl|right;rfl)) (pss_cons (ps_asg (pe_ix (ix_listK K rfl) (pv 2) (pe_op op_mod (pv 5) (pe_callB (call_lenK K rfl) rfl T.no_len boot_len (pa_cons (pv 2) pa_nil))) (fun _ _=>rfl)) (pg_tupK (n:=2) K rfl rfl (pgs_cons (pg_name (i:=6) sc__law_moments.nd rfl (by first|left;rfl|right;rfl)) (pgs_cons (pg_name (i:=7) sc__law_moments.nd rfl (by first|left;rfl|right;rfl)) pgs_nil)))) (pss_cons (ps_set (i:=8) sc__law_moments.nd rfl (by first|left;rfl|right;rfl) (pe_ix (ix_tupK K rfl) (pe_ix (ix_listK K rfl) (pv 1) (pv 6) (fun _ _=>rfl)) pe_int (fun _ _=>rfl))) (pss_cons (ps_set (i:=9) sc__law_moments.nd rfl (by first|left;rfl|right;rfl) (pe_ix (ix_listK K rfl) (pe_lst (pa_cons pe_int (pa_cons (pv 8) (pa_cons (pe_op op_fdivL (pv 8) pe_int) (pa_cons (pe_op op_sub (pv 8) pe_int) (pa_cons pe_int pa_nil)))))) (pe_op op_mod (pe_op op_fdivL (pv 5) pe_int) pe_int) (fun _ _=>rfl))) (pss_one (ps_expr (pe_bm PySem.F.plainAttrs_list PySem.F.slot_list_append PySem.F.type_list_append mt_append (pv 3) (pa_cons (pe_tup (pa_cons (pe_op op_add (pv 7) (pv 9)) (pa_cons (pe_ix (ix_listK K rfl) (pe_lst (pa_cons (pe_ix (ix_tupK K rfl) (pe_ix (ix_listK K rfl) (pv 1) (pv 6) (fun _ _=>rfl)) pe_int (fun _ _=>rfl)) (pa_cons (pe_op op_mod (pe_op op_fdivL (pv 5) pe_int) pe_int) pa_nil))) (pe_op op_mod (pe_op op_fdivL (pv 5) pe_int) pe_int) (fun _ _=>rfl)) pa_nil))) pa_nil)))))))))) pss_nil) (pss_one (ps_ret (pv 3))))),?_⟩
    show tSeq _ _ _ [some (.int c),some (.ref l),some (.ref ga),none,none,none,none,none,none,none] H
    have gl:=tupsF_len G0.ht
    refine seq_step fun R hR=>?_
    walk_at "rd"
    intro ml fml
    refine hR _ _ ?_
    clear hR
    have s1:=same_new (o:=.lst []) fml
    have M1:Gos (upd H ml (.lst [])) ml [] []:=⟨upd_same,.nil⟩
    generalize upd H ml (.lst [])=H1 at s1 M1 ⊢
    refine seq_step fun R hR=>?_
    have fin:∀ (H':Hp) mp ms v4 v5 v6 v7 v8 v9,Same H H'→Gos H' ml mp ms→ms.length≤3→(∀ m∈ms,0≤m.1∧m.1<1000000000000000)→R [some (.int c),some (.ref l),some (.ref ga),some (.ref ml),v4,v5,v6,v7,v8,v9] H':=fun H' mp ms v4 v5 v6 v7 v8 v9 sm G hl hm=>hR _ _ (by
      walk_at "rd"
      exact k ml mp ms H' sm G hl hm)
    clear hR
    walk_at "rd"
    intro p1 f1
    have s2:=s1.trans (same_new (o:=.lst []) f1)
    have M2:=M1.same (same_new (o:=.lst []) f1)
    have hp1:upd H1 p1 (.lst []) p1=some (.lst []):=upd_same
    generalize upd H1 p1 (.lst [])=H2 at s2 M2 hp1 ⊢
    refine ne_at (.lst (.of (s2 _ _ G0.hg)) (gos_deep (tupsF_same G0.ht s2))) (.lst (.of hp1) .nil) (shaped_gos gn) (by decide) ?_
    cases gn with
    | nil =>
      refine ⟨_,rfl,?_⟩
      rw [if_neg (by decide)]
      exact fin H2 [] [] _ _ _ _ _ _ s2 M2 (by decide) fun m h=>absurd h List.not_mem_nil
    | cons g0 gr =>
      refine ⟨_,rfl,?_⟩
      rw [if_pos (by simp [PyData.eqv,PyData.eqvAll])]
      generalize egn:g0 :: gr=gn at G0 gl
      have gpos:0<gn.length:=by rw [← egn]; simp
      clear egn
      clear hp1
      refine seq_step fun R' hR'=>?_
      walk_at "rd"
      refine ⟨c,3,rfl,by decide,fun xp xs H3 s3 fxp hx lx xm=>hR' _ _ ?_⟩
      clear hR'
      have M3:=M2.same s3
      have s3:=s2.trans s3
      refine for_step fun Z hZ=>?_
      walk_at "rd"
      refine ⟨⟨_,.of hx⟩,hZ _ _ ?_⟩
      clear hZ
      have nxm:xp≠ml:=(ne_of_none M2.hl fxp).symm
      refine for_list (K:=K) (a:=xp) (xs:=xs.map V.int) (fun i σ H'=>∃ mp ms v5 v6 v7 v8 v9,σ = [some (.int c),some (.ref l),some (.ref ga),some (.ref ml),some (.ref xp),v5,v6,v7,v8,v9]∧Same H H'∧H' xp=some (.lst (xs.map V.int))∧Gos H' ml mp ms∧ms.length=i∧∀ m∈ms,0≤m.1∧m.1<1000000000000000) ⟨[],[],none,none,none,none,none,rfl,s3,hx,M3,rfl,fun m h=>absurd h List.not_mem_nil⟩ (fun i σ H' _ ⟨_,_,_,_,_,_,_,_,_,h,_⟩=>.of h) ?_ ?_
      · clear M3 s3
        rintro i x σ H4 hxx ⟨mp,ms,v5,v6,v7,v8,v9,rfl,sm,hx4,M4,lm,mb⟩
        obtain ⟨nu,hnu,rfl⟩:∃ c,xs[i]? = some c∧V.int c=x:=by simpa using hxx
        have hi:i<xs.length:=(List.getElem?_eq_some_iff.mp hnu).1
        have G4:=G0.same sm
        have R4:=R0.same sm
        show tSeq _ _ _ [some (.int c),some (.ref l),some (.ref ga),some (.ref ml),some (.ref xp),some (.int nu),v6,v7,v8,v9] H4
        refine nx_step fun N hN=>?_
        refine seq_step fun R' hR'=>?_
        walk_at "rd"
        refine len_at (.of G4.hg) ?_
        have j0:=Int.emod_nonneg nu (show (gn.length:Int)≠0 by omega)
        have j1:=Int.emod_lt_of_pos nu (show 0<(gn.length:Int) by omega)
        rw [List.length_map,gl]
        refine ⟨_,rfl,by omega,?_⟩
        obtain ⟨g1,hg1⟩:∃ g,gn[(nu % (gn.length:Int)).toNat]? = some g:=⟨_,List.getElem?_eq_getElem (by omega)⟩
        obtain ⟨pg,hpg,htp⟩:=paired_at G4.ht hg1
        have hat:atI (gs.map V.ref) (nu % (gn.length:Int))=some (.ref pg):=by
          have:=atI_nat (xs:=gs.map V.ref) (j:=(nu % (gn.length:Int)).toNat) (v:=.ref pg) (by rw [List.getElem?_map,hpg]; rfl)
          rw [Int.toNat_of_nonneg j0] at this
          exact this
        refine ixL_at (.of G4.hg) hat ?_
        refine ⟨pg,rfl,_,.of htp,rfl,_,_,rfl,_,_,rfl,rfl,hR' _ _ ?_⟩
        clear hR'
        obtain ⟨b0,b1,q,hq⟩:=G4.bd g1 (List.mem_of_getElem? hg1)
        obtain ⟨pq,hpq,hq4⟩:=row_at R4 hq
        obtain ⟨l1,l2⟩:=ql q (List.mem_of_getElem? hq)
        refine seq_step fun R' hR'=>?_
        walk_at "rd"
        refine ixL_at (.of R4.hl) (atI_nat (v:=V.ref pq) (by rw [List.getElem?_map,hpq]; rfl)) ?_
        refine ixT_at (.of hq4) (v:=.int q.2.2.1) rfl (hR' _ _ ?_)
        clear hR'
        refine seq_step fun R' hR'=>?_
        walk_at "rd"
        intro q5 f5
        have z5:0≤nu / 64 % 5∧nu / 64 % 5<5:=by omega
        refine pickX [0,q.2.2.1,q.2.2.1 / 2,q.2.2.1-1,1] z5.1 z5.2 fun pa hz=>hR' _ _ ?_
        clear hR'
        have pb:0≤pa∧pa≤1000000:=by
          have hm:=List.mem_of_getElem? hz
          simp only [List.mem_cons,List.not_mem_nil,or_false] at hm
          omega
        have s5:=same_new (o:=.lst (([0,q.2.2.1,q.2.2.1 / 2,q.2.2.1-1,1]:List Int).map V.int)) f5
        generalize upd H4 q5 (.lst (([0,q.2.2.1,q.2.2.1 / 2,q.2.2.1-1,1]:List Int).map V.int))=H5 at s5 ⊢
        clear hz f5
        walk_at "rd"
        have M5:=M4.same s5
        refine ⟨tyL_at M5.hl,?_⟩
        refine ixL_at (.of (s5 _ _ R4.hl)) (atI_nat (v:=V.ref pq) (by rw [List.getElem?_map,hpq]; rfl)) ?_
        refine ixT_at (.of (s5 _ _ hq4)) (v:=.int q.2.1) rfl ?_
        intro q6 f6
        have z6:0≤nu / 1280 % 2∧nu / 1280 % 2<2:=by omega
        refine pickX [q.2.1,nu / 320 % 4] z6.1 z6.2 fun wh _=>?_
        have s6:=same_new (o:=.lst (([q.2.1,nu / 320 % 4]:List Int).map V.int)) f6
        generalize upd H5 q6 (.lst (([q.2.1,nu / 320 % 4]:List Int).map V.int))=H6 at s6 ⊢
        intro tp ftp
        have s7:=same_new (o:=.tup [.int (g1.2+pa),.int wh]) ftp
        have htp7:upd H6 tp (.tup [.int (g1.2+pa),.int wh]) tp=some (.tup (d2 (g1.2+pa,wh))):=upd_same
        generalize upd H6 tp (.tup [.int (g1.2+pa),.int wh])=H7 at s7 htp7 ⊢
        have M7:=(M5.same s6).same s7
        have sA:=(s5.trans s6).trans s7
        have lp:=M7.r.len
        refine app_at M7.hl (by rw [List.length_map]; omega) (hN _ _ ⟨mp++[tp],ms++[(g1.2+pa,wh)],_,_,_,_,_,rfl,fun b o e=>?_,?_,gos_snoc M7 htp7,by rw [List.length_append,lm]; rfl,fun m hm=>?_⟩)
        · rw [upd_ne (ne_of_none e fml)]; exact sA _ _ (sm _ _ e)
        · rw [upd_ne nxm]; exact sA _ _ hx4
        · rcases List.mem_append.mp hm with y | y
          · exact mb m y
          · rw [List.mem_singleton.mp y]
            exact ⟨by show 0≤g1.2+pa; omega,by show g1.2+pa<1000000000000000; omega⟩
      · rintro σ H4 ⟨mp,ms,v5,v6,v7,v8,v9,rfl,sm,hx4,M4,lm,mb⟩
        exact fin H4 mp ms _ _ _ _ _ _ sm M4 (by rw [lm,List.length_map]; omega) mb
def spWent:Sp:=fun vs H Q _=>∃ l ps qs ga gs gn who t,vs = [.ref l,.ref ga,.int who,.int t]∧Row H l ps qs∧GoL H ga gs gn qs∧Q (.int (gn.map (Sw.wtG qs who t)).sum) H
theorem d__law_went (T:Txt K mg c_Tide c_Wheel):Def P w K mg base (CXX P w) 1 "_law_went" ["_law_row_here", "_law_goings", "_law_who", "_law_at"] spWent:=by
  refine T.src__law_went.okN (k:=0) sc__law_went (fun vs H Q E h=>?_) (fun f cdv A outer s H vs Q E hr h=>?_)
  · obtain ⟨l,ps,qs,ga,gs,gn,who,t,rfl,_⟩:=h
    rfl
  · obtain ⟨l,ps,qs,ga,gs,gn,who,t,rfl,R0,G0,k⟩:=h
    refine ⟨_,(pss_cons (ps_set (i:=4) sc__law_went.nd rfl (by first|left;rfl|right;rfl) pe_int) (pss_cons (ps_for PassesOwn.never rfl (pi_listK K rfl (pv 1)) (pg_tupK (n:=2) K rfl rfl (pgs_cons (pg_name (i:=5) sc__law_went.nd rfl (by first|left;rfl|right;rfl)) (pgs_cons (pg_name (i:=6) sc__law_went.nd rfl (by first|left;rfl|right;rfl)) pgs_nil))) (pss_one (ps_if (PW.pt (pw_and (pt_cmpR op_eq (pe_ix (ix_tupK K rfl) (pe_ix (ix_listK K rfl) (pv 0) (pv 5) (fun _ _=>rfl)) pe_int (fun _ _=>rfl)) (pv 2) (nomark _)) (pw_and1 (pt_cmpR op_lt (pv 6) (pv 3) (nomark _))))) (pss_one (ps_set (i:=4) sc__law_went.nd rfl (by first|left;rfl|right;rfl) (pe_op op_add (pv 4) (pe_callB (call_min2 rfl) rfl T.no_min boot_min (pa_cons (pe_ix (ix_tupK K rfl) (pe_ix (ix_listK K rfl) (pv 0) (pv 5) (fun _ _=>rfl)) pe_int (fun _ _=>rfl)) (pa_cons (pe_op op_sub (pv 3) (pv 6)) pa_nil)))))) pss_nil))) (pss_one (ps_ret (pv 4))))),?_⟩
    show tSeq _ _ _ [some (.ref l),some (.ref ga),some (.int who),some (.int t),none,none,none] H
    have gl:=tupsF_len G0.ht
    refine seq_step fun R hR=>?_
    walk_at "rd"
    refine hR _ _ ?_
    clear hR
    refine seq_step fun R hR=>?_
    refine for_step fun Z hZ=>?_
    walk_at "rd"
    refine ⟨⟨_,.of G0.hg⟩,hZ _ _ ?_⟩
    clear hZ
    refine for_list (K:=K) (a:=ga) (xs:=gs.map V.ref) (fun i σ H'=>H'=H∧∃ v5 v6,σ = [some (.ref l),some (.ref ga),some (.int who),some (.int t),some (.int ((gn.take i).map (Sw.wtG qs who t)).sum),v5,v6]) ⟨rfl,none,none,rfl⟩ (fun i σ H' _ ⟨e,_⟩=>by rw [e]; exact .of G0.hg) ?_ ?_
    · rintro i x σ H2 hx ⟨rfl,v5,v6,rfl⟩
      obtain ⟨pp,hpp,rfl⟩:∃ p,gs[i]? = some p∧V.ref p=x:=by simpa using hx
      obtain ⟨g1,hg1,htp⟩:=tupsF_get G0.ht hpp
      have hi:i<gn.length:=(List.getElem?_eq_some_iff.mp hg1).1
      obtain ⟨q,hq⟩:=(G0.bd g1 (List.mem_of_getElem? hg1)).2.2
      obtain ⟨pq,hpq,hq4⟩:=row_at R0 hq
      refine ⟨pp,_,rfl,.of htp,rfl,_,_,rfl,_,_,rfl,rfl,?_⟩
      have et:((gn.take (i+1)).map (Sw.wtG qs who t)).sum=((gn.take i).map (Sw.wtG qs who t)).sum+Sw.wtG qs who t g1:=by
        rw [L2.take_succ_of hg1,List.map_append,List.sum_append,List.map_singleton,List.sum_singleton]
      have ew:Sw.wtG qs who t g1=if q.2.1=who∧g1.2<t then min q.2.2.1 (t-g1.2) else 0:=by
        unfold Sw.wtG Sw.lenAt
        rw [Sw.whoAt_of hq,hq]
        rfl
      generalize ((gn.take i).map (Sw.wtG qs who t)).sum=acc at et ⊢
      show tIfS _ _ _ _ [some (.ref l),some (.ref ga),some (.int who),some (.int t),some (.int acc),some (.int (g1.1:Int)),some (.int g1.2)] H2
      refine nx_step fun N hN=>?_
      have go:∀ z,z=acc+Sw.wtG qs who t g1→N [some (.ref l),some (.ref ga),some (.int who),some (.int t),some (.int z),some (.int (g1.1:Int)),some (.int g1.2)] H2:=fun z e=>hN _ _ ⟨rfl,some (.int (g1.1:Int)),some (.int g1.2),by rw [et,e]⟩
      walk_at "rd"
      refine ixL_at (.of R0.hl) (atI_nat (v:=V.ref pq) (by rw [List.getElem?_map,hpq]; rfl)) ?_
      refine ixT_at (.of hq4) (v:=.int q.2.1) rfl ⟨rfl,?_⟩
      refine ite2 (fun c1=>?_) fun c1=>go _ (by rw [ew,if_neg (fun z=>c1 (by rw [z.1])),Int.add_zero])
      have c1:q.2.1=who:=by injection c1
      refine ite2 (fun c2=>?_) fun c2=>go _ (by rw [ew,if_neg (fun z=>c2 z.2),Int.add_zero])
      refine ixL_at (.of R0.hl) (atI_nat (v:=V.ref pq) (by rw [List.getElem?_map,hpq]; rfl)) ?_
      refine ixT_at (.of hq4) (v:=.int q.2.2.1) rfl ?_
      refine ⟨_,rfl,go _ ?_⟩
      rw [ew,if_pos (show q.2.1=who∧g1.2<t from ⟨c1,c2⟩),Int.min_def]
      split <;> split <;> omega
    · rintro σ H2 ⟨rfl,v5,v6,rfl⟩
      refine hR _ _ ?_
      walk_at "rd"
      rw [List.length_map,gl,List.take_length]
      exact k
def spNear:Sp:=fun vs H Q _=>∃ wt p L O g,vs = [.int wt,.ref p,.int L,.int O]∧H p=some (.tup (fq g))∧Sw.SzQ 2400 g∧-1000000000000000000<wt∧wt<1000000000000000000∧0≤L∧L<1000000000000000000∧0≤O∧O<1000000000000000000∧g≤((wt+L:Int):Rat)∧((wt-O:Int):Rat)≤g∧Q (.bl true) H
theorem d__law_near (T:Txt K mg c_Tide c_Wheel):Def P w K mg base (CXX P w) 1 "_law_near" ["_law_went_here", "_law_stream_here", "_law_long", "_law_own"] spNear:=by
  refine T.src__law_near.okN (k:=0) sc__law_near (fun vs H Q E h=>?_) (fun f cdv A outer s H vs Q E hr h=>?_)
  · obtain ⟨wt,p,L,O,g,rfl,_⟩:=h
    rfl
  · obtain ⟨wt,p,L,O,g,rfl,hp,zg,w0,w1,L0,L1,O0,O1,h1,h2,k⟩:=h
    refine ⟨_,(pss_cons (ps_asg (pv 1) (pg_tupK (n:=2) K rfl rfl (pgs_cons (pg_name (i:=4) sc__law_near.nd rfl (by first|left;rfl|right;rfl)) (pgs_cons (pg_name (i:=5) sc__law_near.nd rfl (by first|left;rfl|right;rfl)) pgs_nil)))) (pss_cons (ps_if (pt_cmpR op_lt (pe_op op_mulL (pe_op op_add (pv 0) (pv 2)) (pv 5)) (pv 4) (nomark _)) (pss_one (ps_ret pe_bl)) pss_nil) (pss_one (ps_ret (pe_cmpR op_le (pe_op op_mulL (pe_op op_sub (pv 0) (pv 3)) (pv 5)) (pv 4) (nomark _)))))),?_⟩
    show tSeq _ _ _ [some (.int wt),some (.ref p),some (.int L),some (.int O),none,none] H
    refine seq_step fun R hR=>?_
    walk_at "rd"
    refine ⟨_,.of hp,rfl,_,_,rfl,_,_,rfl,rfl,hR _ _ ?_⟩
    clear hR
    refine seq_step fun R hR=>?_
    walk_at "rd"
    refine ⟨⟨(Sw.Sz.r18 (by omega) (by omega)).mono (by decide),zg.d.mono (by decide)⟩,?_⟩
    rw [if_neg (by have:=Sw.le_num h1; omega)]
    refine hR _ _ ?_
    clear hR
    walk_at "rd"
    refine ⟨⟨(Sw.Sz.r18 (by omega) (by omega)).mono (by decide),zg.d.mono (by decide)⟩,?_⟩
    rw [decide_eq_true (Sw.num_le h2)]
    exact k
theorem wt_bd {qs:List Q4} {who t:Int} (ql:∀ q∈qs,1≤q.2.2.1∧q.2.2.1≤1000000):∀ gn:List (Nat×Int),(∀ g∈gn,∃ q,qs[g.1]? = some q)→0≤(gn.map (Sw.wtG qs who t)).sum∧(gn.map (Sw.wtG qs who t)).sum≤1000000*(gn.length:Int)
  | [],_=>⟨Int.le_refl _,by simp⟩
  | g :: r,h=>by
    obtain ⟨i1,i2⟩:=wt_bd ql (who:=who) (t:=t) r fun g hg=>h g (List.mem_cons_of_mem _ hg)
    obtain ⟨q,hq⟩:=h g (List.mem_cons_self ..)
    obtain ⟨l1,l2⟩:=ql q (List.mem_of_getElem? hq)
    have z:0≤Sw.wtG qs who t g∧Sw.wtG qs who t g≤1000000:=by
      unfold Sw.wtG Sw.lenAt
      rw [hq]
      show 0≤(if Sw.whoAt qs g.1=who∧g.2<t then min q.2.2.1 (t-g.2) else 0)∧(if Sw.whoAt qs g.1=who∧g.2<t then min q.2.2.1 (t-g.2) else 0)≤1000000
      split
      · rw [Int.min_def]; split <;> omega
      · omega
    rw [List.map_cons,List.sum_cons,List.length_cons]
    omega
theorem gT_sz {n:Nat} {M:Int} {a c:Nat} {qs:List Q4} (g:Sw.Good n M a c qs) (who t:Int):Sw.SzQ 2400 (Sw.gT (fsOf qs (Sw.Ti.nil.tags qs)) (Sw.whoAt qs) who (t:Rat) (2*n+1)):=by
  obtain ⟨D0,ok⟩:=Sw.fs_ok g.F g.ln g.pc g.pw
  have z:=(g.runs.fw_sz ok (Sw.whoAt qs) who t (2*n+1)).2 (Sw.fwL (Sw.whoAt qs) who (t:Rat) (Sw.flowF (fsOf qs (Sw.Ti.nil.tags qs)) (2*n+1) 0 0)).length
  rw [List.take_length,Sw.fw_sum] at z
  exact z.mono (by decide)
theorem ok_law {f:Addr} {fd:FuncData} (F:Fun K "law" "law" s_law f fd) (T:Txt K mg c_Tide c_Wheel):FnOk P w K mg base CX0 9 f fd ["_law_script"] (spLaw K):=by
  have D__law_cell_at:=d__law_cell_at (P:=P) (w:=w) (base:=base) T
  have D__law_row:=d__law_row (P:=P) (w:=w) (base:=base) T
  have D__law_moments:=d__law_moments (P:=P) (w:=w) (base:=base) T
  have D__law_went:=d__law_went (P:=P) (w:=w) (base:=base) T
  have D__law_near:=d__law_near (P:=P) (w:=w) (base:=base) T
  have D_dealt:=d_dealt (P:=P) (w:=w) (base:=base) T
  have D_flowed:=d_flowed (P:=P) (w:=w) (base:=base) T
  refine F.ok sc_law (fun vs H Q E h=>?_) (fun cdv A outer s H vs Q E hr h=>?_)
  · obtain ⟨a,ns,rfl,_⟩:=h
    rfl
  · obtain ⟨sc,ns,rfl,hS,hlen,k⟩:=h
    refine ⟨_,(pss_cons (ps_set (i:=1) sc_law.nd rfl (by first|left;rfl|right;rfl) (pe_callX D__law_row (hr.mono (by decide)) rfl passN (pa_cons (pv 0) pa_nil))) (pss_cons (ps_set (i:=2) sc_law.nd rfl (by first|left;rfl|right;rfl) (pe_ix (ix_tupK K rfl) (pe_callXD (dvs:=[V.non]) D_dealt (by simp) (hr.mono (by decide)) rfl passN (pa_cons (pe_callTy (call_listK K rfl) rfl T.no_list boot_list (pa_cons (pv 1) pa_nil)) pa_nil)) pe_int (fun _ _=>rfl))) (pss_cons (ps_set (i:=3) sc_law.nd rfl (by first|left;rfl|right;rfl) (pe_maxD K rfl rfl rfl T.no_max (pa_cons (pe_lc ["_law_piece"] [] rfl (by with_unfolding_all rfl) (by decide +kernel) rfl (by decide +kernel) (by exact True.intro) (by with_unfolding_all rfl) True.intro (pi_listK K rfl (pv 1)) (fun _ _ _=>(pg_name (i:=0) (show (["_law_piece"]:List Str).Nodup from by decide +kernel) rfl (by first|left;rfl|right;rfl))) (fun _ _ _=>pifs_nil) (fun _ _ _=>(pe_ix (ix_tupK K rfl) (pv 0) pe_int (fun _ _=>rfl)))) pa_nil) pe_int)) (pss_cons (ps_for PassesOwn.never rfl (pi_listK K rfl (pe_callX D__law_moments (hr.mono (by decide)) rfl passN (pa_cons (pe_callX D__law_cell_at (hr.mono (by decide)) rfl passN (pa_cons (pv 0) (pa_cons pe_int pa_nil))) (pa_cons (pv 1) (pa_cons (pv 2) pa_nil))))) (pg_tupK (n:=2) K rfl rfl (pgs_cons (pg_name (i:=4) sc_law.nd rfl (by first|left;rfl|right;rfl)) (pgs_cons (pg_name (i:=5) sc_law.nd rfl (by first|left;rfl|right;rfl)) pgs_nil))) (pss_cons (ps_set (i:=6) sc_law.nd rfl (by first|left;rfl|right;rfl) (pe_maxD K rfl rfl rfl T.no_max (pa_cons (pe_lc ["_law_piece"] [("_law_who", 5)] rfl (by with_unfolding_all rfl) (by decide +kernel) rfl (by decide +kernel) (by exact ⟨rfl,True.intro⟩) (by with_unfolding_all rfl) ⟨⟨rfl,rfl,rfl⟩,True.intro⟩ (pi_listK K rfl (pv 1)) (fun _ _ _=>(pg_name (i:=0) (show (["_law_piece", "_law_who"]:List Str).Nodup from by decide +kernel) rfl (by first|left;rfl|right;rfl))) (fun _ _ _=>(pifs_one (pt_cmpR op_eq (pe_ix (ix_tupK K rfl) (pv 0) pe_int (fun _ _=>rfl)) (pv 1) (nomark _)))) (fun _ _ _=>(pe_ix (ix_tupK K rfl) (pv 0) pe_int (fun _ _=>rfl)))) pa_nil) pe_int)) (pss_cons (ps_set (i:=7) sc_law.nd rfl (by first|left;rfl|right;rfl) (pe_callX D__law_went (hr.mono (by decide)) rfl passN (pa_cons (pv 1) (pa_cons (pv 2) (pa_cons (pv 5) (pa_cons (pv 4) pa_nil)))))) (pss_one (ps_if (pt_not (pt_val (pe_callX D__law_near (hr.mono (by decide)) rfl passN (pa_cons (pv 7) (pa_cons (pe_callX D_flowed (hr.mono (by decide)) rfl passN (pa_cons (pv 1) (pa_cons (pv 5) (pa_cons (pv 4) pa_nil)))) (pa_cons (pv 3) (pa_cons (pv 6) pa_nil))))))) (pss_one (ps_ret pe_bl)) pss_nil))))) (pss_one (ps_ret pe_bl)))))),?_⟩
    show tSeq _ _ _ [some (.ref sc),none,none,none,none,none,none,none] H
    refine seq_step fun R hR=>?_
    walk_at "rd"
    refine ⟨sc,ns,rfl,hS,hlen,fun H1 l ps qs s1 nl R1 q12 gd=>hR _ _ ?_⟩
    clear hR
    have hS:=s1.seq hS
    obtain ⟨n,M,a,cc,g⟩:=gd
    have len:=R1.r.len
    have ql:∀ q∈qs,1≤q.2.2.1∧q.2.2.1≤1000000:=fun q hq=>⟨(g.pc q hq).2.2.1,(g.pc q hq).2.2.2.1⟩
    clear s1 nl
    refine seq_step fun R hR=>?_
    walk_at "rd"
    refine lst_at (.of R1.hl) fun l1 f1=>?_
    have R2:=R1.copy f1
    have s1:=same_new (o:=.lst (ps.map V.ref)) f1
    have R1:=R1.same s1
    have hS:=s1.seq hS
    generalize upd H1 l1 (.lst (ps.map V.ref))=H2 at R1 R2 hS ⊢
    clear f1 s1
    refine ⟨l1,ps,qs,n,M,a,cc,rfl,R2,g,fun r ga da gs H3 s3 hr3 hg3 rg3 hd3 nga nda gad=>?_⟩
    have bd:=dealt_bd g
    have pmg:=(Sw.places g (L:=1000000) fun q hq=>(g.pc q hq).2.2.2.1).1
    have lg:(Sw.dealtF qs).2.2.length=qs.length:=by
      have:=pmg.length_eq
      rw [List.length_map,List.length_range] at this
      exact this
    have G3:GoL H3 ga gs (Sw.dealtF qs).2.2 qs:=⟨hg3,rg3,bd,by omega⟩
    refine ixT_at (.of hr3) rfl (hR _ _ ?_)
    clear hR hr3 hg3 rg3 hd3 nga nda gad R2
    have R1:=R1.same s3
    have hS:=s3.seq hS
    clear s3
    refine seq_step fun R hR=>?_
    walk_at "rd"
    unfold tMaxD
    walk_at "rd"
    refine ⟨⟨_,.of R1.hl⟩,fun D hD=>?_⟩
    show CompG _ _ _ _ D [none] _ _
    refine comp_walk (xs:=ps.map V.ref) (fun m τ H'=>(∃ v1,τ = [v1])∧Same H3 H'∧H' D=some (.lst (((qs.take m).map fun q=>q.2.2.1).map V.int))) ⟨⟨none,rfl⟩,same_new hD,by rw [List.take_zero]; exact upd_same⟩ (fun m τ H' _ ⟨_,sm,_⟩=>.of (sm _ _ R1.hl)) ?_ ?_
    · rintro m x τ H' hx ⟨⟨v1,rfl⟩,sm,hDl⟩
      obtain ⟨pp,hpp,rfl⟩:∃ p,ps[m]? = some p∧V.ref p=x:=by simpa using hx
      obtain ⟨q,hq,hq4⟩:=R1.r.get hpp
      have hm:m<qs.length:=(List.getElem?_eq_some_iff.mp hq).1
      walk_at "rd"
      unfold tYes
      walk_at "rd"
      refine ixT_at (v:=.int q.2.2.1) (.of (sm _ _ hq4)) rfl ?_
      refine ⟨_,hDl,line_lt (by rw [List.length_map,List.length_map,List.length_take]; omega),fun b o e=>?_,?_⟩
      · rw [upd_ne (ne_of_none e hD)]; exact sm _ _ e
      · rw [upd_same,L2.take_succ_of hq,List.map_append,List.map_append]; rfl
    rintro τ H4 ⟨_,sm,hDl⟩
    rw [List.length_map,len,List.take_length] at hDl
    refine ⟨D,rfl,qs.map fun q=>q.2.2.1,.of hDl,fun L hL0 hL1=>hR _ _ ?_⟩
    clear hR
    have hL:∀ q∈qs,q.2.2.1≤L:=fun q hq=>(hL1 (fun z=>by have:q.2.2.1∈qs.map fun q=>q.2.2.1:=List.mem_map.mpr ⟨q,hq,rfl⟩; rw [z] at this; cases this)).2 _ (List.mem_map.mpr ⟨q,hq,rfl⟩)
    have Lb:0≤L∧L≤1000000:=by
      by_cases e:(qs.map fun q=>q.2.2.1) = []
      · rw [hL0 e]; decide
      · obtain ⟨q,hq,e2⟩:=List.mem_map.mp (hL1 e).1
        have:=ql q hq
        omega
    have R1:=R1.same sm
    have G3:=G3.same sm
    have hS:=sm.seq hS
    clear sm hDl hD hL0 hL1
    refine seq_step fun R hR=>?_
    refine for_step fun Z hZ=>?_
    walk_at "rd"
    refine spCell_of hS (by decide) ?_
    refine ⟨_,l,ps,qs,ga,gs,(Sw.dealtF qs).2.2,rfl,R1,ql,G3,fun ml mp ms H5 s5 M5 ml3 mb=>?_⟩
    refine ⟨ml,rfl,⟨_,.of M5.hl⟩,hZ _ _ ?_⟩
    clear hZ hS
    have R1:=R1.same s5
    have G3:=G3.same s5
    clear s5
    refine for_list (K:=K) (a:=ml) (xs:=mp.map V.ref) (fun i σ H'=>Same H5 H'∧∃ v4 v5 v6 v7,σ = [some (.ref sc),some (.ref l),some (.ref ga),some (.int L),v4,v5,v6,v7]) ⟨Same.refl _,none,none,none,none,rfl⟩ (fun i σ H' _ ⟨e,_⟩=>.of (e _ _ M5.hl)) ?_ ?_
    · rintro i x σ H6 hx ⟨sm,v4,v5,v6,v7,rfl⟩
      obtain ⟨pp,hpp,rfl⟩:∃ p,mp[i]? = some p∧V.ref p=x:=by simpa using hx
      obtain ⟨mo,hmo,htp⟩:=M5.r.get hpp
      obtain ⟨t0,t1⟩:=mb mo (List.mem_of_getElem? hmo)
      have R6:=R1.same sm
      have G6:=G3.same sm
      refine ⟨pp,_,rfl,.of (sm _ _ htp),rfl,_,_,rfl,_,_,rfl,rfl,?_⟩
      obtain ⟨t,who⟩:=mo
      show tSeq _ _ _ [some (.ref sc),some (.ref l),some (.ref ga),some (.int L),some (.int t),some (.int who),v6,v7] H6
      refine nx_step fun N hN=>?_
      refine seq_step fun R' hR'=>?_
      walk_at "rd"
      unfold tMaxD
      walk_at "rd"
      refine ⟨⟨_,.of R6.hl⟩,fun D hD=>?_⟩
      show CompG _ _ _ _ D [none,some (.int who)] _ _
      refine comp_walk (xs:=ps.map V.ref) (fun m τ H'=>(∃ v1,τ = [v1,some (.int who)])∧Same H6 H'∧H' D=some (.lst ((((qs.take m).filter fun q=>decide (q.2.1=who)).map fun q=>q.2.2.1).map V.int))) ⟨⟨none,rfl⟩,same_new hD,by rw [List.take_zero]; exact upd_same⟩ (fun m τ H' _ ⟨_,sm,_⟩=>.of (sm _ _ R6.hl)) ?_ ?_
      · rintro m x τ H' hx ⟨⟨v1,rfl⟩,sm',hDl⟩
        obtain ⟨pp,hpp,rfl⟩:∃ p,ps[m]? = some p∧V.ref p=x:=by simpa using hx
        obtain ⟨q,hq,hq4⟩:=R6.r.get hpp
        have hm:m<qs.length:=(List.getElem?_eq_some_iff.mp hq).1
        have ll:(((qs.take m).filter fun q=>decide (q.2.1=who)).map fun q=>q.2.2.1).length≤m:=by
          rw [List.length_map]
          exact Nat.le_trans (List.length_filter_le _ _) (by rw [List.length_take]; omega)
        walk_at "rd"
        refine ixT_at (v:=.int q.2.1) (.of (sm' _ _ hq4)) rfl ⟨rfl,?_⟩
        refine ite2 (fun c1=>?_) fun c1=>?_
        · have c1:q.2.1=who:=by injection c1
          refine ixT_at (v:=.int q.2.2.1) (.of (sm' _ _ hq4)) rfl ?_
          refine ⟨_,hDl,line_lt (by rw [List.length_map]; omega),fun b o e=>?_,?_⟩
          · rw [upd_ne (ne_of_none e hD)]; exact sm' _ _ e
          · rw [upd_same,L2.take_succ_of hq,List.filter_append,List.filter_cons_of_pos (by simpa using c1),List.filter_nil,List.map_append,List.map_append]; rfl
        · refine ⟨sm',?_⟩
          rw [hDl,L2.take_succ_of hq,List.filter_append,List.filter_cons_of_neg (by simpa using fun z=>c1 (by rw [z])),List.filter_nil,List.append_nil]
      rintro τ H7 ⟨_,s7,hDl⟩
      rw [List.length_map,len,List.take_length] at hDl
      refine ⟨D,rfl,(qs.filter fun q=>decide (q.2.1=who)).map fun q=>q.2.2.1,.of hDl,fun O hO0 hO1=>hR' _ _ ?_⟩
      clear hR'
      have hO:∀ q∈qs,q.2.1=who→q.2.2.1≤O:=fun q hq e=>by
        have m1:q.2.2.1∈(qs.filter fun q=>decide (q.2.1=who)).map fun q=>q.2.2.1:=List.mem_map.mpr ⟨q,List.mem_filter.mpr ⟨hq,by simpa using e⟩,rfl⟩
        exact (hO1 (fun z=>by rw [z] at m1; cases m1)).2 _ m1
      have Ob:0≤O∧O≤1000000:=by
        by_cases e:((qs.filter fun q=>decide (q.2.1=who)).map fun q=>q.2.2.1) = []
        · rw [hO0 e]; decide
        · obtain ⟨q,hq,e2⟩:=List.mem_map.mp (hO1 e).1
          have:=ql q (List.mem_filter.mp hq).1
          omega
      have R7:=R6.same s7
      have G7:=G6.same s7
      have sm:=sm.trans s7
      clear s7 hDl hD hO0 hO1
      refine seq_step fun R' hR'=>?_
      walk_at "rd"
      refine ⟨l,ps,qs,ga,gs,(Sw.dealtF qs).2.2,who,t,rfl,R7,G7,hR' _ _ ?_⟩
      clear hR'
      have wb:=wt_bd (who:=who) (t:=t) ql (Sw.dealtF qs).2.2 fun g hg=>(bd g hg).2.2
      walk_at "rd"
      refine ⟨n,M,a,cc,l,ps,qs,who,t,rfl,R7,g,t0,t1,fun r H8 s8 hr8=>?_⟩
      refine ⟨_,r,L,O,_,rfl,hr8,gT_sz g who t,by omega,by omega,Lb.1,by omega,Ob.1,by omega,Sw.flowed_le g Lb.1 hL who t,Sw.went_le g Ob.1 who t hO,?_⟩
      walk_at "rd"
      exact hN _ _ ⟨sm.trans s8,_,_,_,_,rfl⟩
    · rintro σ H6 ⟨sm,v4,v5,v6,v7,rfl⟩
      refine hR _ _ ?_
      walk_at "rd"
      exact k _
end
theorem all_mk {l:PySem.W.OpenLaw} {w:World} {K:PySem.W.Frag} {h:Heap} {mg:Str→Option Value} {fa f1 f2 f3 f4 f5 f6 f7 f8 f9 f10 f11 f12 f13 f14 f15 f16 f17 f18 f19 f20 f21 f22 f23 f24 f25 f26:Addr} (X:K.In h) (G:h.Ns mainGlobals mg) (hfa:mg "law" = some (.ref fa))
    {od1 an1 od2 an2 od3 an3 od4 an4 od5 an5 od6 an6 od7 an7 od8 an8 od9 an9 od10 an10 od11 an11 od12 an12 od13 an13 od14 an14 od15 an15 od16 an16 od17 an17 od18 an18 od19 an19 od20 an20 od21 an21 od22 an22 od23 an23 od24 an24 od25 an25 od26 an26:Option Addr} {sl1 sl2 sl3 sl4 sl5 sl6 sl7 sl8 sl9 sl10 sl11 sl12 sl13 sl14 sl15 sl16 sl17 sl18 sl19 sl20 sl21 sl22 sl23 sl24 sl25 sl26:Array (Option Value)} {oc1 kV1 dc1 pm1 cd1 ct1 oc2 kV2 dc2 pm2 cd2 ct2 oc3 kV3 dc3 pm3 cd3 ct3 oc4 kV4 dc4 pm4 cd4 ct4 oc5 kV5 dc5 pm5 cd5 ct5 oc6 kV6 dc6 pm6 cd6 ct6 oc7 kV7 dc7 pm7 cd7 ct7 oc8 kV8 dc8 pm8 cd8 ct8 oc9 kV9 dc9 pm9 cd9 ct9 oc10 kV10 dc10 pm10 cd10 ct10 oc11 kV11 dc11 pm11 cd11 ct11 oc12 kV12 dc12 pm12 cd12 ct12 oc13 kV13 dc13 pm13 cd13 ct13 oc14 kV14 dc14 pm14 cd14 ct14 oc15 kV15 dc15 pm15 cd15 ct15 oc16 kV16 dc16 pm16 cd16 ct16 oc17 kV17 dc17 pm17 cd17 ct17 oc18 kV18 dc18 pm18 cd18 ct18 oc19 kV19 dc19 pm19 cd19 ct19 oc20 kV20 dc20 pm20 cd20 ct20 oc21 kV21 dc21 pm21 cd21 ct21 oc22 kV22 dc22 pm22 cd22 ct22 oc23 kV23 dc23 pm23 cd23 ct23 oc24 kV24 dc24 pm24 cd24 ct24 oc25 kV25 dc25 pm25 cd25 ct25 oc26 kV26 dc26 pm26 cd26 ct26:Value}
    (a1:PySem.W.nsIn K mainGlobals "divisor" = some (some (.ref f1))) (l1:K.lookup f1=some ⟨oc1,od1,.func (PySem.W.fnOf "divisor" "divisor" (defArgs s_divisor) (defBody s_divisor) (defScope s_divisor) .none kV1 dc1 pm1 an1 cd1 ct1),sl1⟩) (c1:PySem.W.codeIn K cd1 "divisor" = true) (k1:PySem.W.keepIn K (.ref f1)=true)
    (a2:PySem.W.nsIn K mainGlobals "ratio" = some (some (.ref f2))) (l2:K.lookup f2=some ⟨oc2,od2,.func (PySem.W.fnOf "ratio" "ratio" (defArgs s_ratio) (defBody s_ratio) (defScope s_ratio) .none kV2 dc2 pm2 an2 cd2 ct2),sl2⟩) (c2:PySem.W.codeIn K cd2 "ratio" = true) (k2:PySem.W.keepIn K (.ref f2)=true)
    (a3:PySem.W.nsIn K mainGlobals "plus" = some (some (.ref f3))) (l3:K.lookup f3=some ⟨oc3,od3,.func (PySem.W.fnOf "plus" "plus" (defArgs s_plus) (defBody s_plus) (defScope s_plus) .none kV3 dc3 pm3 an3 cd3 ct3),sl3⟩) (c3:PySem.W.codeIn K cd3 "plus" = true) (k3:PySem.W.keepIn K (.ref f3)=true)
    (a4:PySem.W.nsIn K mainGlobals "minus" = some (some (.ref f4))) (l4:K.lookup f4=some ⟨oc4,od4,.func (PySem.W.fnOf "minus" "minus" (defArgs s_minus) (defBody s_minus) (defScope s_minus) .none kV4 dc4 pm4 an4 cd4 ct4),sl4⟩) (c4:PySem.W.codeIn K cd4 "minus" = true) (k4:PySem.W.keepIn K (.ref f4)=true)
    (a5:PySem.W.nsIn K mainGlobals "times" = some (some (.ref f5))) (l5:K.lookup f5=some ⟨oc5,od5,.func (PySem.W.fnOf "times" "times" (defArgs s_times) (defBody s_times) (defScope s_times) .none kV5 dc5 pm5 an5 cd5 ct5),sl5⟩) (c5:PySem.W.codeIn K cd5 "times" = true) (k5:PySem.W.keepIn K (.ref f5)=true)
    (a6:PySem.W.nsIn K mainGlobals "over" = some (some (.ref f6))) (l6:K.lookup f6=some ⟨oc6,od6,.func (PySem.W.fnOf "over" "over" (defArgs s_over) (defBody s_over) (defScope s_over) .none kV6 dc6 pm6 an6 cd6 ct6),sl6⟩) (c6:PySem.W.codeIn K cd6 "over" = true) (k6:PySem.W.keepIn K (.ref f6)=true)
    (a7:PySem.W.nsIn K mainGlobals "under" = some (some (.ref f7))) (l7:K.lookup f7=some ⟨oc7,od7,.func (PySem.W.fnOf "under" "under" (defArgs s_under) (defBody s_under) (defScope s_under) .none kV7 dc7 pm7 an7 cd7 ct7),sl7⟩) (c7:PySem.W.codeIn K cd7 "under" = true) (k7:PySem.W.keepIn K (.ref f7)=true)
    (a8:PySem.W.nsIn K mainGlobals "lesser" = some (some (.ref f8))) (l8:K.lookup f8=some ⟨oc8,od8,.func (PySem.W.fnOf "lesser" "lesser" (defArgs s_lesser) (defBody s_lesser) (defScope s_lesser) .none kV8 dc8 pm8 an8 cd8 ct8),sl8⟩) (c8:PySem.W.codeIn K cd8 "lesser" = true) (k8:PySem.W.keepIn K (.ref f8)=true)
    (a9:PySem.W.nsIn K mainGlobals "greater" = some (some (.ref f9))) (l9:K.lookup f9=some ⟨oc9,od9,.func (PySem.W.fnOf "greater" "greater" (defArgs s_greater) (defBody s_greater) (defScope s_greater) .none kV9 dc9 pm9 an9 cd9 ct9),sl9⟩) (c9:PySem.W.codeIn K cd9 "greater" = true) (k9:PySem.W.keepIn K (.ref f9)=true)
    (a10:PySem.W.nsIn K mainGlobals "least" = some (some (.ref f10))) (l10:K.lookup f10=some ⟨oc10,od10,.func (PySem.W.fnOf "least" "least" (defArgs s_least) (defBody s_least) (defScope s_least) .none kV10 dc10 pm10 an10 cd10 ct10),sl10⟩) (c10:PySem.W.codeIn K cd10 "least" = true) (k10:PySem.W.keepIn K (.ref f10)=true)
    (a11:PySem.W.nsIn K mainGlobals "total" = some (some (.ref f11))) (l11:K.lookup f11=some ⟨oc11,od11,.func (PySem.W.fnOf "total" "total" (defArgs s_total) (defBody s_total) (defScope s_total) .none kV11 dc11 pm11 an11 cd11 ct11),sl11⟩) (c11:PySem.W.codeIn K cd11 "total" = true) (k11:PySem.W.keepIn K (.ref f11)=true)
    (a12:PySem.W.nsIn K mainGlobals "heads_of" = some (some (.ref f12))) (l12:K.lookup f12=some ⟨oc12,od12,.func (PySem.W.fnOf "heads_of" "heads_of" (defArgs s_heads_of) (defBody s_heads_of) (defScope s_heads_of) .none kV12 dc12 pm12 an12 cd12 ct12),sl12⟩) (c12:PySem.W.codeIn K cd12 "heads_of" = true) (k12:PySem.W.keepIn K (.ref f12)=true)
    (a13:PySem.W.nsIn K mainGlobals "overflows" = some (some (.ref f13))) (l13:K.lookup f13=some ⟨oc13,od13,.func (PySem.W.fnOf "overflows" "overflows" (defArgs s_overflows) (defBody s_overflows) (defScope s_overflows) .none kV13 dc13 pm13 an13 cd13 ct13),sl13⟩) (c13:PySem.W.codeIn K cd13 "overflows" = true) (k13:PySem.W.keepIn K (.ref f13)=true)
    {dt_dealt:Addr} {do_dealt:Value} {dd_dealt:Option Addr} {dn_dealt:Nat} {dl_dealt:Array (Option Value)}
    (a14:PySem.W.nsIn K mainGlobals "dealt" = some (some (.ref f14))) (l14:K.lookup f14=some ⟨oc14,od14,.func (PySem.W.fnOf "dealt" "dealt" (defArgs s_dealt) (defBody s_dealt) (defScope s_dealt) (.ref dt_dealt) kV14 dc14 pm14 an14 cd14 ct14),sl14⟩) (c14:PySem.W.codeIn K cd14 "dealt" = true) (k14:PySem.W.keepIn K (.ref f14)=true)
    (dk_dealt:K.lookup dt_dealt=some ⟨do_dealt,dd_dealt,.seq #[.none] dn_dealt,dl_dealt⟩)
    (a15:PySem.W.nsIn K mainGlobals "tags_of" = some (some (.ref f15))) (l15:K.lookup f15=some ⟨oc15,od15,.func (PySem.W.fnOf "tags_of" "tags_of" (defArgs s_tags_of) (defBody s_tags_of) (defScope s_tags_of) .none kV15 dc15 pm15 an15 cd15 ct15),sl15⟩) (c15:PySem.W.codeIn K cd15 "tags_of" = true) (k15:PySem.W.keepIn K (.ref f15)=true)
    (a16:PySem.W.nsIn K mainGlobals "heads_at" = some (some (.ref f16))) (l16:K.lookup f16=some ⟨oc16,od16,.func (PySem.W.fnOf "heads_at" "heads_at" (defArgs s_heads_at) (defBody s_heads_at) (defScope s_heads_at) .none kV16 dc16 pm16 an16 cd16 ct16),sl16⟩) (c16:PySem.W.codeIn K cd16 "heads_at" = true) (k16:PySem.W.keepIn K (.ref f16)=true)
    (a17:PySem.W.nsIn K mainGlobals "first_end" = some (some (.ref f17))) (l17:K.lookup f17=some ⟨oc17,od17,.func (PySem.W.fnOf "first_end" "first_end" (defArgs s_first_end) (defBody s_first_end) (defScope s_first_end) .none kV17 dc17 pm17 an17 cd17 ct17),sl17⟩) (c17:PySem.W.codeIn K cd17 "first_end" = true) (k17:PySem.W.keepIn K (.ref f17)=true)
    (a18:PySem.W.nsIn K mainGlobals "flow" = some (some (.ref f18))) (l18:K.lookup f18=some ⟨oc18,od18,.func (PySem.W.fnOf "flow" "flow" (defArgs s_flow) (defBody s_flow) (defScope s_flow) .none kV18 dc18 pm18 an18 cd18 ct18),sl18⟩) (c18:PySem.W.codeIn K cd18 "flow" = true) (k18:PySem.W.keepIn K (.ref f18)=true)
    (a19:PySem.W.nsIn K mainGlobals "flowed" = some (some (.ref f19))) (l19:K.lookup f19=some ⟨oc19,od19,.func (PySem.W.fnOf "flowed" "flowed" (defArgs s_flowed) (defBody s_flowed) (defScope s_flowed) .none kV19 dc19 pm19 an19 cd19 ct19),sl19⟩) (c19:PySem.W.codeIn K cd19 "flowed" = true) (k19:PySem.W.keepIn K (.ref f19)=true)
    (a20:PySem.W.nsIn K mainGlobals "_law_cell_at" = some (some (.ref f20))) (l20:K.lookup f20=some ⟨oc20,od20,.func (PySem.W.fnOf "_law_cell_at" "_law_cell_at" (defArgs s__law_cell_at) (defBody s__law_cell_at) (defScope s__law_cell_at) .none kV20 dc20 pm20 an20 cd20 ct20),sl20⟩) (c20:PySem.W.codeIn K cd20 "_law_cell_at" = true) (k20:PySem.W.keepIn K (.ref f20)=true)
    (a21:PySem.W.nsIn K mainGlobals "_law_stream" = some (some (.ref f21))) (l21:K.lookup f21=some ⟨oc21,od21,.func (PySem.W.fnOf "_law_stream" "_law_stream" (defArgs s__law_stream) (defBody s__law_stream) (defScope s__law_stream) .none kV21 dc21 pm21 an21 cd21 ct21),sl21⟩) (c21:PySem.W.codeIn K cd21 "_law_stream" = true) (k21:PySem.W.keepIn K (.ref f21)=true)
    (a22:PySem.W.nsIn K mainGlobals "_law_row" = some (some (.ref f22))) (l22:K.lookup f22=some ⟨oc22,od22,.func (PySem.W.fnOf "_law_row" "_law_row" (defArgs s__law_row) (defBody s__law_row) (defScope s__law_row) .none kV22 dc22 pm22 an22 cd22 ct22),sl22⟩) (c22:PySem.W.codeIn K cd22 "_law_row" = true) (k22:PySem.W.keepIn K (.ref f22)=true)
    (a23:PySem.W.nsIn K mainGlobals "_law_moments" = some (some (.ref f23))) (l23:K.lookup f23=some ⟨oc23,od23,.func (PySem.W.fnOf "_law_moments" "_law_moments" (defArgs s__law_moments) (defBody s__law_moments) (defScope s__law_moments) .none kV23 dc23 pm23 an23 cd23 ct23),sl23⟩) (c23:PySem.W.codeIn K cd23 "_law_moments" = true) (k23:PySem.W.keepIn K (.ref f23)=true)
    (a24:PySem.W.nsIn K mainGlobals "_law_went" = some (some (.ref f24))) (l24:K.lookup f24=some ⟨oc24,od24,.func (PySem.W.fnOf "_law_went" "_law_went" (defArgs s__law_went) (defBody s__law_went) (defScope s__law_went) .none kV24 dc24 pm24 an24 cd24 ct24),sl24⟩) (c24:PySem.W.codeIn K cd24 "_law_went" = true) (k24:PySem.W.keepIn K (.ref f24)=true)
    (a25:PySem.W.nsIn K mainGlobals "_law_near" = some (some (.ref f25))) (l25:K.lookup f25=some ⟨oc25,od25,.func (PySem.W.fnOf "_law_near" "_law_near" (defArgs s__law_near) (defBody s__law_near) (defScope s__law_near) .none kV25 dc25 pm25 an25 cd25 ct25),sl25⟩) (c25:PySem.W.codeIn K cd25 "_law_near" = true) (k25:PySem.W.keepIn K (.ref f25)=true)
    (a26:PySem.W.nsIn K mainGlobals "law" = some (some (.ref f26))) (l26:K.lookup f26=some ⟨oc26,od26,.func (PySem.W.fnOf "law" "law" (defArgs s_law) (defBody s_law) (defScope s_law) .none kV26 dc26 pm26 an26 cd26 ct26),sl26⟩) (c26:PySem.W.codeIn K cd26 "law" = true) (k26:PySem.W.keepIn K (.ref f26)=true)
    (z1:PySem.W.nsIn K mainGlobals "abs" = some none)
    (z2:PySem.W.nsIn K mainGlobals "enumerate" = some none)
    (z3:PySem.W.nsIn K mainGlobals "sum" = some none)
    (z4:PySem.W.nsIn K mainGlobals "len" = some none)
    (z5:PySem.W.nsIn K mainGlobals "range" = some none)
    (z6:PySem.W.nsIn K mainGlobals "min" = some none)
    (z7:PySem.W.nsIn K mainGlobals "max" = some none)
    (z8:PySem.W.nsIn K mainGlobals "list" = some none)
    {c_Tide:Addr}
    (b_Tide:PySem.W.nsIn K mainGlobals "Tide" = some (some (.ref c_Tide)))
    (pg_Tide:PySem.W.plainGet K c_Tide Str.empty=true)
    (hd_Tide:PySem.W.hasDictIn K c_Tide=true)
    (po_Tide:PySem.W.plainOver K c_Tide=true)
    (sa_Tide:PySem.W.findIn K (.ref c_Tide) "__setattr__" = some (some (.builtin "object.__setattr__")))
    (mk_Tide:PySem.W.makesIn K c_Tide=true)
    (kc_Tide:PySem.W.keepIn K (.ref c_Tide)=true)
    (na_Tide_latest:PySem.W.findIn K (.ref c_Tide) "latest" = some none)
    (na_Tide_reached:PySem.W.findIn K (.ref c_Tide) "reached" = some none)
    (na_Tide_unflowed:PySem.W.findIn K (.ref c_Tide) "unflowed" = some none)
    (na_Tide_last_ends:PySem.W.findIn K (.ref c_Tide) "last_ends" = some none)
    {i_Tide_init:Addr} {od_Tide_init an_Tide_init:Option Addr} {sl_Tide_init:Array (Option Value)} {oc_Tide_init kV_Tide_init dc_Tide_init pm_Tide_init co_Tide_init ct_Tide_init:Value}
    (a_Tide_init:PySem.W.findIn K (.ref c_Tide) "__init__" = some (some (.ref i_Tide_init)))
    (i_Tide_init_fn:PySem.W.isFn K (.ref i_Tide_init)=true)
    (l_Tide_init:K.lookup i_Tide_init=some ⟨oc_Tide_init,od_Tide_init,.func (PySem.W.fnOf "__init__" "Tide.__init__" (defArgs s_Tide_init) (defBody s_Tide_init) (defScope s_Tide_init) .none kV_Tide_init dc_Tide_init pm_Tide_init an_Tide_init co_Tide_init ct_Tide_init),sl_Tide_init⟩)
    (c_Tide_init_cd:PySem.W.codeIn K co_Tide_init "Tide.__init__" = true)
    (k_Tide_init:PySem.W.keepIn K (.ref i_Tide_init)=true)
    {i_Tide_mark:Addr} {od_Tide_mark an_Tide_mark:Option Addr} {sl_Tide_mark:Array (Option Value)} {oc_Tide_mark kV_Tide_mark dc_Tide_mark pm_Tide_mark co_Tide_mark ct_Tide_mark:Value}
    (a_Tide_mark:PySem.W.findIn K (.ref c_Tide) "mark" = some (some (.ref i_Tide_mark)))
    (i_Tide_mark_fn:PySem.W.isFn K (.ref i_Tide_mark)=true)
    (l_Tide_mark:K.lookup i_Tide_mark=some ⟨oc_Tide_mark,od_Tide_mark,.func (PySem.W.fnOf "mark" "Tide.mark" (defArgs s_Tide_mark) (defBody s_Tide_mark) (defScope s_Tide_mark) .none kV_Tide_mark dc_Tide_mark pm_Tide_mark an_Tide_mark co_Tide_mark ct_Tide_mark),sl_Tide_mark⟩)
    (c_Tide_mark_cd:PySem.W.codeIn K co_Tide_mark "Tide.mark" = true)
    (k_Tide_mark:PySem.W.keepIn K (.ref i_Tide_mark)=true)
    {i_Tide_come:Addr} {od_Tide_come an_Tide_come:Option Addr} {sl_Tide_come:Array (Option Value)} {oc_Tide_come kV_Tide_come dc_Tide_come pm_Tide_come co_Tide_come ct_Tide_come:Value}
    (a_Tide_come:PySem.W.findIn K (.ref c_Tide) "come" = some (some (.ref i_Tide_come)))
    (i_Tide_come_fn:PySem.W.isFn K (.ref i_Tide_come)=true)
    (l_Tide_come:K.lookup i_Tide_come=some ⟨oc_Tide_come,od_Tide_come,.func (PySem.W.fnOf "come" "Tide.come" (defArgs s_Tide_come) (defBody s_Tide_come) (defScope s_Tide_come) .none kV_Tide_come dc_Tide_come pm_Tide_come an_Tide_come co_Tide_come ct_Tide_come),sl_Tide_come⟩)
    (c_Tide_come_cd:PySem.W.codeIn K co_Tide_come "Tide.come" = true)
    (k_Tide_come:PySem.W.keepIn K (.ref i_Tide_come)=true)
    {c_Wheel:Addr}
    (b_Wheel:PySem.W.nsIn K mainGlobals "Wheel" = some (some (.ref c_Wheel)))
    (pg_Wheel:PySem.W.plainGet K c_Wheel Str.empty=true)
    (hd_Wheel:PySem.W.hasDictIn K c_Wheel=true)
    (po_Wheel:PySem.W.plainOver K c_Wheel=true)
    (sa_Wheel:PySem.W.findIn K (.ref c_Wheel) "__setattr__" = some (some (.builtin "object.__setattr__")))
    (mk_Wheel:PySem.W.makesIn K c_Wheel=true)
    (kc_Wheel:PySem.W.keepIn K (.ref c_Wheel)=true)
    (na_Wheel_tide:PySem.W.findIn K (.ref c_Wheel) "tide" = some none)
    (na_Wheel_free:PySem.W.findIn K (.ref c_Wheel) "free" = some none)
    (na_Wheel_queue:PySem.W.findIn K (.ref c_Wheel) "queue" = some none)
    (na_Wheel_gone:PySem.W.findIn K (.ref c_Wheel) "gone" = some none)
    {i_Wheel_init:Addr} {od_Wheel_init an_Wheel_init:Option Addr} {sl_Wheel_init:Array (Option Value)} {oc_Wheel_init kV_Wheel_init dc_Wheel_init pm_Wheel_init co_Wheel_init ct_Wheel_init:Value}
    (a_Wheel_init:PySem.W.findIn K (.ref c_Wheel) "__init__" = some (some (.ref i_Wheel_init)))
    (i_Wheel_init_fn:PySem.W.isFn K (.ref i_Wheel_init)=true)
    (l_Wheel_init:K.lookup i_Wheel_init=some ⟨oc_Wheel_init,od_Wheel_init,.func (PySem.W.fnOf "__init__" "Wheel.__init__" (defArgs s_Wheel_init) (defBody s_Wheel_init) (defScope s_Wheel_init) .none kV_Wheel_init dc_Wheel_init pm_Wheel_init an_Wheel_init co_Wheel_init ct_Wheel_init),sl_Wheel_init⟩)
    (c_Wheel_init_cd:PySem.W.codeIn K co_Wheel_init "Wheel.__init__" = true)
    (k_Wheel_init:PySem.W.keepIn K (.ref i_Wheel_init)=true)
    {i_Wheel_piled_up:Addr} {od_Wheel_piled_up an_Wheel_piled_up:Option Addr} {sl_Wheel_piled_up:Array (Option Value)} {oc_Wheel_piled_up kV_Wheel_piled_up dc_Wheel_piled_up pm_Wheel_piled_up co_Wheel_piled_up ct_Wheel_piled_up:Value}
    (a_Wheel_piled_up:PySem.W.findIn K (.ref c_Wheel) "piled_up" = some (some (.ref i_Wheel_piled_up)))
    (i_Wheel_piled_up_fn:PySem.W.isFn K (.ref i_Wheel_piled_up)=true)
    (l_Wheel_piled_up:K.lookup i_Wheel_piled_up=some ⟨oc_Wheel_piled_up,od_Wheel_piled_up,.func (PySem.W.fnOf "piled_up" "Wheel.piled_up" (defArgs s_Wheel_piled_up) (defBody s_Wheel_piled_up) (defScope s_Wheel_piled_up) .none kV_Wheel_piled_up dc_Wheel_piled_up pm_Wheel_piled_up an_Wheel_piled_up co_Wheel_piled_up ct_Wheel_piled_up),sl_Wheel_piled_up⟩)
    (c_Wheel_piled_up_cd:PySem.W.codeIn K co_Wheel_piled_up "Wheel.piled_up" = true)
    (k_Wheel_piled_up:PySem.W.keepIn K (.ref i_Wheel_piled_up)=true)
    {i_Wheel_take_in:Addr} {od_Wheel_take_in an_Wheel_take_in:Option Addr} {sl_Wheel_take_in:Array (Option Value)} {oc_Wheel_take_in kV_Wheel_take_in dc_Wheel_take_in pm_Wheel_take_in co_Wheel_take_in ct_Wheel_take_in:Value}
    (a_Wheel_take_in:PySem.W.findIn K (.ref c_Wheel) "take_in" = some (some (.ref i_Wheel_take_in)))
    (i_Wheel_take_in_fn:PySem.W.isFn K (.ref i_Wheel_take_in)=true)
    (l_Wheel_take_in:K.lookup i_Wheel_take_in=some ⟨oc_Wheel_take_in,od_Wheel_take_in,.func (PySem.W.fnOf "take_in" "Wheel.take_in" (defArgs s_Wheel_take_in) (defBody s_Wheel_take_in) (defScope s_Wheel_take_in) .none kV_Wheel_take_in dc_Wheel_take_in pm_Wheel_take_in an_Wheel_take_in co_Wheel_take_in ct_Wheel_take_in),sl_Wheel_take_in⟩)
    (c_Wheel_take_in_cd:PySem.W.codeIn K co_Wheel_take_in "Wheel.take_in" = true)
    (k_Wheel_take_in:PySem.W.keepIn K (.ref i_Wheel_take_in)=true)
    {i_Wheel_choice_time:Addr} {od_Wheel_choice_time an_Wheel_choice_time:Option Addr} {sl_Wheel_choice_time:Array (Option Value)} {oc_Wheel_choice_time kV_Wheel_choice_time dc_Wheel_choice_time pm_Wheel_choice_time co_Wheel_choice_time ct_Wheel_choice_time:Value}
    (a_Wheel_choice_time:PySem.W.findIn K (.ref c_Wheel) "choice_time" = some (some (.ref i_Wheel_choice_time)))
    (i_Wheel_choice_time_fn:PySem.W.isFn K (.ref i_Wheel_choice_time)=true)
    (l_Wheel_choice_time:K.lookup i_Wheel_choice_time=some ⟨oc_Wheel_choice_time,od_Wheel_choice_time,.func (PySem.W.fnOf "choice_time" "Wheel.choice_time" (defArgs s_Wheel_choice_time) (defBody s_Wheel_choice_time) (defScope s_Wheel_choice_time) .none kV_Wheel_choice_time dc_Wheel_choice_time pm_Wheel_choice_time an_Wheel_choice_time co_Wheel_choice_time ct_Wheel_choice_time),sl_Wheel_choice_time⟩)
    (c_Wheel_choice_time_cd:PySem.W.codeIn K co_Wheel_choice_time "Wheel.choice_time" = true)
    (k_Wheel_choice_time:PySem.W.keepIn K (.ref i_Wheel_choice_time)=true)
    {i_Wheel_next_to_go:Addr} {od_Wheel_next_to_go an_Wheel_next_to_go:Option Addr} {sl_Wheel_next_to_go:Array (Option Value)} {oc_Wheel_next_to_go kV_Wheel_next_to_go dc_Wheel_next_to_go pm_Wheel_next_to_go co_Wheel_next_to_go ct_Wheel_next_to_go:Value}
    (a_Wheel_next_to_go:PySem.W.findIn K (.ref c_Wheel) "next_to_go" = some (some (.ref i_Wheel_next_to_go)))
    (i_Wheel_next_to_go_fn:PySem.W.isFn K (.ref i_Wheel_next_to_go)=true)
    (l_Wheel_next_to_go:K.lookup i_Wheel_next_to_go=some ⟨oc_Wheel_next_to_go,od_Wheel_next_to_go,.func (PySem.W.fnOf "next_to_go" "Wheel.next_to_go" (defArgs s_Wheel_next_to_go) (defBody s_Wheel_next_to_go) (defScope s_Wheel_next_to_go) .none kV_Wheel_next_to_go dc_Wheel_next_to_go pm_Wheel_next_to_go an_Wheel_next_to_go co_Wheel_next_to_go ct_Wheel_next_to_go),sl_Wheel_next_to_go⟩)
    (c_Wheel_next_to_go_cd:PySem.W.codeIn K co_Wheel_next_to_go "Wheel.next_to_go" = true)
    (k_Wheel_next_to_go:PySem.W.keepIn K (.ref i_Wheel_next_to_go)=true)
    {i_Wheel_make_choice:Addr} {od_Wheel_make_choice an_Wheel_make_choice:Option Addr} {sl_Wheel_make_choice:Array (Option Value)} {oc_Wheel_make_choice kV_Wheel_make_choice dc_Wheel_make_choice pm_Wheel_make_choice co_Wheel_make_choice ct_Wheel_make_choice:Value}
    (a_Wheel_make_choice:PySem.W.findIn K (.ref c_Wheel) "make_choice" = some (some (.ref i_Wheel_make_choice)))
    (i_Wheel_make_choice_fn:PySem.W.isFn K (.ref i_Wheel_make_choice)=true)
    (l_Wheel_make_choice:K.lookup i_Wheel_make_choice=some ⟨oc_Wheel_make_choice,od_Wheel_make_choice,.func (PySem.W.fnOf "make_choice" "Wheel.make_choice" (defArgs s_Wheel_make_choice) (defBody s_Wheel_make_choice) (defScope s_Wheel_make_choice) .none kV_Wheel_make_choice dc_Wheel_make_choice pm_Wheel_make_choice an_Wheel_make_choice co_Wheel_make_choice ct_Wheel_make_choice),sl_Wheel_make_choice⟩)
    (c_Wheel_make_choice_cd:PySem.W.codeIn K co_Wheel_make_choice "Wheel.make_choice" = true)
    (k_Wheel_make_choice:PySem.W.keepIn K (.ref i_Wheel_make_choice)=true)
    {i_Wheel_run_up_to:Addr} {od_Wheel_run_up_to an_Wheel_run_up_to:Option Addr} {sl_Wheel_run_up_to:Array (Option Value)} {oc_Wheel_run_up_to kV_Wheel_run_up_to dc_Wheel_run_up_to pm_Wheel_run_up_to co_Wheel_run_up_to ct_Wheel_run_up_to:Value}
    (a_Wheel_run_up_to:PySem.W.findIn K (.ref c_Wheel) "run_up_to" = some (some (.ref i_Wheel_run_up_to)))
    (i_Wheel_run_up_to_fn:PySem.W.isFn K (.ref i_Wheel_run_up_to)=true)
    (l_Wheel_run_up_to:K.lookup i_Wheel_run_up_to=some ⟨oc_Wheel_run_up_to,od_Wheel_run_up_to,.func (PySem.W.fnOf "run_up_to" "Wheel.run_up_to" (defArgs s_Wheel_run_up_to) (defBody s_Wheel_run_up_to) (defScope s_Wheel_run_up_to) .none kV_Wheel_run_up_to dc_Wheel_run_up_to pm_Wheel_run_up_to an_Wheel_run_up_to co_Wheel_run_up_to ct_Wheel_run_up_to),sl_Wheel_run_up_to⟩)
    (c_Wheel_run_up_to_cd:PySem.W.codeIn K co_Wheel_run_up_to "Wheel.run_up_to" = true)
    (k_Wheel_run_up_to:PySem.W.keepIn K (.ref i_Wheel_run_up_to)=true)
    {i_Wheel_run_out:Addr} {od_Wheel_run_out an_Wheel_run_out:Option Addr} {sl_Wheel_run_out:Array (Option Value)} {oc_Wheel_run_out kV_Wheel_run_out dc_Wheel_run_out pm_Wheel_run_out co_Wheel_run_out ct_Wheel_run_out:Value}
    (a_Wheel_run_out:PySem.W.findIn K (.ref c_Wheel) "run_out" = some (some (.ref i_Wheel_run_out)))
    (i_Wheel_run_out_fn:PySem.W.isFn K (.ref i_Wheel_run_out)=true)
    (l_Wheel_run_out:K.lookup i_Wheel_run_out=some ⟨oc_Wheel_run_out,od_Wheel_run_out,.func (PySem.W.fnOf "run_out" "Wheel.run_out" (defArgs s_Wheel_run_out) (defBody s_Wheel_run_out) (defScope s_Wheel_run_out) .none kV_Wheel_run_out dc_Wheel_run_out pm_Wheel_run_out an_Wheel_run_out co_Wheel_run_out ct_Wheel_run_out),sl_Wheel_run_out⟩)
    (c_Wheel_run_out_cd:PySem.W.codeIn K co_Wheel_run_out "Wheel.run_out" = true)
    (k_Wheel_run_out:PySem.W.keepIn K (.ref i_Wheel_run_out)=true)
    : ∃ fd:FuncData,(∀ (s:Shared) (v:Value),BindsTo s fd ⟨[v],[]⟩ [("_law_script", v)])∧∀ base:Heap,K.In base→base.Ns mainGlobals mg→FnOk l.prog w K mg base CX0 9 fa fd ["_law_script"] (spLaw K):=by
  have e:=hfa.symm.trans (PySem.W.mg_of X G a26)
  cases e
  have F1:=fun_mk (st:=s_divisor) l1 c1 k1
  have F2:=fun_mk (st:=s_ratio) l2 c2 k2
  have F3:=fun_mk (st:=s_plus) l3 c3 k3
  have F4:=fun_mk (st:=s_minus) l4 c4 k4
  have F5:=fun_mk (st:=s_times) l5 c5 k5
  have F6:=fun_mk (st:=s_over) l6 c6 k6
  have F7:=fun_mk (st:=s_under) l7 c7 k7
  have F8:=fun_mk (st:=s_lesser) l8 c8 k8
  have F9:=fun_mk (st:=s_greater) l9 c9 k9
  have F10:=fun_mk (st:=s_least) l10 c10 k10
  have F11:=fun_mk (st:=s_total) l11 c11 k11
  have F12:=fun_mk (st:=s_heads_of) l12 c12 k12
  have F13:=fun_mk (st:=s_overflows) l13 c13 k13
  have F14:=funE_mk (st:=s_dealt) l14 c14
  have B0_dealt:Binds K _ ["row", "rooms"] []:=binds_dflt (fd:=PySem.W.fnOf "dealt" "dealt" (defArgs s_dealt) (defBody s_dealt) (defScope s_dealt) (.ref dt_dealt) kV14 dc14 pm14 an14 cd14 ct14) rfl dk_dealt (fun us hl=>match us,(show us.length = 2 by simpa using hl) with | [_,_],_=>⟨_,rfl,rfl⟩)
  have B1_dealt:Binds K _ ["row", "rooms"] [.none]:=binds_dflt (fd:=PySem.W.fnOf "dealt" "dealt" (defArgs s_dealt) (defBody s_dealt) (defScope s_dealt) (.ref dt_dealt) kV14 dc14 pm14 an14 cd14 ct14) rfl dk_dealt (fun us hl=>match us,(show us.length = 1 by simpa using hl) with | [_],_=>⟨_,rfl,rfl⟩)
  have F15:=fun_mk (st:=s_tags_of) l15 c15 k15
  have F16:=fun_mk (st:=s_heads_at) l16 c16 k16
  have F17:=fun_mk (st:=s_first_end) l17 c17 k17
  have F18:=fun_mk (st:=s_flow) l18 c18 k18
  have F19:=fun_mk (st:=s_flowed) l19 c19 k19
  have F20:=fun_mk (st:=s__law_cell_at) l20 c20 k20
  have F21:=fun_mk (st:=s__law_stream) l21 c21 k21
  have F22:=fun_mk (st:=s__law_row) l22 c22 k22
  have F23:=fun_mk (st:=s__law_moments) l23 c23 k23
  have F24:=fun_mk (st:=s__law_went) l24 c24 k24
  have F25:=fun_mk (st:=s__law_near) l25 c25 k25
  have F_Tide_init:=funE_mk (st:=s_Tide_init) l_Tide_init c_Tide_init_cd
  have B_Tide_init:=(fun_mk (st:=s_Tide_init) l_Tide_init c_Tide_init_cd k_Tide_init).binds (ps:=["self"]) (fun _ _ _ _ _ _=>L2.el1 (fun _=>rfl))
  have F_Tide_mark:=funE_mk (st:=s_Tide_mark) l_Tide_mark c_Tide_mark_cd
  have B_Tide_mark:=(fun_mk (st:=s_Tide_mark) l_Tide_mark c_Tide_mark_cd k_Tide_mark).binds (ps:=["self", "at"]) (fun _ _ _ _ _ _=>L2.el2 (fun _ _=>rfl))
  have F_Tide_come:=funE_mk (st:=s_Tide_come) l_Tide_come c_Tide_come_cd
  have B_Tide_come:=(fun_mk (st:=s_Tide_come) l_Tide_come c_Tide_come_cd k_Tide_come).binds (ps:=["self", "piece"]) (fun _ _ _ _ _ _=>L2.el2 (fun _ _=>rfl))
  have F_Wheel_init:=funE_mk (st:=s_Wheel_init) l_Wheel_init c_Wheel_init_cd
  have B_Wheel_init:=(fun_mk (st:=s_Wheel_init) l_Wheel_init c_Wheel_init_cd k_Wheel_init).binds (ps:=["self"]) (fun _ _ _ _ _ _=>L2.el1 (fun _=>rfl))
  have F_Wheel_piled_up:=funE_mk (st:=s_Wheel_piled_up) l_Wheel_piled_up c_Wheel_piled_up_cd
  have B_Wheel_piled_up:=(fun_mk (st:=s_Wheel_piled_up) l_Wheel_piled_up c_Wheel_piled_up_cd k_Wheel_piled_up).binds (ps:=["self", "who"]) (fun _ _ _ _ _ _=>L2.el2 (fun _ _=>rfl))
  have F_Wheel_take_in:=funE_mk (st:=s_Wheel_take_in) l_Wheel_take_in c_Wheel_take_in_cd
  have B_Wheel_take_in:=(fun_mk (st:=s_Wheel_take_in) l_Wheel_take_in c_Wheel_take_in_cd k_Wheel_take_in).binds (ps:=["self", "place", "piece"]) (fun _ _ _ _ _ _=>L2.el3 (fun _ _ _=>rfl))
  have F_Wheel_choice_time:=funE_mk (st:=s_Wheel_choice_time) l_Wheel_choice_time c_Wheel_choice_time_cd
  have B_Wheel_choice_time:=(fun_mk (st:=s_Wheel_choice_time) l_Wheel_choice_time c_Wheel_choice_time_cd k_Wheel_choice_time).binds (ps:=["self"]) (fun _ _ _ _ _ _=>L2.el1 (fun _=>rfl))
  have F_Wheel_next_to_go:=funE_mk (st:=s_Wheel_next_to_go) l_Wheel_next_to_go c_Wheel_next_to_go_cd
  have B_Wheel_next_to_go:=(fun_mk (st:=s_Wheel_next_to_go) l_Wheel_next_to_go c_Wheel_next_to_go_cd k_Wheel_next_to_go).binds (ps:=["self", "mark"]) (fun _ _ _ _ _ _=>L2.el2 (fun _ _=>rfl))
  have F_Wheel_make_choice:=funE_mk (st:=s_Wheel_make_choice) l_Wheel_make_choice c_Wheel_make_choice_cd
  have B_Wheel_make_choice:=(fun_mk (st:=s_Wheel_make_choice) l_Wheel_make_choice c_Wheel_make_choice_cd k_Wheel_make_choice).binds (ps:=["self"]) (fun _ _ _ _ _ _=>L2.el1 (fun _=>rfl))
  have F_Wheel_run_up_to:=funE_mk (st:=s_Wheel_run_up_to) l_Wheel_run_up_to c_Wheel_run_up_to_cd
  have B_Wheel_run_up_to:=(fun_mk (st:=s_Wheel_run_up_to) l_Wheel_run_up_to c_Wheel_run_up_to_cd k_Wheel_run_up_to).binds (ps:=["self", "at"]) (fun _ _ _ _ _ _=>L2.el2 (fun _ _=>rfl))
  have F_Wheel_run_out:=funE_mk (st:=s_Wheel_run_out) l_Wheel_run_out c_Wheel_run_out_cd
  have B_Wheel_run_out:=(fun_mk (st:=s_Wheel_run_out) l_Wheel_run_out c_Wheel_run_out_cd k_Wheel_run_out).binds (ps:=["self"]) (fun _ _ _ _ _ _=>L2.el1 (fun _=>rfl))
  have T:Txt K mg c_Tide c_Wheel:=⟨PySem.W.mg_none_of X G z1,PySem.W.mg_none_of X G z2,PySem.W.mg_none_of X G z3,PySem.W.mg_none_of X G z4,PySem.W.mg_none_of X G z5,PySem.W.mg_none_of X G z6,PySem.W.mg_none_of X G z7,PySem.W.mg_none_of X G z8,⟨_,_,F1,F1.binds (ps:=["one", "other"]) (fun _ _ _ _ _ _=>L2.el2 (fun _ _=>rfl)),PySem.W.mg_of X G a1⟩,⟨_,_,F2,F2.binds (ps:=["top", "bottom"]) (fun _ _ _ _ _ _=>L2.el2 (fun _ _=>rfl)),PySem.W.mg_of X G a2⟩,⟨_,_,F3,F3.binds (ps:=["one", "other"]) (fun _ _ _ _ _ _=>L2.el2 (fun _ _=>rfl)),PySem.W.mg_of X G a3⟩,⟨_,_,F4,F4.binds (ps:=["one", "other"]) (fun _ _ _ _ _ _=>L2.el2 (fun _ _=>rfl)),PySem.W.mg_of X G a4⟩,⟨_,_,F5,F5.binds (ps:=["one", "other"]) (fun _ _ _ _ _ _=>L2.el2 (fun _ _=>rfl)),PySem.W.mg_of X G a5⟩,⟨_,_,F6,F6.binds (ps:=["one", "other"]) (fun _ _ _ _ _ _=>L2.el2 (fun _ _=>rfl)),PySem.W.mg_of X G a6⟩,⟨_,_,F7,F7.binds (ps:=["one", "other"]) (fun _ _ _ _ _ _=>L2.el2 (fun _ _=>rfl)),PySem.W.mg_of X G a7⟩,⟨_,_,F8,F8.binds (ps:=["one", "other"]) (fun _ _ _ _ _ _=>L2.el2 (fun _ _=>rfl)),PySem.W.mg_of X G a8⟩,⟨_,_,F9,F9.binds (ps:=["one", "other"]) (fun _ _ _ _ _ _=>L2.el2 (fun _ _=>rfl)),PySem.W.mg_of X G a9⟩,⟨_,_,F10,F10.binds (ps:=["some"]) (fun _ _ _ _ _ _=>L2.el1 (fun _=>rfl)),PySem.W.mg_of X G a10⟩,⟨_,_,F11,F11.binds (ps:=["some"]) (fun _ _ _ _ _ _=>L2.el1 (fun _=>rfl)),PySem.W.mg_of X G a11⟩,⟨_,_,F12,F12.binds (ps:=["tagged", "mark"]) (fun _ _ _ _ _ _=>L2.el2 (fun _ _=>rfl)),PySem.W.mg_of X G a12⟩,⟨_,_,F13,F13.binds (ps:=["wheel", "piece", "rooms"]) (fun _ _ _ _ _ _=>L2.el3 (fun _ _ _=>rfl)),PySem.W.mg_of X G a13⟩,⟨⟨_,_,F14,(fun dvs h=>by simp only [List.mem_cons,List.not_mem_nil,or_false] at h; rcases h with rfl | rfl <;> first | exact ⟨_,.nil,B0_dealt⟩ | exact ⟨_,(.cons rfl .nil),B1_dealt⟩),k14,PySem.W.mg_of X G a14⟩⟩,⟨_,_,F15,F15.binds (ps:=["row"]) (fun _ _ _ _ _ _=>L2.el1 (fun _=>rfl)),PySem.W.mg_of X G a15⟩,⟨_,_,F16,F16.binds (ps:=["row", "tags", "moment", "mark"]) (fun _ _ _ _ _ _=>L2.el4 (fun _ _ _ _=>rfl)),PySem.W.mg_of X G a16⟩,⟨_,_,F17,F17.binds (ps:=["tags", "heads", "shares", "moment", "mark"]) (fun _ _ _ _ _ _=>L2.el5 (fun _ _ _ _ _=>rfl)),PySem.W.mg_of X G a17⟩,⟨_,_,F18,F18.binds (ps:=["row"]) (fun _ _ _ _ _ _=>L2.el1 (fun _=>rfl)),PySem.W.mg_of X G a18⟩,⟨_,_,F19,F19.binds (ps:=["row", "who", "at"]) (fun _ _ _ _ _ _=>L2.el3 (fun _ _ _=>rfl)),PySem.W.mg_of X G a19⟩,⟨_,_,F20,F20.binds (ps:=["_law_script", "_law_k"]) (fun _ _ _ _ _ _=>L2.el2 (fun _ _=>rfl)),PySem.W.mg_of X G a20⟩,⟨_,_,F21,F21.binds (ps:=["_law_cell", "_law_many"]) (fun _ _ _ _ _ _=>L2.el2 (fun _ _=>rfl)),PySem.W.mg_of X G a21⟩,⟨_,_,F22,F22.binds (ps:=["_law_script"]) (fun _ _ _ _ _ _=>L2.el1 (fun _=>rfl)),PySem.W.mg_of X G a22⟩,⟨_,_,F23,F23.binds (ps:=["_law_cell", "_law_row_here", "_law_goings"]) (fun _ _ _ _ _ _=>L2.el3 (fun _ _ _=>rfl)),PySem.W.mg_of X G a23⟩,⟨_,_,F24,F24.binds (ps:=["_law_row_here", "_law_goings", "_law_who", "_law_at"]) (fun _ _ _ _ _ _=>L2.el4 (fun _ _ _ _=>rfl)),PySem.W.mg_of X G a24⟩,⟨_,_,F25,F25.binds (ps:=["_law_went_here", "_law_stream_here", "_law_long", "_law_own"]) (fun _ _ _ _ _ _=>L2.el4 (fun _ _ _ _=>rfl)),PySem.W.mg_of X G a25⟩,PySem.W.mg_of X G b_Tide,⟨pg_Tide,hd_Tide,po_Tide,sa_Tide⟩,na_Tide_latest,na_Tide_reached,na_Tide_unflowed,na_Tide_last_ends,⟨⟨_,_,F_Tide_init,⟨mk_Tide,a_Tide_init,i_Tide_init_fn,kc_Tide⟩,(fun dvs h=>by simp only [List.mem_cons,List.not_mem_nil,or_false] at h; subst h; exact BindsV.nil B_Tide_init)⟩⟩,⟨⟨_,_,F_Tide_mark,⟨a_Tide_mark,i_Tide_mark_fn,k_Tide_mark⟩,(fun dvs h=>by simp only [List.mem_cons,List.not_mem_nil,or_false] at h; subst h; exact BindsV.nil B_Tide_mark)⟩⟩,⟨⟨_,_,F_Tide_come,⟨a_Tide_come,i_Tide_come_fn,k_Tide_come⟩,(fun dvs h=>by simp only [List.mem_cons,List.not_mem_nil,or_false] at h; subst h; exact BindsV.nil B_Tide_come)⟩⟩,PySem.W.mg_of X G b_Wheel,⟨pg_Wheel,hd_Wheel,po_Wheel,sa_Wheel⟩,na_Wheel_tide,na_Wheel_free,na_Wheel_queue,na_Wheel_gone,⟨⟨_,_,F_Wheel_init,⟨mk_Wheel,a_Wheel_init,i_Wheel_init_fn,kc_Wheel⟩,(fun dvs h=>by simp only [List.mem_cons,List.not_mem_nil,or_false] at h; subst h; exact BindsV.nil B_Wheel_init)⟩⟩,⟨⟨_,_,F_Wheel_piled_up,⟨a_Wheel_piled_up,i_Wheel_piled_up_fn,k_Wheel_piled_up⟩,(fun dvs h=>by simp only [List.mem_cons,List.not_mem_nil,or_false] at h; subst h; exact BindsV.nil B_Wheel_piled_up)⟩⟩,⟨⟨_,_,F_Wheel_take_in,⟨a_Wheel_take_in,i_Wheel_take_in_fn,k_Wheel_take_in⟩,(fun dvs h=>by simp only [List.mem_cons,List.not_mem_nil,or_false] at h; subst h; exact BindsV.nil B_Wheel_take_in)⟩⟩,⟨⟨_,_,F_Wheel_choice_time,⟨a_Wheel_choice_time,i_Wheel_choice_time_fn,k_Wheel_choice_time⟩,(fun dvs h=>by simp only [List.mem_cons,List.not_mem_nil,or_false] at h; subst h; exact BindsV.nil B_Wheel_choice_time)⟩⟩,⟨⟨_,_,F_Wheel_next_to_go,⟨a_Wheel_next_to_go,i_Wheel_next_to_go_fn,k_Wheel_next_to_go⟩,(fun dvs h=>by simp only [List.mem_cons,List.not_mem_nil,or_false] at h; subst h; exact BindsV.nil B_Wheel_next_to_go)⟩⟩,⟨⟨_,_,F_Wheel_make_choice,⟨a_Wheel_make_choice,i_Wheel_make_choice_fn,k_Wheel_make_choice⟩,(fun dvs h=>by simp only [List.mem_cons,List.not_mem_nil,or_false] at h; subst h; exact BindsV.nil B_Wheel_make_choice)⟩⟩,⟨⟨_,_,F_Wheel_run_up_to,⟨a_Wheel_run_up_to,i_Wheel_run_up_to_fn,k_Wheel_run_up_to⟩,(fun dvs h=>by simp only [List.mem_cons,List.not_mem_nil,or_false] at h; subst h; exact BindsV.nil B_Wheel_run_up_to)⟩⟩,⟨⟨_,_,F_Wheel_run_out,⟨a_Wheel_run_out,i_Wheel_run_out_fn,k_Wheel_run_out⟩,(fun dvs h=>by simp only [List.mem_cons,List.not_mem_nil,or_false] at h; subst h; exact BindsV.nil B_Wheel_run_out)⟩⟩⟩
  exact ⟨PySem.W.fnOf "law" "law" (defArgs s_law) (defBody s_law) (defScope s_law) .none kV26 dc26 pm26 an26 cd26 ct26,fun s v=>.of_eq rfl,fun base _ _=>ok_law (fun_mk (st:=s_law) l26 c26 k26) T⟩
theorem walk {l:PySem.W.OpenLaw} {q:Program} {loose:List Str} {XP:(Str→Option Value)→Heap→Prop} {YP:World→Heap→Prop} {d:DefRec} {K:Params→PySem.W.Frag} (hn:l.most=some 63) (hdf:d.params.defaults = [])
    (hY:∀ (w:World) (h:Heap),YP w h→(K w.params).In h)
    (F:∀ (w:World) (mg:Str→Option Value) (fa:Addr) (h:Heap),(K w.params).In h→h.Ns mainGlobals mg→mg d.name=some (.ref fa) →
      ∃ fd:FuncData,(∀ (s:Shared) (u:Value),BindsTo s fd ⟨[u],[]⟩ [("_law_script", u)])∧∀ base:Heap,(K w.params).In base→base.Ns mainGlobals mg→FnOk l.prog w (K w.params) mg base CX0 9 fa fd ["_law_script"] (spLaw (K w.params))) :
    PySem.W.WalkO q loose XP YP l.row.toRowW d [] (fun f vs=>PySem.call f vs) :=
  L2.walk_of (n:=63) (k:=9) (x := "_law_script") (CX:=fun _=>CX0) (sp:=fun w=>spLaw (K w.params)) hn (by decide) hdf ⟨rfl,by decide,by decide⟩ hY F (fun _ _ a ns hl _ hS=>⟨a,ns,rfl,hS,hl,fun _=>rfl⟩) fun _ _ _ _ _ z=>z
end K35
theorem PySem.W.Fast.tw17812058305477785319 : True := trivial
theorem PySem.W.Fast.tw15170790191526163935 : True := trivial
theorem PySem.W.Fast.tw6345125281195080459 : True := trivial
theorem PySem.W.Fast.te12562067446031820354:True:=trivial
theorem PySem.W.Fast.tw1164828440959191211:True:=trivial
theorem PySem.W.Fast.tw12392442037045826645:True:=trivial
theorem PySem.W.Fast.tw1591423758009585744:True:=trivial
theorem PySem.W.Fast.tw16155069202252790388:True:=trivial
theorem PySem.W.Fast.tw1914930888244010989:True:=trivial
theorem PySem.W.Fast.tw4946109262351660137:True:=trivial
theorem PySem.W.Fast.tw6251275653542285899:True:=trivial
open PySem PySem.W PyProof.Rows
set_option maxRecDepth 100000 in
set_option maxHeartbeats 0 in
theorem PySem.Challenge.cw_sharewheel_k35_went_and_flowed_holds : PySem.Challenge.rw_sharewheel_k35_went_and_flowed.Holds := by
  w_on; o_law; k_head; (case hw=>w_witness2)
  k_fill
  refine K35.walk (l:=PySem.Challenge.rw_sharewheel_k35_went_and_flowed) rfl rfl (fun w h Y=>PySem.W.kIn_of Y) ?F
  case F =>
    intro w mg fa h KX G hmg
    refine' K35.all_mk KX G hmg ?a1 ?l1 ?c1 ?k1 ?a2 ?l2 ?c2 ?k2 ?a3 ?l3 ?c3 ?k3 ?a4 ?l4 ?c4 ?k4 ?a5 ?l5 ?c5 ?k5 ?a6 ?l6 ?c6 ?k6 ?a7 ?l7 ?c7 ?k7 ?a8 ?l8 ?c8 ?k8 ?a9 ?l9 ?c9 ?k9 ?a10 ?l10 ?c10 ?k10 ?a11 ?l11 ?c11 ?k11 ?a12 ?l12 ?c12 ?k12 ?a13 ?l13 ?c13 ?k13 ?a14 ?l14 ?c14 ?k14 ?dk_dealt ?a15 ?l15 ?c15 ?k15 ?a16 ?l16 ?c16 ?k16 ?a17 ?l17 ?c17 ?k17 ?a18 ?l18 ?c18 ?k18 ?a19 ?l19 ?c19 ?k19 ?a20 ?l20 ?c20 ?k20 ?a21 ?l21 ?c21 ?k21 ?a22 ?l22 ?c22 ?k22 ?a23 ?l23 ?c23 ?k23 ?a24 ?l24 ?c24 ?k24 ?a25 ?l25 ?c25 ?k25 ?a26 ?l26 ?c26 ?k26 ?z1 ?z2 ?z3 ?z4 ?z5 ?z6 ?z7 ?z8 ?b_Tide ?pg_Tide ?hd_Tide ?po_Tide ?sa_Tide ?mk_Tide ?kc_Tide ?na_Tide_latest ?na_Tide_reached ?na_Tide_unflowed ?na_Tide_last_ends ?a_Tide_init ?i_Tide_init_fn ?l_Tide_init ?c_Tide_init_cd ?k_Tide_init ?a_Tide_mark ?i_Tide_mark_fn ?l_Tide_mark ?c_Tide_mark_cd ?k_Tide_mark ?a_Tide_come ?i_Tide_come_fn ?l_Tide_come ?c_Tide_come_cd ?k_Tide_come ?b_Wheel ?pg_Wheel ?hd_Wheel ?po_Wheel ?sa_Wheel ?mk_Wheel ?kc_Wheel ?na_Wheel_tide ?na_Wheel_free ?na_Wheel_queue ?na_Wheel_gone ?a_Wheel_init ?i_Wheel_init_fn ?l_Wheel_init ?c_Wheel_init_cd ?k_Wheel_init ?a_Wheel_piled_up ?i_Wheel_piled_up_fn ?l_Wheel_piled_up ?c_Wheel_piled_up_cd ?k_Wheel_piled_up ?a_Wheel_take_in ?i_Wheel_take_in_fn ?l_Wheel_take_in ?c_Wheel_take_in_cd ?k_Wheel_take_in ?a_Wheel_choice_time ?i_Wheel_choice_time_fn ?l_Wheel_choice_time ?c_Wheel_choice_time_cd ?k_Wheel_choice_time ?a_Wheel_next_to_go ?i_Wheel_next_to_go_fn ?l_Wheel_next_to_go ?c_Wheel_next_to_go_cd ?k_Wheel_next_to_go ?a_Wheel_make_choice ?i_Wheel_make_choice_fn ?l_Wheel_make_choice ?c_Wheel_make_choice_cd ?k_Wheel_make_choice ?a_Wheel_run_up_to ?i_Wheel_run_up_to_fn ?l_Wheel_run_up_to ?c_Wheel_run_up_to_cd ?k_Wheel_run_up_to ?a_Wheel_run_out ?i_Wheel_run_out_fn ?l_Wheel_run_out ?c_Wheel_run_out_cd ?k_Wheel_run_out
    (case a1=>k_is)
    (case l1=>k_is)
    (case c1=>k_is)
    (case k1=>k_is)
    (case a2=>k_is)
    (case l2=>k_is)
    (case c2=>k_is)
    (case k2=>k_is)
    (case a3=>k_is)
    (case l3=>k_is)
    (case c3=>k_is)
    (case k3=>k_is)
    (case a4=>k_is)
    (case l4=>k_is)
    (case c4=>k_is)
    (case k4=>k_is)
    (case a5=>k_is)
    (case l5=>k_is)
    (case c5=>k_is)
    (case k5=>k_is)
    (case a6=>k_is)
    (case l6=>k_is)
    (case c6=>k_is)
    (case k6=>k_is)
    (case a7=>k_is)
    (case l7=>k_is)
    (case c7=>k_is)
    (case k7=>k_is)
    (case a8=>k_is)
    (case l8=>k_is)
    (case c8=>k_is)
    (case k8=>k_is)
    (case a9=>k_is)
    (case l9=>k_is)
    (case c9=>k_is)
    (case k9=>k_is)
    (case a10=>k_is)
    (case l10=>k_is)
    (case c10=>k_is)
    (case k10=>k_is)
    (case a11=>k_is)
    (case l11=>k_is)
    (case c11=>k_is)
    (case k11=>k_is)
    (case a12=>k_is)
    (case l12=>k_is)
    (case c12=>k_is)
    (case k12=>k_is)
    (case a13=>k_is)
    (case l13=>k_is)
    (case c13=>k_is)
    (case k13=>k_is)
    (case a14=>k_is)
    (case l14=>k_is)
    (case c14=>k_is)
    (case k14=>k_is)
    (case dk_dealt=>k_is)
    (case a15=>k_is)
    (case l15=>k_is)
    (case c15=>k_is)
    (case k15=>k_is)
    (case a16=>k_is)
    (case l16=>k_is)
    (case c16=>k_is)
    (case k16=>k_is)
    (case a17=>k_is)
    (case l17=>k_is)
    (case c17=>k_is)
    (case k17=>k_is)
    (case a18=>k_is)
    (case l18=>k_is)
    (case c18=>k_is)
    (case k18=>k_is)
    (case a19=>k_is)
    (case l19=>k_is)
    (case c19=>k_is)
    (case k19=>k_is)
    (case a20=>k_is)
    (case l20=>k_is)
    (case c20=>k_is)
    (case k20=>k_is)
    (case a21=>k_is)
    (case l21=>k_is)
    (case c21=>k_is)
    (case k21=>k_is)
    (case a22=>k_is)
    (case l22=>k_is)
    (case c22=>k_is)
    (case k22=>k_is)
    (case a23=>k_is)
    (case l23=>k_is)
    (case c23=>k_is)
    (case k23=>k_is)
    (case a24=>k_is)
    (case l24=>k_is)
    (case c24=>k_is)
    (case k24=>k_is)
    (case a25=>k_is)
    (case l25=>k_is)
    (case c25=>k_is)
    (case k25=>k_is)
    (case a26=>k_is)
    (case l26=>k_is)
    (case c26=>k_is)
    (case k26=>k_is)
    (case z1=>k_is)
    (case z2=>k_is)
    (case z3=>k_is)
    (case z4=>k_is)
    (case z5=>k_is)
    (case z6=>k_is)
    (case z7=>k_is)
    (case z8=>k_is)
    (case b_Tide=>k_is)
    (case pg_Tide=>k_is)
    (case hd_Tide=>k_is)
    (case po_Tide=>k_is)
    (case sa_Tide=>k_is)
    (case mk_Tide=>k_is)
    (case kc_Tide=>k_is)
    (case na_Tide_latest=>k_is)
    (case na_Tide_reached=>k_is)
    (case na_Tide_unflowed=>k_is)
    (case na_Tide_last_ends=>k_is)
    (case a_Tide_init=>k_is)
    (case i_Tide_init_fn=>k_is)
    (case l_Tide_init=>k_is)
    (case c_Tide_init_cd=>k_is)
    (case k_Tide_init=>k_is)
    (case a_Tide_mark=>k_is)
    (case i_Tide_mark_fn=>k_is)
    (case l_Tide_mark=>k_is)
    (case c_Tide_mark_cd=>k_is)
    (case k_Tide_mark=>k_is)
    (case a_Tide_come=>k_is)
    (case i_Tide_come_fn=>k_is)
    (case l_Tide_come=>k_is)
    (case c_Tide_come_cd=>k_is)
    (case k_Tide_come=>k_is)
    (case b_Wheel=>k_is)
    (case pg_Wheel=>k_is)
    (case hd_Wheel=>k_is)
    (case po_Wheel=>k_is)
    (case sa_Wheel=>k_is)
    (case mk_Wheel=>k_is)
    (case kc_Wheel=>k_is)
    (case na_Wheel_tide=>k_is)
    (case na_Wheel_free=>k_is)
    (case na_Wheel_queue=>k_is)
    (case na_Wheel_gone=>k_is)
    (case a_Wheel_init=>k_is)
    (case i_Wheel_init_fn=>k_is)
    (case l_Wheel_init=>k_is)
    (case c_Wheel_init_cd=>k_is)
    (case k_Wheel_init=>k_is)
    (case a_Wheel_piled_up=>k_is)
    (case i_Wheel_piled_up_fn=>k_is)
    (case l_Wheel_piled_up=>k_is)
    (case c_Wheel_piled_up_cd=>k_is)
    (case k_Wheel_piled_up=>k_is)
    (case a_Wheel_take_in=>k_is)
    (case i_Wheel_take_in_fn=>k_is)
    (case l_Wheel_take_in=>k_is)
    (case c_Wheel_take_in_cd=>k_is)
    (case k_Wheel_take_in=>k_is)
    (case a_Wheel_choice_time=>k_is)
    (case i_Wheel_choice_time_fn=>k_is)
    (case l_Wheel_choice_time=>k_is)
    (case c_Wheel_choice_time_cd=>k_is)
    (case k_Wheel_choice_time=>k_is)
    (case a_Wheel_next_to_go=>k_is)
    (case i_Wheel_next_to_go_fn=>k_is)
    (case l_Wheel_next_to_go=>k_is)
    (case c_Wheel_next_to_go_cd=>k_is)
    (case k_Wheel_next_to_go=>k_is)
    (case a_Wheel_make_choice=>k_is)
    (case i_Wheel_make_choice_fn=>k_is)
    (case l_Wheel_make_choice=>k_is)
    (case c_Wheel_make_choice_cd=>k_is)
    (case k_Wheel_make_choice=>k_is)
    (case a_Wheel_run_up_to=>k_is)
    (case i_Wheel_run_up_to_fn=>k_is)
    (case l_Wheel_run_up_to=>k_is)
    (case c_Wheel_run_up_to_cd=>k_is)
    (case k_Wheel_run_up_to=>k_is)
    (case a_Wheel_run_out=>k_is)
    (case i_Wheel_run_out_fn=>k_is)
    (case l_Wheel_run_out=>k_is)
    (case c_Wheel_run_out_cd=>k_is)
    (case k_Wheel_run_out=>k_is)
