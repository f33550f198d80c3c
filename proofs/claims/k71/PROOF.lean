import PyProof.Rows.All
import Wide.All
import OpenK.AllK
import Wide.FinOn
import Lean
import PyProof.EqAt
import PyProof.EqKinds
import PyProof.TupleCall
import PySem.Challenge.RW_sharewheel_k71_floors
set_option Elab.async false
set_option linter.all false
set_option maxRecDepth 100000
open PySem.W renaming Frag→aa, findIn→aR, keepIn→br, fnOf→bK, codeIn→dM, excIn→dN, kia_one→eE, emptyDict→eI, mg_of→fE, instObj→gc, isFn→ic, callWith_K→iL, hasDictIn→je, kitOne→jf, specialIn→jg, makesIn→jZ, mroIn→lX, plainGet→mF, nsIn→mU, methodCall_KW→nE, lookIn→oJ, plainGet_of→pO, tail_of_in→qA, methodObj→rX, OpenLaw→uB, takerIn→uC, takesIn→uD, tailIn→vP, subIn→xN, cellsFrom_some→yW, hideAll_none→AB, callWith_K0→Bm, hideAll_get→Bo, of_hideAll→Cz, kitx_dict→Dk, kitx_list→Dl, plainOver→Dm, handedIn→DN, findCls→E6, hideAll→E7, readsIn→E8, WalkO→G7
open List renaming length_map→ae, mem_cons_of_mem→ai, mem_cons_self→aj, mem_cons→ao, map_cons→au, mem_map→av, mem_append→ay, map_append→aA, mem_singleton→aC, getElem?_eq_some_iff→aD, mem_append_right→aI, getElem?_map→aK, map_congr_left→aO, getElem?_eq_getElem→aU, mem_of_getElem?→aV, size_toArray→aX, nodup_cons→aY, not_mem_nil→bf, map_map→bg, length_cons→bj, append_nil→bw, take_length→bC, length_append→bF, find?_cons→bH, length_nil→bU, length_take→bV, nodup_append→cY, mem_filter→dw, mem_flatMap→dH, length_reverse→dI, getD_eq_getElem?_getD→dR, sum_cons→dU, length_filter_le→eN, mem_filterMap→eU, mem_append_left→eZ, filter_append→fR, getElem?_append_right→fS, getElem?_eq_none→fT, mem_iff_getElem?→fU, cons_append→gw, filter_cons→gx, length→gG, getElem?_append_left→iw, mem_of_find?_eq_some→iy, append_of_mem→i8, lookup→jd, flatMap_cons→ju, map_nil→jv, mem_range→jw, replicate→jx, take_of_length_le→jy, all_eq_true→jQ, length_tail→jR, mem_reverse→jS, eq_nil_of_length_eq_zero→j8, map_id→j9, filterMap_cons→kR, flatMap_append→kT, getElem?_take→lQ, range→lR, any_cons→mR, getElem?_cons_succ→m9, getElem?_cons_zero→nh, getElem_mem→nv, length_pos_of_mem→oh, find?_some→oz, nil_append→oA, mem_of_mem_take→p9, find?_eq_none→sO, set_cons_succ→sP, set_cons_zero→sQ, take_add_one→uc, length_drop→vz, of_mem_zip→wC, filterMap→yz, getElem?_replicate→Av, length_eq_zero_iff→Aw, any_map→Bh, filter_eq_nil_iff→Bj, getElem?_set_self→Bl, filterMap_append→Cv, perm_append_comm→Cw, getElem?_set_ne→Dj, map_eq_nil_iff→DJ, contains_cons→E3, any_eq_false→FO, append_assoc→FP, find?_append→FQ, getElem?_inj→FT, reverse_cons→FU, any_eq_true→G4, flatMap_nil→G5, getElem_inj→G6, filter_nil→ID, sum_append→IE
open Option.some renaming inj→ak, injEq→Ah
open Nat renaming le_refl→aq, lt_of_lt_of_le→aQ, ne_of_lt→bq, le_trans→bO, zero_le→bW, lt_irrefl→fN, lt_succ_of_lt→gk, le_succ→iq, eq_zero_or_pos→lW, le_of_lt→oF, ne_of_gt→oG, pow_le_pow_right→qz, lt_succ_self→vM, two_pow_pos→xJ, Coprime→DK, lt_of_le_of_lt→FY, reduceLeDiff→IG, succ_ne_self→II, min_eq_left→Kd
open Sum renaming inr→az, inl→uG
open Rat renaming intCast_mul→aG, intCast_le_intCast→bX, intCast_add→gg, max_def→gI, div_def→jh, intCast_lt_intCast→jB, mul_le_mul_of_nonneg_right→j0, le_refl→ku, min_def→kA, mul_le_mul_of_nonneg_left→kB, le_trans→lG, mul_inv_cancel→lY, mul_nonneg→lZ, div_lt_iff→qB, intCast_nonneg→tL, le_of_lt→uE, intCast_inj→xO, intCast_sub→xP, add_nonneg→yX, num_nonneg→yY, le_ceil→DP, le_iff_lt_or_eq→E9, not_lt→FZ
open Int renaming emod_lt_of_pos→aS, emod_nonneg→aZ, mul_le_mul→dS, mul_le_mul_of_nonneg_right→eV, le_refl→gi, mul_nonneg→gB, le_of_lt→iu, ediv_mul_cancel→k6, lt_or_le→ou, mul_ne_zero→pq, natAbs_dvd_natAbs→pK, toNat_of_nonneg→rQ, mul_nonneg_of_nonpos_of_nonpos→tw, natAbs_natCast→tD, mul_comm→uw, neg_dvd→wB, ediv_eq_of_eq_mul_right→yy, fdiv_eq_ediv_of_dvd→Bg, ediv_neg→Cu, mul_ediv_cancel'→DG, lt_of_lt_of_le→FF, natAbs→FG, dvd_mul_right→G3, dvd_antisymm→Iz, reduceToNat→Ka
open Bool renaming false_ne_true→aW, eq_iff_iff→fk, and_eq_true→fM, false_eq_true→fQ, not_eq_true'→ua, true_eq_false→E2, false_and→J7, not_false→J8
open True renaming intro→bh
open False renaming elim→bE
open PySem renaming Spec→bJ, mem_of_lookup→fD, evalArgs_none→iC, Str→uA, Within→AD, call→DO
open PySem.F renaming plainAttrs_list→b6, slot_list_append→eR, type_list_append→eS, slot_dict_values→iB, plainAttrs_dict→iO, slot_dict_items→iP, args_dict_values_1→vN, excBase_ValueError→vO, args_dict_items_1→wD, entry_dict_values→wE, entry_dict_items→xK, type_dict_values→xM, type_dict_items→yD
open Ne renaming symm→d8
open Sum.inr renaming inj→fF
open PySem.SeqAt renaming shaped→ir, canLay_of_shaped→rW
open Option renaming isSome_iff_exists→iG, map_some→iK, map→jH, toList_none→rF, isSome_map→sR, getD_none→E5
open Array renaming length_toList→kP, getElem?_eq_some_iff→ly, getElem?_toList→oq, mem_toList_iff→Cq, append_assoc→DF
open ForInStep renaming yield→mQ
open PyProof.Rows renaming callWith_builtin1→qo, callWith_type1→rV
open List.Perm renaming trans→Dh
open List.cons renaming injEq→Di
open Eq renaming symm→Iu
namespace L2
open PySem PySem.Spec PyProof.Rows
abbrev Key:=Sum Int Str
def wN:Key->Value->Bool
 | .inl k,v=>Value.isInt k v
 | .inr x,v=>Value.isStrOf x v
def Ra(w:World):Key->Int
 | .inl k=>hashInt k
 | .inr x=>hashStr w x
theorem Ft:∀{k:Key}{v:Value},wN k v=true->(∃i t,k=uG i/\v=Value.int i t)\/(∃x t,k=az x/\v=Value.str x t)
 | .inl i,v,h=>by obtain⟨t,e⟩:=Value.isInt_shape (k:=i) (v:=v) h;exact .inl ⟨i,t,rfl,e⟩
 | .inr x,v,h=>by obtain⟨t,e⟩:=Value.isStrOf_shape (x:=x) (v:=v) h;exact .inr ⟨x,t,rfl,e⟩
theorem zuq(i:Int)(t:Tok):wN (.inl i) (.int i t)=true:=by simp[wN,Value.isInt]
theorem zur(x:Str)(t:Tok):wN (.inr x) (.str x t)=true:=by simp[wN,Value.isStrOf]
theorem Tc(a b:Int):decide ((uG a:Key)=uG b)=(a ==b):=by
 by_cases e:a=b
 ·subst e;simp
 ·have h:¬(uG a:Key)=uG b:=fun q=>e (Sum.inl.inj q);rw[decide_eq_false h];exact(beq_eq_false_iff_ne.mpr e).symm
theorem Td(a b:Str):decide ((az a:Key)=az b)=decide (a=b):=by
 by_cases e:a=b
 ·subst e;simp
 ·have h:¬(az a:Key)=az b:=fun q=>e (fF q);rw[decide_eq_false h,decide_eq_false e]
theorem Te(a:Int)(b:Str):decide ((uG a:Key)=az b)=false:=decide_eq_false (fun q=>nomatch q)
theorem Tf(a:Str)(b:Int):decide ((az a:Key)=uG b)=false:=decide_eq_false (fun q=>nomatch q)
def mw(prog:Program)(w:World):PySem.KeyKind prog w Key where
 is:=wN
 hash:=Ra w
 inj:=fun v a b ha hb=>by
  rcases Ft ha with⟨i,t,rfl,rfl⟩ |⟨x,t,rfl,rfl⟩
  ·rcases Ft hb with⟨j,u,rfl,e⟩ |⟨y,u,rfl,e⟩
   ·injection e with e1 _;rw[e1]
   ·exact nomatch e
  ·rcases Ft hb with⟨j,u,rfl,e⟩ |⟨y,u,rfl,e⟩
   ·exact nomatch e
   ·injection e with e1 _;rw[e1]
 byValue:=fun k v h=>by rcases Ft h with⟨i,t,rfl,rfl⟩ |⟨x,t,rfl,rfl⟩ <;> rfl
 pyHash:=fun hv h=>by
  rcases Ft hv with⟨i,t,rfl,rfl⟩ |⟨x,t,rfl,rfl⟩
  ·exact wpAny_pyHash_int h
  ·exact wpAny_pyHash_str h
 eqBool:=fun hu hv h=>by
  rcases Ft hu with⟨i,t,rfl,rfl⟩ |⟨x,t,rfl,rfl⟩
  ·rcases Ft hv with⟨j,u,rfl,rfl⟩ |⟨y,u,rfl,rfl⟩
   ·rw[Tc]at h;exact wpAny_eqBool_int h
   ·rw[Te]at h;exact SeqAt.EqAt.int_str i t y u _ _ _ _ h
  ·rcases Ft hv with⟨j,u,rfl,rfl⟩ |⟨y,u,rfl,rfl⟩
   ·rw[Tf]at h;exact SeqAt.EqAt.str_int x t j u _ _ _ _ h
   ·rw[Td]at h;exact wpAny_eqBool_str h
 «strs»:=fun k x t v h=>by
  rcases Ft h with⟨i,u,rfl,e⟩ |⟨y,u,rfl,e⟩
  ·exact nomatch e
  ·injection e with e1 _
   subst e1;cases v <;> rfl
theorem zqt(prog:Program)(w:World)(i:Int)(t:Tok):(mw prog w).is (.inl i) (.int i t)=true:=zuq i t
theorem zqu(prog:Program)(w:World)(x:Str)(t:Tok):(mw prog w).is (.inr x) (.str x t)=true:=zur x t
inductive V where
 |b7|bl (b:Bool) |int (i:Int) |str (x:Str) |Bs (b:Array UInt8) |CG (b:UInt64) |ref (a:Addr) |ty (n:String)
 deriving DecidableEq
def RelV:V->Value->Prop
 | .b7,u=>u=Value.none
 | .bl b,u=>u=Value.bool b
 | .int i,u=>∃t,u=Value.int i t
 | .str x,u=>∃t,u=Value.str x t
 | .Bs b,u=>∃t,u=Value.bytes b t
 | .CG b,u=>∃t,u=Value.float b t
 | .ref a,u=>u=Value.ref a
 | .ty n,u=>u=Value.type n
abbrev b8:List V->List Value->Prop:=Paired RelV
theorem b8.length{xs:List V}{us:List Value}(r:b8 xs us):xs.length=us.length:=Paired.length r
theorem b8.get:∀{xs:List V}{us:List Value}{i:Nat}{x:V},b8 xs us->xs[i]?=some x->∃u,us[i]?=some u/\RelV x u
 |_,_,_,_,.nil,e=>by simp at e
 |_,_,0,_,.cons r _,e=>by simp at e;subst e;exact⟨_,rfl,r⟩
 |_,_,i+1,x,.cons _ t,e=>by obtain⟨u,h1,h2⟩:=b8.get (i:=i) (x:=x) t (by simpa using e);exact⟨u,by simpa using h1,h2⟩
theorem b8.append:∀{xs ys:List V}{us ws:List Value},b8 xs us->b8 ys ws->b8 (xs++ys) (us++ws)
 |_,_,_,_,.nil,s=>s
 |_,_,_,_,.cons r t,s=>.cons r (b8.append t s)
theorem b8.take:∀{xs:List V}{us:List Value}(n:Nat),b8 xs us->b8 (xs.take n) (us.take n)
 |_,_,0,_=>.nil
 |_,_,_+1,.nil=>.nil
 |_,_,n+1,.cons r t=>.cons r (b8.take n t)
theorem b8.drop:∀{xs:List V}{us:List Value}(n:Nat),b8 xs us->b8 (xs.drop n) (us.drop n)
 |_,_,0,r=>r
 |_,_,_+1,.nil=>.nil
 |_,_,n+1,.cons _ t=>b8.drop n t
def oK:Option V->Option Value->Prop
 |some v,some u=>RelV v u
 |none,none=>True
 |_,_=>False
def KV{κ:Type}:List (κ×V)->List (κ×Value)->Prop:=Paired fun(p:κ×V)(q:κ×Value)=>p.1=q.1/\RelV p.2 q.2
def kV:Key->V
 | .inl i=>.int i
 | .inr x=>.str x
inductive HO where
 |lst (xs:List V)
 |tup (xs:List V)
 |dK (kvs:List (Key×V)) |dT (kvs:List (List Key×V))
 |set (S:Int->Bool) (n:Nat)
 |ins (C dx:Addr) (fs:List (Str×V))
 |own (x:Addr)
 |xd (fs:List (Str×V))
 |met (f x:Addr)
 |Ox (lo hi:Int)
 |jm (o:Obj) (u:HO)
 |Ie (ps:Array Value)
 |ext (φ:Heap->Prop)
abbrev Hp:=Addr->Option HO
def aH(H:Hp)(a:Addr)(o:HO):Hp:=fun b=>if b=a then some o else H b
theorem bR{H:Hp}{a:Addr}{o:HO}:aH H a o a=some o:=by unfold aH;rw[if_pos rfl]
theorem dj{H:Hp}{a b:Addr}{o:HO}(h:b≠a):aH H a o b=H b:=by unfold aH;rw[if_neg h]
theorem EZ{H:Hp}{a:Addr}{o u:HO}:aH (aH H a o) a u=aH H a u:=by funext b;unfold aH;split <;> rfl
theorem cj{H:Hp}{a b:Addr}{o u:HO}(h:H a=some o)(h':H b=some u)(d:o≠u):a≠b:=by intro e;subst e;rw[h]at h';exact d (ak h')
theorem kW{H:Hp}{a b:Addr}{o:HO}(h:H a=some o)(h':H b=none):a≠b:=by intro e;subst e;rw[h]at h';cases h'
section
variable(P:Program)(w:World)
def fJ(H:Hp)(h:Heap)(a:Addr):HO->Prop
  | .lst xs=>xs.length<=sizeLine/\∃(c7:List Value)(n:Nat),b8 xs c7/\h.get? a=some {cls:=.type "list",data:=.seq c7.toArray n}
  | .tup xs=>xs.length<=sizeLine/\∃c7:List Value,b8 xs c7/\IsTup h a c7.toArray
  | .dK kvs=>kvs.length<=sizeLine/\(a ==sysModules)=false/\∃vs,KV kvs vs/\h.DictOf (mw P w) a vs
  | .dT kvs=>kvs.length<=sizeLine/\(a ==sysModules)=false/\∃xs:List (List Key×Addr×Value),
      Paired (fun(p:List Key×V)(q:List Key×Addr×Value)=>p.1=q.1/\H q.2.1=some (.tup (p.1.map kV))/\RelV p.2 q.2.2) kvs xs/\
      ∃o es ep,h.get? a=some o/\o.ExactDict/\o.data= .dict es ep/\es.toList=xs.map (entryOfKey (tupleKind (mw P w)))/\(xs.map (·.1)).Nodup
  | .set S n=>h.SetOf (intKind P w) a S n
  | .ins C dx fs=>H dx=some (.own a)/\fs.length<=1000/\dx≠a/\h.get? a=some (gc C dx)/\
      ∃mA,h.Ns1 dx mA/\(∀f,oK (fs.lookup f) (mA f))/\AD mA (fs.map (·.1))
  | .own _=>∃o,h.get? a=some o
  | .xd fs=>∃mA,h.Ns1 a mA/\∀f,oK (fs.lookup f) (mA f)
  | .Ox lo hi=>∃t u v,h.get? a=some {cls:=.type "range",data:=.fields #[.int lo t,.int hi u,.int 1 v]}
  | .jm o u=>h.get? a=some o/\fJ H h a u
  | .Ie ps=>h.get? a=some {cls:=.none,data:=.fields ps}
  | .met f x=>h.get? a=some (rX (.ref f) (.ref x))
  | .ext φ=>φ h/\(∃o,h.get? a=some o)/\∀h1 h2:Heap,φ h1->(∀o,h1.get? a=some o->h2.get? a=some o)->φ h2
def lV(H:Hp)(h:Heap):Prop:=∀a o,H a=some o->fJ P w H h a o
end
section
variable{P:Program}{w:World}{H H':Hp}{h h':Heap}{a:Addr}{o:HO}
theorem fJ.lt(x:fJ P w H h a o):a<h.objs.size:=by
 cases o with
 |lst xs=>obtain⟨_,_,_,_,e⟩:=x;exact Heap.lt_size e
 |tup xs=>obtain⟨_,_,_,p⟩:=x;exact p.lt
 |dK kvs=>obtain⟨_,_,_,_,o,_,_,e,_⟩:=x;exact Heap.lt_size e
 |dT kvs=>obtain⟨_,_,_,_,o,_,_,e,_⟩:=x;exact Heap.lt_size e
 |set S n=>obtain⟨o,_,_,_,e,_⟩:=x;exact Heap.lt_size e
 |ins C dx fs=>obtain⟨_,_,_,e,_⟩:=x;exact Heap.lt_size e
 |own y=>obtain⟨_,e⟩:=x;exact Heap.lt_size e
 |xd fs=>obtain⟨_,⟨_,_,_,e,_⟩,_⟩:=x;exact Heap.lt_size e
 |Ox lo hi=>obtain⟨_,_,_,e⟩:=x;exact Heap.lt_size e
 |jm ob u=>obtain⟨e,_⟩:=x;exact Heap.lt_size e
 |Ie ps=>exact Heap.lt_size (show h.get? a=some _ from x)
 |met f y=>exact Heap.lt_size (show h.get? a=some _ from x)
 |ext φ=>obtain⟨_,⟨_,e⟩,_⟩:=x;exact Heap.lt_size e
theorem Paired.Gq{α β:Type}{F G:α->β->Prop}:∀{l₁:List α}{l₂:List β},Paired F l₁ l₂->(∀a b,F a b->G a b)->Paired G l₁ l₂
 |_,_,.nil,_=>.nil
 |_,_,.cons r t,f=>.cons (f _ _ r) (Paired.Gq t f)
theorem fJ.iM(x:fJ P w H h a o)(k:∀b u,(b=a\/H b=some (.own a))->h.get? b=some u->h'.get? b=some u)(ho:∀b,H b=some (.own a)->H' b=some (.own a))(ht:∀b xs,H b=some (.tup xs)->H' b=some (.tup xs)):fJ P w H' h' a o:=by
  induction o with
  |lst xs=>obtain⟨z,c7,n,r,e⟩:=x;exact⟨z,c7,n,r,k _ _ (.inl rfl) e⟩
  |tup xs=>obtain⟨z,c7,r,ob,e,c⟩:=x;exact⟨z,c7,r,ob,k _ _ (.inl rfl) e,c⟩
  |dK kvs=>obtain⟨z,y,vs,r,ob,es,ep,e,c⟩:=x;exact⟨z,y,vs,r,ob,es,ep,k _ _ (.inl rfl) e,c⟩
  |dT kvs=>
    obtain⟨z,y,xs,r,ob,es,ep,e,c⟩:=x;exact⟨z,y,xs,Paired.Gq r fun p q z=>⟨z.1,ht _ _ z.2.1,z.2.2⟩,ob,es,ep,k _ _ (.inl rfl) e,c⟩
  |set S n=>obtain⟨ob,es,ep,t,e,c⟩:=x;exact⟨ob,es,ep,t,k _ _ (.inl rfl) e,c⟩
  |ins C dx fs=>
    obtain⟨d,z,ne,e,mA,⟨od,es,ep,e2,c⟩,r⟩:=x;exact⟨ho _ d,z,ne,k _ _ (.inl rfl) e,mA,⟨od,es,ep,k _ _ (.inr d) e2,c⟩,r⟩
  |own y=>obtain⟨ob,e⟩:=x;exact⟨ob,k _ _ (.inl rfl) e⟩
  |xd fs=>obtain⟨mA,⟨od,es,ep,e,c⟩,r⟩:=x;exact⟨mA,⟨od,es,ep,k _ _ (.inl rfl) e,c⟩,r⟩
  |Ox lo hi=>obtain⟨t,u,v,e⟩:=x;exact⟨t,u,v,k _ _ (.inl rfl) e⟩
  |jm ob u ih=>obtain⟨e,q⟩:=x;exact⟨k _ _ (.inl rfl) e,ih q⟩
  |Ie ps=>
    have e:h.get? a=some {cls:=.none,data:=.fields ps}:=x;show h'.get? a=some {cls:=.none,data:=.fields ps};exact k a _ (.inl rfl) e
  |met f y=>
    have e:h.get? a=some (rX (.ref f) (.ref y)):=x;show h'.get? a=some (rX (.ref f) (.ref y));exact k a _ (.inl rfl) e
  |ext φ=>obtain⟨p,⟨o,e⟩,st⟩:=x;exact⟨st _ _ p fun o q=>k _ _ (.inl rfl) q,⟨o,k _ _ (.inl rfl) e⟩,st⟩
theorem lV.lt(x:lV P w H h)(e:H a=some o):a<h.objs.size:=(x a o e).lt
theorem lV.fresh(x:lV P w H h)(e:h.objs.size<=a):H a=none:=by
 cases q:H a with
 |none=>rfl
 |some u=>exact absurd (aQ (x.lt q) e) (fN _)
theorem lV.kept(x:lV P w H h)(k:∀b u,h.get? b=some u->h'.get? b=some u):lV P w H h':=fun a o e=>
 (x a o e).iM (fun b u _ q=>k b u q) (fun _ q=>q) fun _ _ q=>q
theorem lV.laid(x:lV P w H h)(k:∀b u,h.get? b=some u->h'.get? b=some u)(hp:h.objs.size<=a)(new:fJ P w (aH H a o) h' a o):lV P w (aH H a o) h':=fun b u e=>by
 have hn:=x.fresh hp;by_cases hb:b=a
 ·subst hb;rw[bR]at e;cases e;exact new
 ·rw[dj hb]at e;exact(x b u e).iM (fun c v _ q=>k c v q) (fun c q=>by rw[dj (kW q hn)];exact q) fun c xs q=>by rw[dj (kW q hn)];exact q
end
def Rd(H:Hp)(a:Addr)(u:HO):Prop:=H a=some u\/∃o,H a=some (.jm o u)
theorem Rd.ok{P:Program}{w:World}{H:Hp}{h:Heap}{a:Addr}{u:HO}(r:Rd H a u)(x:lV P w H h):fJ P w H h a u:=by
 rcases r with r|⟨o,r⟩
 ·exact x a u r
 ·obtain⟨_,q⟩:=x a _ r;exact q
def K5:Option HO->Prop
 |some (.lst _)=>True
 |some (.dK _)=>True
 |some (.dT _)=>True
 |some (.set _ _)=>True
 |some (.ins _ _ _)=>True
 |some (.ext _)=>True
 |_=>False
section
variable{P:Program}{w:World}{H:Hp}{h h':Heap}{x e:Addr}{o':HO}
theorem lV.write(ok:lV P w H h)(mu:K5 (H x))(he:e=x\/H e=some (.own x))(k:∀b u,b≠e->h.get? b=some u->h'.get? b=some u)(Kn:∃u,h'.get? e=some u)(new:fJ P w (aH H x o') h' x o'):lV P w (aH H x o') h':=fun b u q=>by
  have L8:∀c y,H c=some (.own y)->c≠x:=fun c y r z=>by subst z;rw[r]at mu;exact mu
  have Rq:∀c xs,H c=some (.tup xs)->c≠x:=fun c xs r z=>by subst z;rw[r]at mu;exact mu
  by_cases hb:b=x
  · subst hb;rw[bR]at q;cases q;exact new
  · rw[dj hb]at q;by_cases F8:b=e
    · have q':H b=some (.own x):=by
        rcases he with z|z
        · exact absurd (F8.trans z) hb
        · rw[F8];exact z
      rw[q]at q';cases q'
      obtain⟨v,hv⟩:=Kn;exact⟨v,by rw[F8];exact hv⟩
    · refine(ok b u q).iM (fun c v hc r=>k c v ?_ r) (fun c r=>by rw[dj (L8 c b r)];exact r) fun c xs r=>by rw[dj (Rq c xs r)];exact r
      rcases hc with rfl|hc
      · exact F8
      · rintro rfl;rcases he with z|z
        · exact L8 c b hc z
        · rw[hc]at z;cases z;exact hb rfl
end
structure Un(fs ex:List Addr)(H H':Hp)(h h':Heap):Prop where
 keep:∀b o,h.get? b=some o->H b=none->b∉fs->b∉ex->h'.get? b=some o
 slot:∀b o,h.get? b=some o->H b=none->b∈fs->b∉ex->∃sl,h'.get? b=some {o with slots:=sl}
 free:∀b o,h.get? b=some o->H b=none->b∉ex->H' b=none
 there:∀b o,h.get? b=some o->b∉ex->∃o',h'.get? b=some o'
 rA:∀b xs,H b=some (.tup xs)->H' b=some (.tup xs)
 mV:∀b o u,H b=some (.jm o u)->H' b=some (.jm o u)
 rj:∀b ps,H b=some (.Ie ps)->∃more,H' b=some (.Ie (ps++more))
section
variable{fs qp ex ex':List Addr}{H H1 H2:Hp}{h h1 h2 h':Heap}{a x e:Addr}{o:HO}
theorem Un.any(u:Un fs ex H H1 h h1){b:Addr}{ob:Obj}(q:h.get? b=some ob)(n:H b=none)(hx:b∉ex):∃sl,h1.get? b=some {ob with slots:=sl}:=by
 by_cases hb:b∈fs
 ·exact u.slot b ob q n hb hx
 ·exact⟨ob.slots,u.keep b ob q n hb hx⟩
theorem Un.kept(k:∀b u,h.get? b=some u->h'.get? b=some u):Un fs ex H H h h':=
 ⟨fun b ob q _ _ _=>k b ob q,fun b ob q _ _ _=>⟨ob.slots,k b ob q⟩,fun _ _ _ n _=>n,fun b ob q _=>⟨ob,k b ob q⟩,fun _ _ q=>q,fun _ _ _ q=>q,fun _ ps q=>⟨#[],by rw[q];simp⟩⟩
theorem Un.refl:Un fs ex H H h h:=Un.kept fun _ _ q=>q
theorem Un.laid(k:∀b u,h.get? b=some u->h'.get? b=some u)(hp:h.objs.size<=a)(hn:H a=none):Un fs ex H (aH H a o) h h' where
 keep:=fun b u q _ _ _=>k b u q
 slot:=fun b u q _ _ _=>⟨u.slots,k b u q⟩
 free:=fun b u q n _=>by rw[dj (bq (aQ (Heap.lt_size q) hp))];exact n
 there:=fun b u q _=>⟨u,k b u q⟩
 rA:=fun b xs q=>by rw[dj (kW q hn)];exact q
 mV:=fun b u xs q=>by rw[dj (kW q hn)];exact q
 rj:=fun b ps q=>⟨#[],by rw[dj (kW q hn),q];simp⟩
theorem Un.write(mu:K5 (H x))(he:e=x\/H e=some (.own x))(k:∀b u,b≠e->h.get? b=some u->h'.get? b=some u)(Kn:∃u,h'.get? e=some u):Un fs ex H (aH H x o) h h':=by
 have hx:∀b,H b=none->b≠x:=fun b n z=>by subst z;rw[n]at mu;exact mu
 have hb:∀b,H b=none->b≠e:=fun b n z=>by
  subst z;rcases he with r|r
  ·exact hx b n r
  ·rw[n]at r;cases r
 have hm:∀b u,H b=some u->¬K5 (some u)->b≠x:=fun b u q nm z=>by subst z;rw[q]at mu;exact nm mu
 refine⟨fun b u q n _ _=>k b u (hb b n) q,fun b u q n _ _=>⟨u.slots,k b u (hb b n) q⟩,fun b u q n _=>by rw[dj (hx b n)];exact n,fun b u q _=>?_,
  fun b xs q=>by rw[dj (hm b _ q fun z=>z)];exact q,fun b u xs q=>by rw[dj (hm b _ q fun z=>z)];exact q,fun b ps q=>⟨#[],by rw[dj (hm b _ q fun z=>z),q];simp⟩⟩;by_cases F8:b=e
 ·subst F8;exact Kn
 ·exact⟨u,k b u F8 q⟩
end
def OL(h:Heap)(H:Hp):List Addr:=(lR h.objs.size).filter fun a=>(H a).isSome
def xU(h:Heap)(H:Hp):Heap:=E7 h (OL h H)
theorem zus(h:Heap)(H:Hp):(xU h H).objs.size=h.objs.size:=PySem.W.hideAll_size _ _
theorem zxm{h:Heap}{H:Hp}{b:Addr}{o:Obj}(e:h.get? b=some o)(n:H b=none):(xU h H).get? b=some o:=
 Bo _ e fun hm=>by have q:(H b).isSome=true:=(dw.mp hm).2;rw[n]at q;simp at q
theorem zzx{h:Heap}{H:Hp}{b:Addr}{o:Obj}(e:(xU h H).get? b=some o):h.get? b=some o/\H b=none:=by
 have e':h.get? b=some o:=Cz (OL h H) e;refine⟨e',?_⟩;cases q:H b with
 |none=>rfl
 |some x=>
  have hm:b∈OL h H:=dw.mpr ⟨jw.mpr (Heap.lt_size e'),by simp[q]⟩;have z:(xU h H).get? b=none:=AB (OL h H) hm;rw[z]at e;cases e
def zzy(g h:Heap)(L:Addr):List (Addr×Obj):=(lR h.objs.size).filterMap fun a=>if a=L\/(g.get? a).isSome=true then none else(h.get? a).map fun o=>(a,o)
def rest(g h:Heap)(L d:Addr):List (Addr×Obj):=(zzy g h L).filter fun p=>decide (p.1≠d)
structure Mod(K:aa)(mg:Str->Option Value)(base:Heap):Prop where
 Gm:K.In base
 glob:base.Ns mainGlobals mg
 blt:∃mb,base.Ns builtinsNs mb/\∀x:Str,x≠ "__name__"->mb x=bootBuiltins x
 nolimit:base.NoLimit
structure Cx where
 prog:Program
 w:World
 K:aa
 mg:Str->Option Value
 base:Heap
 A:Around
 N:List Str
 s₀:Shared
 H₀:Hp
 env:Env
 outer:List Env
 stack:List Env
 ex:List Addr
 fn:Str->Bool
 calm:Bool
 pn:List (Addr×Obj)
 xe:Value->Shared->Prop
def ug(l:List Env):List Addr:=l.filterMap (·.frame)
abbrev Cx.fs(X:Cx):List Addr:=ug X.outer
def PV(sc:Scope)(x:Str):Prop:=sc.names.lookup x=some .local\/sc.names.lookup x=some .cell\/sc.names.lookup x=some .free
def Loc(sc:Scope)(x:Str):Prop:=sc.names.lookup x=some .local\/sc.names.lookup x=some .cell
def Look(env:Env)(h:Heap)(m:Str->Option Value)(x:Str)(u:Value):Prop:=
 (env.kindOf x=some .local/\m x=some u)\/((env.kindOf x=some .cell\/env.kindOf x=some .free)/\∃c,env.cells.lookup x=some c/\h.IsCell c (some u))
structure Cx.Ok(X:Cx):Prop where
 mod:Mod X.K X.mg X.base
 kind:X.env.scope.kind= .function
 glob:X.env.globals=mainGlobals
 blt:X.env.builtins=builtinsNs
 above:X.s₀.heap.objs.size<=X.env.locals
 inj:∀x y c,X.env.cells.lookup x=some c->X.env.cells.lookup y=some c->x=y
 has:∀x,(X.env.kindOf x=some .cell\/X.env.kindOf x=some .free)->∃c,X.env.cells.lookup x=some c
 Hl:∀x c,X.fn x=true->X.env.cells.lookup x=some c->X.s₀.heap.objs.size<=c
 hd:X.calm=true->X.A.handled=none
 frames:X.A.frames=some X.stack
 JO:X.stack=X.outer\/(X.stack=X.env::X.outer/\X.env.frame=some X.env.locals)
 F5:∀b∈X.ex,b≠X.env.locals/\∀x c,X.env.cells.lookup x=some c->c≠b
 bs:∀b o,X.base.get? b=some o->X.s₀.heap.get? b=some o/\X.H₀ b=none
 Dp:X.base.objs.size<=X.s₀.heap.objs.size
 zN:∀b o,X.base.get? b=some o->b∉X.ex
 xS:∀b∈X.ex,b∉X.fs
 mH:X.s₀.heap.FunFrames X.base X.outer
 Fc:∀b∈X.fs,X.H₀ b=none
structure Inv(X:Cx)(ah:List (Addr×Obj))(σ:List (Option V))(H:Hp)(s:Shared):Prop where
 ok:X.Ok
 os:s.os=X.s₀.os
 bare:AllBare s.gens
 base:Un X.fs X.ex X.H₀ H X.s₀.heap s.heap
 loc:∃m,s.heap.Ns X.env.locals m/\∀(i:Nat)(x:Str)(v:V),X.N[i]?=some x->σ[i]?=some (some v)->PV X.env.scope x->∃u,RelV v u/\Look X.env s.heap m x u
 cell:∀x c,X.env.cells.lookup x=some c->∃v,s.heap.IsCell c v
 free:H X.env.locals=none
 kD:∀x c,X.env.cells.lookup x=some c->H c=none
 pin:∀p∈X.pn++ah,s.heap.get? p.1=some p.2/\H p.1=none/\p.1≠X.env.locals/\p.1∉X.fs/\∀v,p.2.data≠.cell v
 eB:lV X.prog X.w H s.heap
 len:σ.length=X.N.length
section
variable{X:Cx}{ah:List (Addr×Obj)}{σ:List (Option V)}{H H':Hp}{s:Shared}{h':Heap}
theorem Cx.Ok.Rl(ok:X.Ok){b:Addr}{o:Obj}(e:X.base.get? b=some o):b∉X.fs:=fun hb=>by have:=(ok.mH.mem hb).1;rw[e]at this;cases this
theorem Inv.bs(I:Inv X ah σ H s):∀b o,X.base.get? b=some o->s.heap.get? b=some o/\H b=none:=fun b o e=>
 ⟨I.base.keep b o (I.ok.bs b o e).1 (I.ok.bs b o e).2 (I.ok.Rl e) (I.ok.zN b o e),I.base.free b o (I.ok.bs b o e).1 (I.ok.bs b o e).2 (I.ok.zN b o e)⟩
theorem Inv.bk(I:Inv X ah σ H s):∀b o,X.base.get? b=some o->s.heap.get? b=some o:=fun b o e=>(I.bs b o e).1
theorem Inv.mod(I:Inv X ah σ H s):Mod X.K X.mg X.base:=I.ok.mod
theorem Inv.oj(I:Inv X ah σ H s):X.K.In s.heap:=I.ok.mod.Gm.keeps I.bk
theorem Inv.lt(I:Inv X ah σ H s):X.env.locals<s.heap.objs.size:=let⟨_,hn,_⟩:=I.loc;hn.lt
theorem Inv.sz(I:Inv X ah σ H s):X.s₀.heap.objs.size<=s.heap.objs.size:=bO I.ok.above (oF I.lt)
theorem Inv.Rm(I:Inv X ah σ H s){a:Addr}(h:s.heap.objs.size<=a):a∉X.fs:=fun hb=>by obtain⟨_,o,ho,_⟩:=I.ok.mH.mem hb;exact absurd (aQ (Heap.lt_size ho) (bO I.sz h)) (fN _)
theorem Inv.IM(I:Inv X ah σ H s):∀x c,X.env.cells.lookup x=some c->c≠X.env.locals:=fun x c e z=>by obtain⟨v,o,ho,hd⟩:=I.cell x c e;obtain⟨m,⟨o',es,ep,Ai,Qv,_⟩,_⟩:=I.loc;rw[z,Ai]at ho;cases ho;rw[Qv]at hd;cases hd
theorem Inv.mH(I:Inv X ah σ H s):s.heap.FunFrames X.base X.outer:=by
 have all:∀(l:List Env),(∀b∈ug l,b∈X.fs)->X.s₀.heap.FunFrames X.base l->s.heap.FunFrames X.base l:=by
  intro l
  induction l with
  |nil=>intro _ _;trivial
  |cons env r ih=>
   intro hs hl;obtain⟨hk,⟨L,o,hf,hn,ho,hd⟩,hr⟩:=hl;have hL:L∈X.fs:=hs L (by unfold ug;rw[kR,hf];exact aj);obtain⟨sl,e⟩:=I.base.slot L o ho (I.ok.Fc L hL) hL fun z=>I.ok.xS L z hL;exact⟨hk,⟨L,_,hf,hn,e,hd⟩,ih (fun b hb=>hs b (by unfold ug;rw[kR,hf];exact ai _ hb)) hr⟩
 exact all X.outer (fun _ hb=>hb) I.ok.mH
theorem Inv.stack(I:Inv X ah σ H s):s.heap.FunFrames X.base X.stack:=by
 rcases I.ok.JO with e|⟨e,hf⟩
 ·rw[e];exact I.mH
 ·rw[e];obtain⟨m,hn,_⟩:=I.loc;refine .cons (by rw[I.ok.kind];decide) hf hn ?_ I.mH;exact Heap.get?_none_of_le (bO I.ok.Dp I.ok.above)
theorem Inv.sF(I:Inv X ah σ H s):∀b∈ug X.stack,b∈X.env.locals::X.fs:=fun b hb=>by
 rcases I.ok.JO with e|⟨e,hf⟩
 ·rw[e]at hb;exact ai _ hb
 ·rw[e]at hb;unfold ug at hb;rw[kR,hf]at hb;exact hb
theorem Inv.yi(I:Inv X ah σ H s):∀b∈ug X.stack,H b=none:=fun b hb=>by
 rcases ao.mp (I.sF b hb)with e|hb
 ·rw[e];exact I.free
 ·obtain⟨_,o,ho,_⟩:=I.ok.mH.mem hb;exact I.base.free b o ho (I.ok.Fc b hb) fun z=>I.ok.xS b z hb
theorem Inv.step{g':Array GenState}{t':Nat}{d':Drawn}{ch:List Addr}(I:Inv X ah σ H s)(CI:∀b∈ch,(b∈X.ex\/X.s₀.heap.objs.size<=b)/\b≠X.env.locals/\(∀x c,X.env.cells.lookup x=some c->c≠b)/\∀p∈X.pn++ah,p.1≠b)(keep:∀b o,b≠X.env.locals->b∉X.fs->b∉ch->s.heap.get? b=some o->H b=none->h'.get? b=some o)(slot:∀b o,b≠X.env.locals->b∈X.fs->b∉ch->s.heap.get? b=some o->H b=none->∃sl,h'.get? b=some {o with slots:=sl})(free:∀b o,b∉ch->s.heap.get? b=some o->H b=none->H' b=none)(there:∀b o,b∉ch->s.heap.get? b=some o->∃o',h'.get? b=some o')(rA:∀b xs,H b=some (.tup xs)->H' b=some (.tup xs))(mV:∀b o u,H b=some (.jm o u)->H' b=some (.jm o u))(rj:∀b ps,H b=some (.Ie ps)->∃more,H' b=some (.Ie (ps++more)))(ns:∀m,s.heap.Ns X.env.locals m->h'.Ns X.env.locals m)(eB:lV X.prog X.w H' h')(hg:AllBare g'):
    Inv X ah σ H' {s with heap:=h',gens:=g',drawn:=d',toks:=t'}:=by
  have V8:∀b o,X.s₀.heap.get? b=some o->b≠X.env.locals:=fun b o e=>bq (aQ (Heap.lt_size e) I.ok.above);have Du:∀b o,X.s₀.heap.get? b=some o->b∉X.ex->b∉ch:=fun b o e hx hb=>by
    rcases(CI b hb).1 with z|z
    · exact hx z
    · exact absurd (aQ (Heap.lt_size e) z) (fN _)
  have ze:∀x c,X.env.cells.lookup x=some c->∀v,s.heap.IsCell c v->h'.IsCell c v:=fun x c e v⟨o,ho,hd⟩=>by
    have LX:c∉ch:=fun z=>(CI c z).2.2.1 x c e rfl;by_cases hc:c∈X.fs
    · obtain⟨sl,q⟩:=slot c o (I.IM x c e) hc LX ho (I.kD x c e);exact⟨_,q,hd⟩
    · exact⟨o,keep c o (I.IM x c e) hc LX ho (I.kD x c e),hd⟩
  refine⟨I.ok,I.os,hg,⟨fun b o e n hb hx=>?_,fun b o e n hb hx=>?_,fun b o e n hx=>?_,fun b o e hx=>?_,fun b xs e=>rA b xs (I.base.rA b xs e),fun b o xs e=>mV b o xs (I.base.mV b o xs e),fun b ps e=>?_⟩,?_,fun x c e=>?_,?_,fun x c e=>?_,fun p hp=>?_,eB,I.len⟩
  · exact keep b o (V8 b o e) hb (Du b o e hx) (I.base.keep b o e n hb hx) (I.base.free b o e n hx)
  · obtain⟨sl,e1⟩:=I.base.slot b o e n hb hx;obtain⟨sl',e2⟩:=slot b _ (V8 b o e) hb (Du b o e hx) e1 (I.base.free b o e n hx);exact⟨sl',e2⟩
  · obtain⟨o',e1⟩:=I.base.there b o e hx;exact free b o' (Du b o e hx) e1 (I.base.free b o e n hx)
  · obtain⟨o',e1⟩:=I.base.there b o e hx;exact there b o' (Du b o e hx) e1
  · obtain⟨m1,e1⟩:=I.base.rj b ps e;obtain⟨m2,e2⟩:=rj b _ e1;exact⟨m1++m2,by rw[e2,DF]⟩
  · obtain⟨m,hn,hl⟩:=I.loc;refine⟨m,ns m hn,fun i x v e1 e2 e3=>?_⟩;obtain⟨u,r,l⟩:=hl i x v e1 e2 e3;refine⟨u,r,?_⟩;rcases l with l|⟨k,c,e,z⟩
    · exact .inl l
    · exact .inr ⟨k,c,e,ze x c e _ z⟩
  · obtain⟨v,z⟩:=I.cell x c e;exact⟨v,ze x c e v z⟩
  · obtain⟨m,⟨o,_,_,ho,_⟩,_⟩:=I.loc;exact free _ o (fun z=>(CI _ z).2.1 rfl) ho I.free
  · obtain⟨v,o,ho,hd⟩:=I.cell x c e;exact free c o (fun z=>(CI c z).2.2.1 x c e rfl) ho (I.kD x c e)
  · obtain⟨e,n,ne,nf,d⟩:=I.pin p hp;have LX:p.1∉ch:=fun z=>(CI p.1 z).2.2.2 p hp rfl;exact⟨keep p.1 p.2 ne nf LX e n,free p.1 p.2 LX e n,ne,nf,d⟩
theorem Inv.un{t':Nat}(I:Inv X ah σ H s)(u:Un X.fs [] H H' s.heap h')(eB:lV X.prog X.w H' h'):Inv X ah σ H' {s with heap:=h',toks:=t'}:=by
 obtain⟨m,⟨o,es,ep,ho,r⟩,_⟩:=id I.loc;obtain⟨sl,hL⟩:=u.any ho I.free (by simp);exact I.step (g':=s.gens) (d':=s.drawn) (ch:=[]) (fun _ z=>nomatch z) (fun b o _ hb _ e n=>u.keep b o e n hb (by simp)) (fun b o _ hb _ e n=>u.slot b o e n hb (by simp)) (fun b o _ e n=>u.free b o e n (by simp)) (fun b o _ e=>u.there b o e (by simp)) u.rA u.mV u.rj (fun m' hm=>by
  obtain⟨o',Qa,P9,Ai,r'⟩:=hm;rw[ho]at Ai;cases Ai
  exact⟨_,Qa,P9,hL,r'⟩) eB I.bare
theorem Inv.call{g':Array GenState}{t':Nat}{d':Drawn}{ch:List Addr}(I:Inv X ah σ H s)(u:Un (ug X.stack) ch H H' s.heap h')(eB:lV X.prog X.w H' h')(hg:AllBare g')(CI:∀b∈ch,(b∈X.ex\/X.s₀.heap.objs.size<=b)/\b≠X.env.locals/\(∀x c,X.env.cells.lookup x=some c->c≠b)/\∀p∈X.pn++ah,p.1≠b):
    Inv X ah σ H' {s with heap:=h',gens:=g',drawn:=d',toks:=t'}:=by
  obtain⟨m,⟨o,es,ep,ho,r⟩,_⟩:=id I.loc;obtain⟨sl,hL⟩:=u.any ho I.free fun z=>(CI _ z).2.1 rfl;exact I.step (ch:=ch) CI (fun b o hL hb hc e n=>u.keep b o e n (fun z=>(ao.mp (I.sF b z)).elim hL hb) hc) (fun b o _ _ hc e n=>u.any e n hc) (fun b o hc e n=>u.free b o e n hc) (fun b o hc e=>u.there b o e hc) u.rA u.mV u.rj (fun m' hm=>by
    obtain⟨o',Qa,P9,Ai,r'⟩:=hm;rw[ho]at Ai;cases Ai
    exact⟨_,Qa,P9,hL,r'⟩) eB hg
theorem Inv.turned{t':Nat}{it:Addr}(I:Inv X ah σ H s)(k:∀b o,b≠it->s.heap.get? b=some o->h'.get? b=some o)(hn:H it=none)(hL:it≠X.env.locals)(h1:it∈X.ex\/X.s₀.heap.objs.size<=it)(h2:∀x c,X.env.cells.lookup x=some c->c≠it)(h3:∀p∈X.pn++ah,p.1≠it):Inv X ah σ H {s with heap:=h',toks:=t'}:=by
  have LZ:∀b u,H b=some u->b≠it:=fun b u e z=>by rw[z,hn]at e;cases e
  refine I.step (g':=s.gens) (d':=s.drawn) (ch:=[it]) (fun b hb=>?_) (fun b o _ _ hc e _=>k b o (fun z=>hc (by simp[z])) e) (fun b o _ _ hc e _=>⟨o.slots,k b o (fun z=>hc (by simp[z])) e⟩) (fun _ _ _ _ n=>n)
    (fun b o hc e=>⟨o,k b o (fun z=>hc (by simp[z])) e⟩) (fun _ _ e=>e) (fun _ _ _ e=>e) (fun b ps e=>⟨#[],by rw[e];simp⟩) (fun m hm=>?_) (fun b u e=>?_) I.bare
  · have e:b=it:=by simpa using hb
    subst e;exact⟨h1,hL,h2,h3⟩
  · obtain⟨o,es,ep,ho,r⟩:=hm;exact⟨o,es,ep,k _ o (d8 hL) ho,r⟩
  · refine(I.eB b u e).iM (fun c v hc q=>k c v ?_ q) (fun _ q=>q) fun _ _ q=>q;rcases hc with z|z
    · rw[z];exact LZ b u e
    · exact LZ c _ z
theorem Inv.tok(I:Inv X ah σ H s)(t:Nat):Inv X ah σ H {s with toks:=t}:=I.un (h':=s.heap) (t':=t) Un.refl I.eB
theorem Inv.kept{t':Nat}(I:Inv X ah σ H s)(k:∀b u,s.heap.get? b=some u->h'.get? b=some u):Inv X ah σ H {s with heap:=h',toks:=t'}:=I.un (Un.kept k) (I.eB.kept k)
theorem Inv.laid{a:Addr}{o:HO}{t':Nat}(I:Inv X ah σ H s)(k:∀b u,s.heap.get? b=some u->h'.get? b=some u)(hp:s.heap.objs.size<=a)(new:fJ X.prog X.w (aH H a o) h' a o):
    Inv X ah σ (aH H a o) {s with heap:=h',toks:=t'}:=I.un (Un.laid k hp (I.eB.fresh hp)) (I.eB.laid k hp new)
theorem Inv.write{x e:Addr}{o:HO}{t':Nat}(I:Inv X ah σ H s)(mu:K5 (H x))(he:e=x\/H e=some (.own x))(k:∀b u,b≠e->s.heap.get? b=some u->h'.get? b=some u)(Kn:∃u,h'.get? e=some u)(new:fJ X.prog X.w (aH H x o) h' x o):Inv X ah σ (aH H x o) {s with heap:=h',toks:=t'}:=I.un (Un.write mu he k Kn) (I.eB.write mu he k Kn new)
theorem Inv.BQ{BP:List (Addr×Obj)}(I:Inv X ah σ H s)(h:∀p∈BP,s.heap.get? p.1=some p.2/\H p.1=none/\p.1≠X.env.locals/\p.1∉X.fs/\∀v,p.2.data≠.cell v):Inv X BP σ H s:=
 ⟨I.ok,I.os,I.bare,I.base,I.loc,I.cell,I.free,I.kD,fun p hp=>(ay.mp hp).elim (fun z=>I.pin p (eZ _ z)) (h p),I.eB,I.len⟩
theorem Y9{N:List Str}(hN:N.Nodup){i j:Nat}{x:Str}(a:N[i]?=some x)(b:N[j]?=some x):i=j:=by obtain⟨h1,e1⟩:=aD.mp a;obtain⟨h2,e2⟩:=aD.mp b;exact(G6 hN).mp (e1.trans e2.symm)
theorem Yu {M:Model} {A:Around} {E:Value->Shared->Prop} {i:Nat} {x:Str} {v:V} {u:Value} {Q:Unit->Shared->Prop} (I:Inv X ah σ H s) (hN:X.N.Nodup) (hi:X.N[i]? = some x) (hx:Loc X.env.scope x) (r:RelV v u)
    (h:∀ s',Inv X ah (σ.set i (some v)) H s'->(∃ a,Heap.SameBut a s.heap s'.heap/\(a=X.env.locals\/X.env.cells.lookup x=some a))->Q () s') (hf:X.fn x=true\/X.env.scope.names.lookup x=some .local:=by first | exact .inl rfl | exact .inr rfl | assumption):wpAny M A (storeName X.env x u) Q E s:=by
  obtain ⟨m,hn,hl⟩:=id I.loc
  have Qu:(X.env.scope.kind == .class || (X.env.scope.kind == .module && X.env.locals != X.env.globals))=false:=by rw [I.ok.kind]; rfl
  have VD:i < σ.length:=by rw [I.len]; exact (aD.mp hi).1
  have IM:=I.IM
  have Cn:∀ {a:Addr} {h':Heap},(∃ o,s.heap.get? a=some o/\H a=none)->Heap.SameBut a s.heap h'->lV X.prog X.w H h':=fun {a h'} ha hs b ob e=>by
    obtain ⟨_,_,Hs⟩:=ha
    refine (I.eB b ob e).iM (fun c w' hc q=>(hs.2 c ?_).trans q) (fun _ q=>q) fun _ _ q=>q
    rintro rfl
    rcases hc with rfl | hc
    · rw [Hs] at e; cases e
    · rw [Hs] at hc; cases hc
  rcases hx with hk | hk
  · refine wpAny_storeName_local hk hn (fun h' N9 hs=>?_) Qu
    obtain ⟨oL,_,_,hoL,_⟩:=id hn
    refine h _ ⟨I.ok,I.os,I.bare,⟨fun b o e n hb hx=>?_,fun b o e n hb hx=>?_,I.base.free,fun b o e hx=>?_,I.base.rA,I.base.mV,I.base.rj⟩,⟨_,N9,fun j y v' e1 e2 e3=>?_⟩,fun y c e=>?_,I.free,I.kD,fun p hp=>?_,Cn ⟨oL,hoL,I.free⟩ hs,by simpa using I.len⟩ ⟨_,hs,.inl rfl⟩
    · exact (hs.2 b (bq (aQ (Heap.lt_size e) I.ok.above))).trans (I.base.keep b o e n hb hx)
    · obtain ⟨sl,e1⟩:=I.base.slot b o e n hb hx
      exact ⟨sl,(hs.2 b (bq (aQ (Heap.lt_size e) I.ok.above))).trans e1⟩
    · obtain ⟨o',e1⟩:=I.base.there b o e hx
      exact ⟨o',(hs.2 b (bq (aQ (Heap.lt_size e) I.ok.above))).trans e1⟩
    · by_cases hj:j=i
      · subst hj
        rw [hi] at e1; cases e1
        rw [Bl VD] at e2
        cases e2
        exact ⟨u,r,.inl ⟨hk,by simp⟩⟩
      · rw [Dj (d8 hj)] at e2
        obtain ⟨u',r',q⟩:=hl j y v' e1 e2 e3
        refine ⟨u',r',?_⟩
        rcases q with ⟨k,e⟩ | ⟨k,c,e,z⟩
        · refine .inl ⟨k,?_⟩
          have:y≠x:=fun e=>hj (Y9 hN e1 (e ▸ hi))
          simp [this,e]
        · exact .inr ⟨k,c,e,z.sameBut hs (IM y c e)⟩
    · obtain ⟨w',z⟩:=I.cell y c e
      exact ⟨w',z.sameBut hs (IM y c e)⟩
    · obtain ⟨e,n,ne,nf,d⟩:=I.pin p hp
      exact ⟨(hs.2 p.1 ne).trans e,n,ne,nf,d⟩
  · have Qy:X.fn x=true:=by
      rcases hf with z | z
      · exact z
      · rw [z] at hk; cases hk
    obtain ⟨c,hc⟩:=I.ok.has x (.inl hk)
    obtain ⟨w',z⟩:=I.cell x c hc
    refine wpAny_storeName_cell I.ok.kind hk hc z (fun h' DZ hs=>?_)
    obtain ⟨oc,VN,QO⟩:=id z
    refine h { s with heap:=h' } ⟨I.ok,I.os,I.bare,⟨fun b o e n hb hx=>?_,fun b o e n hb hx=>?_,I.base.free,fun b o e hx=>?_,I.base.rA,I.base.mV,I.base.rj⟩,⟨m,hn.sameBut hs (d8 (IM x c hc)),fun j y v' e1 e2 e3=>?_⟩,fun y c' e=>?_,I.free,I.kD,fun p hp=>?_,Cn ⟨oc,VN,I.kD x c hc⟩ hs,by simpa using I.len⟩ ⟨c,hs,.inr hc⟩
    · exact (hs.2 b (bq (aQ (Heap.lt_size e) (I.ok.Hl x c Qy hc)))).trans (I.base.keep b o e n hb hx)
    · obtain ⟨sl,e1⟩:=I.base.slot b o e n hb hx
      exact ⟨sl,(hs.2 b (bq (aQ (Heap.lt_size e) (I.ok.Hl x c Qy hc)))).trans e1⟩
    · obtain ⟨o',e1⟩:=I.base.there b o e hx
      exact ⟨o',(hs.2 b (bq (aQ (Heap.lt_size e) (I.ok.Hl x c Qy hc)))).trans e1⟩
    · by_cases hj:j=i
      · subst hj
        rw [hi] at e1; cases e1
        rw [Bl VD] at e2
        cases e2
        exact ⟨u,r,.inr ⟨.inl hk,c,hc,DZ⟩⟩
      · rw [Dj (d8 hj)] at e2
        obtain ⟨u',r',q⟩:=hl j y v' e1 e2 e3
        refine ⟨u',r',?_⟩
        rcases q with q | ⟨k,c',e,z'⟩
        · exact .inl q
        · refine .inr ⟨k,c',e,z'.sameBut hs ?_⟩
          rintro rfl
          exact hj (Y9 hN e1 (I.ok.inj _ _ _ e hc ▸ hi))
    · by_cases VA:c'=c
      · subst VA; exact ⟨_,DZ⟩
      · obtain ⟨w2,z2⟩:=I.cell y c' e
        exact ⟨w2,z2.sameBut hs VA⟩
    · obtain ⟨e,n,ne,nf,d⟩:=I.pin p hp
      refine ⟨(hs.2 p.1 ?_).trans e,n,ne,nf,d⟩
      intro q
      rw [q,VN] at e
      have q':oc=p.2:=ak e
      exact d w' (by rw [<- q']; exact QO)
theorem OV{M:Model}{A:Around}{E:Value->Shared->Prop}{i:Nat}{x:Str}{v:V}{u:Value}{Q:Unit->Shared->Prop}(I:Inv X ah σ H s)(hN:X.N.Nodup)(hi:X.N[i]?=some x)(hx:Loc X.env.scope x)(r:RelV v u)(h:∀s',Inv X ah (σ.set i (some v)) H s'->Q () s')(hf:X.fn x=true\/X.env.scope.names.lookup x=some .local:=by first|exact .inl rfl|exact .inr rfl|assumption):wpAny M A (storeName X.env x u) Q E s:=
  Yu I hN hi hx r (fun s' I' _=>h s' I') hf
theorem Inv.Bt{s':Shared}{ch:List Addr}(I:Inv X ah σ H s)(ho:s'.os=s.os)(u:Un (ug X.stack) ch H H' s.heap s'.heap)(eB:lV X.prog X.w H' s'.heap)(hg:AllBare s'.gens)(CI:∀b∈ch,(b∈X.ex\/X.s₀.heap.objs.size<=b)/\b≠X.env.locals/\(∀x c,X.env.cells.lookup x=some c->c≠b)/\∀p∈X.pn++ah,p.1≠b):Inv X ah σ H' s':=by
  obtain⟨h',g',d',t',o'⟩:=s';have e:o'=s.os:=ho;subst e;exact I.call (g':=g') (t':=t') (d':=d') u eB hg CI
end
abbrev XK:=Value->Option Addr->Hp->Prop
abbrev St:=List (Option V)
abbrev VK:=V->Hp->Prop
abbrev TE:=St->Hp->VK->Prop
abbrev TT:=St->Hp->(Bool->Hp->Prop)->Prop
abbrev TA:=St->Hp->(List V->Hp->Prop)->Prop
structure Ends where
 nx:St->Hp->Prop
 rt:VK
 bk:St->Hp->Prop:=fun _ _=>False
 ct:St->Hp->Prop:=fun _ _=>False
abbrev TS:=Ends->St->Hp->Prop
def EP(X:Cx)(ah:List (Addr×Obj))(σ:St)(Q:VK)(u:Value)(s':Shared):Prop:=∃v H',Inv X ah σ H' s'/\RelV v u/\Q v H'
def TP(X:Cx)(ah:List (Addr×Obj))(σ:St)(Q:Bool->Hp->Prop)(b:Bool)(s':Shared):Prop:=∃H',Inv X ah σ H' s'/\Q b H'
def AP(X:Cx)(ah:List (Addr×Obj))(σ:St)(Q:List V->Hp->Prop)(us:List Value)(s':Shared):Prop:=∃vs H',Inv X ah σ H' s'/\b8 vs us/\Q vs H'
def SP(X:Cx)(ah:List (Addr×Obj))(D:Ends)(f:Flow)(s':Shared):Prop:=
 match f with
 | .next=>∃σ' H',Inv X ah σ' H' s'/\D.nx σ' H'
 | .brk=>∃σ' H',Inv X ah σ' H' s'/\D.bk σ' H'
 | .cont=>∃σ' H',Inv X ah σ' H' s'/\D.ct σ' H'
 | .ret u=>∃v σ' H',Inv X ah σ' H' s'/\RelV v u/\D.rt v H'
def PE(X:Cx)(e:Expr)(t:TE):Prop:=
 ∀(ah:List (Addr×Obj))(s:Shared)(σ:St)(H:Hp)(Q:VK),Inv X ah σ H s->t σ H Q->wpAny (model X.prog X.w) X.A (eval e X.env) (EP X ah σ Q) X.xe s
def PT(X:Cx)(e:Expr)(t:TT):Prop:=
 ∀(ah:List (Addr×Obj))(s:Shared)(σ:St)(H:Hp)(Q:Bool->Hp->Prop),Inv X ah σ H s->t σ H Q->wpAny (model X.prog X.w) X.A (isTrue e X.env (eval e X.env)) (TP X ah σ Q) X.xe s
def PW(X:Cx)(e:Expr)(t:TT):Prop:=
 ∀(pD:Sem Value)(ah:List (Addr×Obj))(s:Shared)(σ:St)(H:Hp)(Q:Bool->Hp->Prop),Inv X ah σ H s->t σ H Q->wpAny (model X.prog X.w) X.A (isTrue e X.env pD) (TP X ah σ Q) X.xe s
theorem PW.pt{X:Cx}{e:Expr}{t:TT}(h:PW X e t):PT X e t:=h _
def PA(X:Cx)(es:List Expr)(t:TA):Prop:=
 ∀(pos:Pos)(ah:List (Addr×Obj))(s:Shared)(σ:St)(H:Hp)(Q:List V->Hp->Prop),Inv X ah σ H s->t σ H Q->wpAny (model X.prog X.w) X.A (spliced (backTo pos (starEach es X.env))) (AP X ah σ Q) X.xe s
def PS(X:Cx)(st:Stmt)(t:TS):Prop:=
 ∀(ah:List (Addr×Obj))(s:Shared)(σ:St)(H:Hp)(D:Ends),Inv X ah σ H s->t D σ H->wpAny (model X.prog X.w) X.A (exec st X.env) (SP X ah D) X.xe s
def ud(X:Cx)(st:List Stmt)(t:TS):Prop:=
 ∀(ah:List (Addr×Obj))(s:Shared)(σ:St)(H:Hp)(D:Ends),Inv X ah σ H s->t D σ H->wpAny (model X.prog X.w) X.A (execs st X.env) (SP X ah D) X.xe s
theorem eJ{α:Type}{t:Sem α}{Q Q':α->Shared->Prop}{M:Model}{A:Around}{E:Value->Shared->Prop}{s:Shared}(h:wpAny M A t Q E s)(hQ:∀a s,Q a s->Q' a s):wpAny M A t Q' E s:=wpAny_mono h hQ fun _ _ x=>x
section
variable{X:Cx}
def Ac(i:Nat):TE:=fun σ H Q=>∃v,σ[i]?=some (some v)/\Q v H
def tC(v:V):TE:=fun _ H Q=>Q v H
theorem Tg{i:Nat}{x:Str}{pos:Pos}(hN:X.N[i]?=some x)(hv:PV X.env.scope x)(hd:(x ==("__debug__":Str))=false:=by decide)(tO:(x ==("__classdict__":Str))=false:=by decide):PE X (.Name x pos) (Ac i):=by
 intro ah s σ H Q I h;obtain⟨v,e,h⟩:=h;obtain⟨m,hn,hl⟩:=I.loc;obtain⟨u,r,l⟩:=hl i x v hN e hv;have fin:EP X ah σ Q u s:=⟨v,H,I,r,h⟩;rcases l with⟨hk,hm⟩ |⟨hk,c,hc,pA⟩
 ·exact wpAny_Name (wpAny_loadName_local I.ok.kind hk hn hm fin) hd
 ·rcases hk with hk|hk
  ·exact wpAny_Name (wpAny_loadName_cell I.ok.kind hk hc pA fin) hd
  ·exact wpAny_Name (wpAny_loadName_free I.ok.kind hk hc pA fin tO) hd
theorem bP{i j pos}:PE X (.Constant (.int i) j pos) (tC (.int i)):=fun _ _ _ H _ I h=>wpAny_Constant_int ⟨.int i,H,I.tok _,⟨_,rfl⟩,h⟩
theorem wQ{b j pos}:PE X (.Constant (.bool b) j pos) (tC (.bl b)):=fun _ _ _ H _ I h=>Constant_bool ⟨.bl b,H,I,rfl,h⟩
theorem vC{j pos}:PE X (.Constant .none j pos) (tC .b7):=fun _ _ _ H _ I h=>Constant_none ⟨.b7,H,I,rfl,h⟩
theorem kY{x j pos}:PE X (.Constant (.str x) j pos) (tC (.str x)):=fun _ _ _ H _ I h=>Calls.Constant_str ⟨.str x,H,I.tok _,⟨_,rfl⟩,h⟩
def Gl(X:Cx)(x:Str):Prop:=X.env.kindOf x=some .globalImplicit
theorem JZ{E:Value->Shared->Prop}{ah:List (Addr×Obj)}{s:Shared}{σ:St}{H:Hp}{x:Str}{u:Value}{pos:Pos}{Q:Value->Shared->Prop}(I:Inv X ah σ H s)(hg:Gl X x)(hm:X.mg x=some u)(h:Q u s)(hd:(x ==("__debug__":Str))=false:=by decide):wpAny (model X.prog X.w) X.A (eval (.Name x pos) X.env) Q E s:=
  Calls.Name_function_global I.ok.kind hg (Calls.loadGlobal_global (by rw[I.ok.glob];exact I.mod.glob.keeps I.bk) hm h) hd
theorem J4{E:Value->Shared->Prop}{ah:List (Addr×Obj)}{s:Shared}{σ:St}{H:Hp}{x:Str}{u:Value}{pos:Pos}{Q:Value->Shared->Prop}(I:Inv X ah σ H s)(hg:Gl X x)(hm:X.mg x=none)(hv:bootBuiltins x=some u)(h:Q u s)(hn:x≠ "__name__":=by decide)(hd:(x ==("__debug__":Str))=false:=by decide):wpAny (model X.prog X.w) X.A (eval (.Name x pos) X.env) Q E s:=by
  obtain⟨mb,h1,h2⟩:=I.mod.blt;exact Calls.Name_function_global I.ok.kind hg (Calls.loadGlobal_builtin (by rw[I.ok.glob];exact I.mod.glob.keeps I.bk) hm (by rw[I.ok.blt];exact h1.keeps I.bk) ((h2 x hn).trans hv) h) hd
theorem O8{x:Str}{v:V}{u:Value}{pos:Pos}(hg:Gl X x)(hm:X.mg x=some u)(r:RelV v u)(hd:(x ==("__debug__":Str))=false:=by decide):PE X (.Name x pos) (tC v):=
 fun _ _ _ H _ I h=>JZ I hg hm ⟨v,H,I,r,h⟩ hd
theorem O9{x:Str}{v:V}{u:Value}{pos:Pos}(hg:Gl X x)(hm:X.mg x=none)(hv:bootBuiltins x=some u)(r:RelV v u)(hn:x≠ "__name__":=by decide)(hd:(x ==("__debug__":Str))=false:=by decide):PE X (.Name x pos) (tC v):=
 fun _ _ _ H _ I h=>J4 I hg hm hv ⟨v,H,I,r,h⟩ hn hd
variable{a b:Expr}{ta tb:TE}{pos:Pos}
def PC(X:Cx)(op:CmpOp)(a b:Expr)(t:TE):Prop:=
 ∀(ah:List (Addr×Obj))(s:Shared)(σ:St)(H:Hp)(Q:VK),Inv X ah σ H s->t σ H Q->
  wpAny (model X.prog X.w) X.A (eval a X.env) (fun v s₁=>wpAny (model X.prog X.w) X.A (eval b X.env) (fun u s₂=>wpAny (model X.prog X.w) X.A (compareOp op v u) (EP X ah σ Q) X.xe s₂) X.xe s₁) X.xe s
def tB(t:TE):TT:=fun σ H Q=>t σ H fun x H1=>∃c,x= .bl c/\Q c H1
theorem J5{op:CmpOp}{t:TE}(h:PC X op a b t)(h1:behindInMarks op b=false:=by first|exact L3 _ (by decide) (by decide) |rfl):PT X (.Compare a [op] [b] pos) (tB t):=by
 intro ah s σ H Q I hw;refine wpAny_isTrue_Compare1 (eJ (h ah s σ H _ I hw) fun v s1 h1=>eJ h1 fun u s2 h2=>eJ h2 fun c s3⟨x,H1,I1,r1,q1⟩=>?_) h1;obtain⟨d,rfl,q⟩:=q1;cases r1
 exact wpAny_truthy_bool ⟨H1,I1,q⟩
theorem DC{e:Expr}{t:TE}(h:PE X e t)(he:∀pD,isTrue e X.env pD=(do let v <-pD;standAt e.pos;holding [v] (truthy v)):=by intro _;rfl):PT X e (tB t):=by
 intro ah s σ H Q I hw;refine isTrue_plain (eJ (h ah s σ H _ I hw) fun v s1⟨x,H1,I1,r1,q1⟩=>?_) (he _);obtain⟨d,rfl,q⟩:=q1;cases r1
 exact wpAny_truthy_bool ⟨H1,I1,q⟩
variable{tA OD:TT}{rest:List Expr}
def GA(t u:TT):TT:=fun σ H Q=>t σ H fun c H1=>if c=true then u σ H1 Q else Q false H1
def OH(t u:TT):TT:=fun σ H Q=>t σ H fun c H1=>if c=true then Q true H1 else u σ H1 Q
def GD(t:TT):TT:=fun σ H Q=>t σ H fun c H1=>Q (!c) H1
theorem J1(ha:PT X a tA):PW X (.BoolOp .And [a] pos) tA:=by
 intro wh ah s σ H Q I h;refine isTrue_and (eJ (ha ah s σ H Q I h) fun c s1 e=>?_);cases c with
 |true=>exact isTrue_and_nil e
 |false=>exact e
theorem NI(ha:PT X a tA):PW X (.BoolOp .Or [a] pos) tA:=by
 intro wh ah s σ H Q I h;refine isTrue_or (eJ (ha ah s σ H Q I h) fun c s1 e=>?_);cases c with
 |false=>exact isTrue_or_nil e
 |true=>exact e
theorem Im(ha:PT X a tA)(hb:PW X (.BoolOp .And (b::rest) pos) OD):PW X (.BoolOp .And (a::b::rest) pos) (GA tA OD):=by
 intro wh ah s σ H Q I h;refine isTrue_and (eJ (ha ah s σ H _ I h) fun c s1⟨H1,I1,q1⟩=>?_);cases c with
 |true=>exact hb wh ah s1 σ H1 Q I1 q1
 |false=>exact⟨H1,I1,q1⟩
theorem pw_or(ha:PT X a tA)(hb:PW X (.BoolOp .Or (b::rest) pos) OD):PW X (.BoolOp .Or (a::b::rest) pos) (OH tA OD):=by
 intro wh ah s σ H Q I h;refine isTrue_or (eJ (ha ah s σ H _ I h) fun c s1⟨H1,I1,q1⟩=>?_);cases c with
 |true=>exact⟨H1,I1,q1⟩
 |false=>exact hb wh ah s1 σ H1 Q I1 q1
theorem Df(ha:PT X a tA):PT X (.UnaryOp .Not a pos) (GD tA):=by intro ah s σ H Q I h;exact isTrue_not (ha ah s σ H (fun c H1=>Q (!c) H1) I h)
def Ch(ta tb:TE):TE:=fun σ H Q=>ta σ H fun x H1=>∃c,x= .bl c/\if c=true then tb σ H1 Q else Q (.bl false) H1
def GF(ta tb:TE):TE:=fun σ H Q=>ta σ H fun x H1=>∃c,x= .bl c/\if c=true then Q (.bl true) H1 else tb σ H1 Q
def EU(ta:TE):TE:=fun σ H Q=>ta σ H fun x H1=>∃c,x= .bl c/\Q (.bl (!c)) H1
theorem NJ{op}{t:TE}(h:PE X a t):PE X (.BoolOp op [a] pos) t:=fun ah s σ H Q I hw=>BoolOp_one (h ah s σ H Q I hw)
theorem NK(ha:PE X a ta)(hb:PE X (.BoolOp .And (b::rest) pos) tb):PE X (.BoolOp .And (a::b::rest) pos) (Ch ta tb):=by
 intro ah s σ H Q I h;refine BoolOp_and (eJ (ha ah s σ H _ I h) fun v s1⟨x,H1,I1,r1,q1⟩=>?_);obtain⟨c,rfl,q1⟩:=q1;cases r1
 refine wpAny_truthy_bool ?_;cases c with
 |true=>exact hb ah s1 σ H1 Q I1 q1
 |false=>exact⟨.bl false,H1,I1,rfl,q1⟩
theorem Ml(ha:PE X a ta)(hb:PE X (.BoolOp .Or (b::rest) pos) tb):PE X (.BoolOp .Or (a::b::rest) pos) (GF ta tb):=by
 intro ah s σ H Q I h;refine BoolOp_or (eJ (ha ah s σ H _ I h) fun v s1⟨x,H1,I1,r1,q1⟩=>?_);obtain⟨c,rfl,q1⟩:=q1;cases r1
 refine wpAny_truthy_bool ?_;cases c with
 |false=>exact hb ah s1 σ H1 Q I1 q1
 |true=>exact⟨.bl true,H1,I1,rfl,q1⟩
def OG(t:TT)(ta tb:TE):TE:=fun σ H Q=>t σ H fun c H1=>if c=true then ta σ H1 Q else tb σ H1 Q
theorem zxn{c:Expr}(hc:PT X c tA)(ha:PE X a ta)(hb:PE X b tb):PE X (.IfExp c a b pos) (OG tA ta tb):=by
 intro ah s σ H Q I h;refine wpAny_IfExp (eJ (hc ah s σ H _ I h) fun d s1⟨H1,I1,q1⟩=>?_);cases d with
 |true=>exact ha ah s1 σ H1 Q I1 q1
 |false=>exact hb ah s1 σ H1 Q I1 q1
end
def j1(K:aa)(H:Hp)(a:Addr)(xs:List V):Prop:=
 Rd H a (.lst xs)\/
  ∃(o:Obj)(c7:Array Value)(n:Nat),K.lookup a=some o/\o.cls= .type "list"/\o.dict=none/\o.data= .seq c7 n/\c7.size<=sizeLine/\b8 xs c7.toList
def uF(K:aa)(H:Hp)(a:Addr)(xs:List V):Prop:=
 Rd H a (.tup xs)\/
  ∃(o:Obj)(c7:Array Value)(n:Nat),K.lookup a=some o/\o.cls= .type "tuple"/\o.data= .seq c7 n/\c7.size<=sizeLine/\b8 xs c7.toList
def PZ:Value->Option V
 | .none=>some .b7
 | .bool b=>some (.bl b)
 | .int i _=>some (.int i)
 | .str x _=>some (.str x)
 | .bytes b _=>some (.Bs b)
 | .float b _=>some (.CG b)
 | .ref a=>some (.ref a)
 | .type n=>some (.ty n)
 |_=>none
theorem RelV.abs{x:V}{u:Value}(r:RelV x u):PZ u=some x:=by
 cases x with
 |b7=>cases r;rfl
 |bl _=>cases r;rfl
 |int _=>obtain⟨t,rfl⟩:=r;rfl
 |str _=>obtain⟨t,rfl⟩:=r;rfl
 |Bs _=>obtain⟨t,rfl⟩:=r;rfl
 |CG _=>obtain⟨t,rfl⟩:=r;rfl
 |ref _=>cases r;rfl
 |ty _=>cases r;rfl
theorem RelV.inj{x y:V}{u:Value}(r:RelV x u)(q:RelV y u):x=y:=ak (r.abs.symm.trans q.abs)
theorem b8.inj:∀{xs ys:List V}{us:List Value},b8 xs us->b8 ys us->xs=ys
 |_,_,_,.nil,.nil=>rfl
 |_,_,_,.cons r t,.cons r' t'=>by rw[r.inj r',b8.inj t t']
section
variable{X:Cx}{ah:List (Addr×Obj)}{σ:St}{H:Hp}{s:Shared}{a:Addr}{xs ys:List V}
theorem j1.of{K:aa}(h:H a=some (.lst xs)):j1 K H a xs:=.inl (.inl h)
theorem uF.of{K:aa}(h:H a=some (.tup xs)):uF K H a xs:=.inl (.inl h)
theorem Inv.list(I:Inv X ah σ H s)(h:j1 X.K H a xs):∃c7:List Value,b8 xs c7/\PlainL s.heap a c7.toArray/\xs.length<=sizeLine:=by
 rcases h with h|⟨o,c7,n,hk,hc,hd,hs,hz,r⟩
 ·obtain⟨z,c7,n,r,e⟩:=h.ok I.eB;exact⟨c7,r,⟨_,n,e,rfl,rfl,rfl⟩,z⟩
 ·refine⟨c7.toList,r,⟨o,n,I.oj a o hk,hc,hd,by simpa using hs⟩,?_⟩;have e:=r.length;simp only[kP]at e;omega
theorem Inv.tuple(I:Inv X ah σ H s)(h:uF X.K H a xs):∃c7:List Value,b8 xs c7/\IsTup s.heap a c7.toArray/\xs.length<=sizeLine:=by
 rcases h with h|⟨o,c7,n,hk,hc,hs,hz,r⟩
 ·obtain⟨z,c7,r,p⟩:=h.ok I.eB;exact⟨c7,r,p,z⟩
 ·refine⟨c7.toList,r,⟨o,I.oj a o hk,hc,n,by simpa using hs⟩,?_⟩;have e:=r.length;simp only[kP]at e;omega
theorem Inv.El(I:Inv X ah σ H s)(h:j1 X.K H a xs)(h':j1 X.K H a ys):xs=ys:=by
 obtain⟨c7,r,⟨o,n,e,_,_,d⟩,_⟩:=I.list h;obtain⟨its',r',⟨o',n',e',_,_,d'⟩,_⟩:=I.list h';rw[e]at e';cases e'
 rw[d]at d';injection d' with d1 _
 have:c7=its':=by simpa using congrArg Array.toList d1
 subst this;exact r.inj r'
theorem Inv.Dd(I:Inv X ah σ H s)(h:uF X.K H a xs)(h':uF X.K H a ys):xs=ys:=by
 obtain⟨c7,r,⟨o,e,_,n,d⟩,_⟩:=I.tuple h;obtain⟨its',r',⟨o',e',_,n',d'⟩,_⟩:=I.tuple h';rw[e]at e';cases e'
 rw[d]at d';injection d' with d1 _
 have:c7=its':=by simpa using congrArg Array.toList d1
 subst this;exact r.inj r'
end
abbrev Cx.wz(X:Cx)(E:Value->Shared->Prop):Cx:={X with xe:=E}
abbrev Cx.Dv(X:Cx):Cx:=X.wz fun _ _=>False
theorem Cx.Ok.wz{X:Cx}(ok:X.Ok)(E:Value->Shared->Prop):(X.wz E).Ok:=
 ⟨ok.mod,ok.kind,ok.glob,ok.blt,ok.above,ok.inj,ok.has,ok.Hl,ok.hd,ok.frames,ok.JO,ok.F5,ok.bs,ok.Dp,ok.zN,ok.xS,ok.mH,ok.Fc⟩
theorem Cx.Ok.nV{X:Cx}{E:Value->Shared->Prop}(ok:(X.wz E).Ok):X.Ok:=
 ⟨ok.mod,ok.kind,ok.glob,ok.blt,ok.above,ok.inj,ok.has,ok.Hl,ok.hd,ok.frames,ok.JO,ok.F5,ok.bs,ok.Dp,ok.zN,ok.xS,ok.mH,ok.Fc⟩
section
variable{X:Cx}{ah:List (Addr×Obj)}{σ:St}{H:Hp}{s:Shared}{E:Value->Shared->Prop}
theorem Inv.wz(I:Inv X ah σ H s)(E:Value->Shared->Prop):Inv (X.wz E) ah σ H s:=⟨I.ok.wz E,I.os,I.bare,I.base,I.loc,I.cell,I.free,I.kD,I.pin,I.eB,I.len⟩
theorem Inv.nV(I:Inv (X.wz E) ah σ H s):Inv X ah σ H s:=⟨I.ok.nV,I.os,I.bare,I.base,I.loc,I.cell,I.free,I.kD,I.pin,I.eB,I.len⟩
theorem SP.nV{D:Ends}{f:Flow}{s':Shared}(h:SP (X.wz E) ah D f s'):SP X ah D f s':=by
 cases f with
 |next=>obtain⟨σ',H',I,q⟩:=h;exact⟨σ',H',I.nV,q⟩
 |brk=>obtain⟨σ',H',I,q⟩:=h;exact⟨σ',H',I.nV,q⟩
 |cont=>obtain⟨σ',H',I,q⟩:=h;exact⟨σ',H',I.nV,q⟩
 |ret u=>obtain⟨v,σ',H',I,r,q⟩:=h;exact⟨v,σ',H',I.nV,r,q⟩
theorem ud.Dv{st:List Stmt}{t:TS}(h:ud X.Dv st t):ud X st t:=fun ah s σ H D I hw=>
 wpAny_mono (h ah s σ H D (I.wz _) hw) (fun _ _ q=>q.nV) fun _ _ z=>bE z
end
section
variable{X:Cx}{st:Stmt}{rest:List Stmt}{t u:TS}{e:Expr}{te:TE}{pos:Pos}
def Aa:TS:=fun D σ H=>D.nx σ H
def dG(t u:TS):TS:=fun D σ H=>t {D with nx:=u D} σ H
theorem kX:ud X [] Aa:=fun _ _ σ H _ I h=>wpAny_execs_nil ⟨σ,H,I,h⟩
theorem bS(h1:PS X st t)(h2:ud X rest u):ud X (st::rest) (dG t u):=by
 intro ah s σ H D I h;refine wpAny_execs_cons (eJ (h1 ah s σ H {D with nx:=u D} I h) fun f s1 q=>?_);cases f with
 |next=>
  obtain⟨σ',H',I',q⟩:=q;exact h2 ah s1 σ' H' D I' q
 |ret v=>exact q
 |brk=>exact q
 |cont=>exact q
theorem c8(h1:PS X st t):ud X [st] t:=by
 intro ah s σ H D I h;refine wpAny_execs_cons (eJ (h1 ah s σ H D I h) fun f s1 q=>?_);cases f with
 |next=>exact wpAny_execs_nil q
 |ret v=>exact q
 |brk=>exact q
 |cont=>exact q
theorem zzz:PS X (.Pass pos) Aa:=fun _ _ σ H _ I h=>wpAny_Pass ⟨σ,H,I,h⟩
theorem Inv.quiet{ah:List (Addr×Obj)}{σ:St}{H:Hp}{s:Shared}(I:Inv X ah σ H s):interactive X.env=false:=by simp[interactive,I.ok.kind]
def w4(te:TE):TS:=fun D σ H=>te σ H fun _ H1=>D.nx σ H1
theorem j6(he:PE X e te)(hs:swapsWith e none pos.line X.env=pure false:=by rfl):PS X (.Expr e pos) (w4 te):=by intro ah s σ H D I h;exact wpAny_Expr_any (eJ (he ah s σ H _ I h) fun v s1⟨x,H1,I1,r1,q1⟩=>⟨σ,H1,I1,q1⟩) I.quiet hs
def iN(te:TE):TS:=fun D σ H=>te σ H D.rt
theorem gS(he:PE X e te):PS X (.Return (some e) pos) (iN te):=by intro ah s σ H D I h;exact wpAny_Return_some (eJ (he ah s σ H _ I h) fun v s1⟨x,H1,I1,r1,q1⟩=>⟨x,σ,H1,I1,r1,q1⟩)
def EV:TS:=fun D _ H=>D.rt .b7 H
def rh(c:TT)(t u:TS):TS:=fun D σ H=>c σ H fun b H1=>if b=true then t D σ H1 else u D σ H1
theorem dW{c:Expr}{a b:List Stmt}{tc:TT}(hc:PT X c tc)(ha:ud X a t)(hb:ud X b u):PS X (.If c a b pos) (rh tc t u):=by
 intro ah s σ H D I h;refine wpAny_If (eJ (hc ah s σ H _ I h) fun d s1⟨H1,I1,q1⟩=>?_);cases d with
 |true=>exact ha ah s1 σ H1 D I1 q1
 |false=>exact hb ah s1 σ H1 D I1 q1
def Th:TS:=fun _ _ _=>False
theorem Za:PS X st Th:=fun _ _ _ _ _ _ h=>h.elim
end
abbrev TG:=V->St->Hp->(St->Hp->Prop)->Prop
abbrev G8:=List V->St->Hp->(St->Hp->Prop)->Prop
def PG(X:Cx)(eM:Expr)(t:TG):Prop:=
 ∀(ah:List (Addr×Obj))(s:Shared)(σ:St)(H:Hp)(v:V)(u:Value)(Q:St->Hp->Prop),Inv X ah σ H s->RelV v u->t v σ H Q->
  wpAny (model X.prog X.w) X.A (assign eM X.env u) (fun _ s'=>∃σ' H',Inv X ah σ' H' s'/\Q σ' H') X.xe s
def K7(X:Cx)(ts:List Expr)(t:G8):Prop:=
 ∀(ah:List (Addr×Obj))(s:Shared)(σ:St)(H:Hp)(vs:List V)(us:List Value)(Q:St->Hp->Prop),Inv X ah σ H s->b8 vs us->t vs σ H Q->
  wpAny (model X.prog X.w) X.A (assignInOrder ((assignEach ts X.env).map (·.2)) us) (fun _ s'=>∃σ' H',Inv X ah σ' H' s'/\Q σ' H') X.xe s
section
variable{X:Cx}{pos:Pos}
def nH(i:Nat):TG:=fun v σ H Q=>Q (σ.set i (some v)) H
theorem nZ{i:Nat}{x:Str}(hN:X.N.Nodup)(hi:X.N[i]?=some x)(hx:Loc X.env.scope x)(hf:X.fn x=true\/X.env.scope.names.lookup x=some .local:=by first|exact .inl rfl|exact .inr rfl|assumption):PG X (.Name x pos) (nH i):=by intro ah s σ H v u Q I r h;exact wpAny_assign_Name (OV I hN hi hx r (fun s' I'=>⟨_,H,I',h⟩) hf)
def DX:G8:=fun vs σ H Q=>vs=[]/\Q σ H
def wK(t:TG)(u:G8):G8:=fun vs σ H Q=>∃v r,vs=v::r/\t v σ H fun σ' H'=>u r σ' H' Q
theorem Nz:K7 X [] DX:=by
 intro ah s σ H vs us Q I r h;obtain⟨e,h⟩:=h;subst e;cases r
 exact assignInOrder_nil ⟨σ,H,I,h⟩
theorem Dz{e:Expr}{es:List Expr}{t:TG}{u:G8}(h1:PG X e t)(h2:K7 X es u)(hs:(assignEach (e::es) X.env).map (·.2)=assign e X.env::(assignEach es X.env).map (·.2):=by rfl):K7 X (e::es) (wK t u):=by
  intro ah s σ H vs us Q I r h;obtain⟨v,vr,e1,h⟩:=h;subst e1;cases r with
  |cons r rr=>
    rw[hs];refine assignInOrder_cons (eJ (h1 ah s σ H _ _ _ I r h) fun _ s1⟨σ1,H1,I1,q1⟩=>?_);exact h2 ah s1 σ1 H1 _ _ Q I1 rr q1
def CH(K:aa)(n:Nat)(t:G8):TG:=fun v σ H Q=>∃a xs,v= .ref a/\uF K H a xs/\xs.length=n/\t xs σ H Q
theorem Ti{es:List Expr}{k:Nat}{t:G8}{n:Nat}(hc:X.calm=true)(h:K7 X es t)(hn:(assignEach es X.env).length=n:=by rfl)(Dt:(assignEach es X.env).findIdx? (·.1)=none:=by rfl):PG X (.Tuple es k pos) (CH X.K n t):=by
  intro ah s σ H v u Q I r hw;obtain⟨a,xs,e1,hq,hl,hw⟩:=hw;subst e1;cases r
  obtain⟨c7,rv,ht,hz⟩:=I.tuple hq;refine assign_Tuple_tuple (I.ok.hd hc) ht (by simp[hn,<-hl,rv.length]) Dt fun h' hx=>?_;have I1:Inv X ah σ H {s with heap:=h'}:=I.kept (t':=s.toks) fun b o e=>hx b o (bq (Heap.lt_size e)) e;exact h ah _ σ H xs _ Q I1 (by simpa using rv) hw
def wu(te:TE)(g:TG):TS:=fun D σ H=>te σ H fun x H1=>g x σ H1 D.nx
theorem zyx{tg e:Expr}{te:TE}{g:TG}(he:PE X e te)(hg:PG X tg g)(hs:swapsWithSole [tg] e pos.line X.env=pure false:=by rfl)(hw:swappedStores [tg] e X.env=pure none:=by rfl)(h1:(assignEach [tg] X.env).map (·.2)=[assign tg X.env]:=by rfl):PS X (.Assign [tg] e pos) (wu te g):=by
  intro ah s σ H D I h;refine wpAny_Assign_stores (eJ (he ah s σ H _ I h) fun v s1⟨x,H1,I1,r1,q1⟩=>?_) hs hw;rw[h1];exact eJ (hg ah s1 σ H1 x v _ I1 r1 q1) fun _ s2 q=>q
theorem Tj{i:Nat}{x:Str}{e:Expr}{te:TE}{tY:Pos}(hN:X.N.Nodup)(hi:X.N[i]?=some x)(hx:Loc X.env.scope x)(he:PE X e te)(hs:swapsWith e (some (.Name x tY)) pos.line X.env=pure false:=by rfl)(hf:X.fn x=true\/X.env.scope.names.lookup x=some .local:=by first|exact .inl rfl|exact .inr rfl|assumption):
    PS X (.Assign [.Name x tY] e pos) (wu te (nH i)):=by
  intro ah s σ H D I h;refine wpAny_Assign_Name (eJ (he ah s σ H _ I h) fun v s1⟨y,H1,I1,r1,q1⟩=>?_) hs;exact OV I1 hN hi hx r1 (fun s2 I2=>⟨_,H1,I2,q1⟩) hf
def GG(i j:Nat)(ta:TA):TS:=fun D σ H=>ta σ H fun vs H1=>∃v w,vs=[v,w]/\D.nx ((σ.set i (some v)).set j (some w)) H1
theorem Tk{i j:Nat}{x y:Str}{a b:Expr}{ta:TA}{px py pt:Pos}{kt k2 Ru}(hc:X.calm=true)(hN:X.N.Nodup)(hi:X.N[i]?=some x)(hj:X.N[j]?=some y)(N8:i≠j)(hx:X.env.scope.names.lookup x=some .local)(hy:X.env.scope.names.lookup y=some .local)(ha:PA X [a,b] ta)(hw:swappedStores [.Tuple [.Name x px,.Name y py] kt pt] (.Tuple [a,b] k2 Ru) X.env=pure (some [x,y]))(hs:swapsWithSole [.Tuple [.Name x px,.Name y py] kt pt] (.Tuple [a,b] k2 Ru) pos.line X.env=pure false:=by rfl):
    PS X (.Assign [.Tuple [.Name x px,.Name y py] kt pt] (.Tuple [a,b] k2 Ru) pos) (GG i j ta):=by
  intro ah s σ H D I h;rw[exec_Assign_arm];refine wpAny_bind (wpAny_standAt ?_);rw[hs];refine wpAny_bind (wpAny_pure ?_);rw[if_neg (by decide)];refine wpAny_bind (Tuple_ (eJ (ha _ ah s σ H _ I h) fun us s1⟨vs,H1,I1,r1,q1⟩=>?_));obtain⟨v,w,e1,q1⟩:=q1;subst e1;obtain⟨u1,u2,rfl,rv,CY⟩:∃u1 u2,us=[u1,u2]/\RelV v u1/\RelV w u2:=by
    cases r1 with
    |cons p q=>
      cases q with
      |cons p' q'=>
        cases q';exact⟨_,_,rfl,p,p'⟩
  refine wpAny_newObj_type ?_ (by show 2<=sizeLine;decide);have I2:Inv X ah σ H1 {s1 with heap:=s1.heap.push {cls:=.type "tuple",data:=.seq [u1,u2].toArray}}:=I1.kept (t':=s1.toks) fun b o e=>Heap.get?_push_of_some _ e;rw[hw];refine wpAny_bind (wpAny_pure ?_);show wpAny (model X.prog X.w) X.A (do rule "assign.swapped-stores";let items <-unpackItems (.ref s1.heap.objs.size) 2 none;assignInOrder [fun v=>bindName X.env y v,fun v=>bindName X.env x v] items.reverse;pure Flow.next) _ _ _;refine wpAny_bind (wpAny_rule (wpAny_bind (unpackItems_tuple (items:=#[u1,u2]) (I.ok.hd hc) (IsTup.new s1.heap _) fun h' VX=>?_)));have I3:=I2.kept (h':=h') (t':=s1.toks) fun b o e=>VX b o (bq (Heap.lt_size e)) e;show wpAny _ _ (assignInOrder [fun v=>bindName X.env y v,fun v=>bindName X.env x v] [u2,u1] >>=fun _=>pure Flow.next) _ _ _;refine wpAny_bind (assignInOrder_cons (wpAny_bindName (OV I3 hN hj (.inl hy) CY (fun s2 I4=>?_) (.inr hy))));refine assignInOrder_cons (wpAny_bindName (OV I4 hN hi (.inl hx) rv (fun s3 I5=>assignInOrder_nil (wpAny_pure ?_)) (.inr hx)));rw[List.set_comm _ _ (d8 N8)]at I5;exact⟨_,H1,I5,q1⟩
end
section
variable{X:Cx}{pos:Pos}
def UX(c:TT)(tb:TS):TS:=fun D σ H=>∃W:Nat->St->Hp->Prop,(∃m,W m σ H)/\∀m σ H,W m σ H->
 c σ H fun b H1=>if b=true then ∃N:St->Hp->Prop,(∀σ' H',N σ' H'->∃m',m' < m/\W m' σ' H')/\tb {D with nx:=N,ct:=N,bk:=D.nx} σ H1 else D.nx σ H1
theorem KH{c:Expr}{body:List Stmt}{tc:TT}{tb:TS}(hp:PassesOwn (model X.prog X.w) X.A X.env X.xe)(hc:PT X c tc)(hb:ud X body tb):PS X (.While c body [] pos) (UX tc tb):=by
 intro ah s σ H D I h;obtain⟨W,⟨m0,w0⟩,sJ⟩:=h;refine wpAny_While (codeAny_whileLoop (fun n s'=>∃σ' H',Inv X ah σ' H' s'/\W n σ' H') ?_ m0 ⟨σ,H,I,w0⟩);rintro n s1 ⟨σ1,H1,I1,w1⟩;refine wpAny_passesOwn hp (eJ (hc ah s1 σ1 H1 _ I1 (sJ n σ1 H1 w1)) fun b s2⟨H2,I2,q2⟩=>?_);cases b with
 |true=>
  obtain⟨N,hN,q2⟩:=q2;rw[if_pos rfl];refine wpAny_passesOwn hp (eJ (hb ah s2 σ1 H2 _ I2 q2) fun f s3 q3=>?_);cases f with
  |next=>
   obtain⟨σ3,H3,I3,n3⟩:=q3;obtain⟨m',hm,w3⟩:=hN σ3 H3 n3;exact⟨m',hm,σ3,H3,I3,w3⟩
  |cont=>
   obtain⟨σ3,H3,I3,n3⟩:=q3;obtain⟨m',hm,w3⟩:=hN σ3 H3 n3;exact⟨m',hm,σ3,H3,I3,w3⟩
  |brk=>exact q3
  |ret v=>exact q3
 |false=>
  rw[if_neg aW];exact wpAny_execs_nil ⟨σ1,H2,I2,q2⟩
end
structure It where
 go:Nat->Hp->Prop
 Ih:Nat->Hp->V->Hp->Prop
 stop:Nat->Hp->Prop
def rP(X:Cx)(ah:List (Addr×Obj))(H:Hp)(b:Addr):Prop:=
 H b=none/\b≠X.env.locals/\b∉X.fs/\(b∈X.ex\/X.s₀.heap.objs.size<=b)/\(∀x c,X.env.cells.lookup x=some c->c≠b)/\∀p∈X.pn++ah,p.1≠b
theorem Inv.zj{X:Cx}{ah:List (Addr×Obj)}{σ:St}{H H':Hp}{s:Shared}{b:Addr}(I:Inv X ah σ H s)(hb:s.heap.objs.size<=b)(hn:H' b=none):rP X ah H' b:=by
 refine⟨hn,oG (aQ I.lt hb),I.Rm hb,.inr (bO I.sz hb),fun x c e z=>?_,fun p hp z=>?_⟩
 ·obtain⟨v,q⟩:=I.cell x c e;exact absurd (aQ q.lt (by rw[z];exact hb)) (fN _)
 ·exact absurd (aQ (Heap.lt_size (I.pin p hp).1) (by rw[z];exact hb)) (fN _)
structure vQ(P:Program)(w:World)(K:aa)(tg:Expr)(J:It)(fp:List Addr)(it:Addr)(tn:Nat->Heap->Prop):Prop where
 mem:it∈fp
 obj:∀i h,tn i h->∀b∈fp,∃o,h.get? b=some o/\∀v,o.data≠.cell v
 keep:∀i h h',tn i h->(∀b∈fp,∀o,h.get? b=some o->h'.get? b=some o)->tn i h'
 item:∀(X:Cx),X.prog=P->X.w=w->X.K=K->X.calm=true->∀(i:Nat)(ah:List (Addr×Obj))(s:Shared)(σ:St)(H:Hp)(E:Value->Shared->Prop),Inv X ah σ H s->(∀b∈fp,rP X ah H b)->tn i s.heap->J.go i H->
  wpAny (model P w) X.A (pyNext (.ref it)) (fun r s1=>∃u,r=some u/\
   wpAny (model P w) X.A (letOwnedTupleGo tg (.ref it) u) (fun _ s2=>∃x H',Inv X ah σ H' s2/\RelV x u/\J.Ih i H x H'/\tn (i+1) s2.heap/\∀b∈fp,H' b=none) E s1) E s
 done:∀(X:Cx),X.prog=P->X.w=w->X.K=K->X.calm=true->∀(i:Nat)(ah:List (Addr×Obj))(s:Shared)(σ:St)(H:Hp)(E:Value->Shared->Prop),Inv X ah σ H s->(∀b∈fp,rP X ah H b)->tn i s.heap->J.stop i H->
  wpAny (model P w) X.A (pyNext (.ref it)) (fun r s1=>r=none/\Inv X ah σ H s1) E s
 self:∀(A:Around)(i:Nat)(s:Shared)(Q:Value->Shared->Prop)(E:Value->Shared->Prop),tn i s.heap->Q (.ref it) s->wpAny (model P w) A (pyIter (.ref it)) Q E s
abbrev TI:=St->Hp->(It->Hp->Prop)->Prop
def PM(X:Cx)(ah:List (Addr×Obj))(σ:St)(tg:Expr)(R:It->Hp->Prop)(Oo:Value)(s2:Shared):Prop:=
 ∃(it:Addr)(fp:List Addr)(tn:Nat->Heap->Prop)(J:It)(H':Hp),Oo= .ref it/\Inv X ah σ H' s2/\vQ X.prog X.w X.K tg J fp it tn/\tn 0 s2.heap/\(∀b∈fp,rP X ah H' b)/\R J H'
def PI(X:Cx)(tg iter:Expr)(wi:TI):Prop:=
 ∀(ah:List (Addr×Obj))(s:Shared)(σ:St)(H:Hp)(R:It->Hp->Prop),Inv X ah σ H s->wi σ H R->
  wpAny (model X.prog X.w) X.A (eval iter X.env) (fun v s1=>wpAny (model X.prog X.w) X.A (pyIter v) (PM X ah σ tg R) X.xe s1) X.xe s
theorem wL {M:Model} {A:Around} {E:Value->Shared->Prop} {s:Shared} {tg:Expr} {it:Addr} {u:Value} {o:Obj} {n:String} {vs:Array Value} {Q:Unit->Shared->Prop} (ho:s.heap.get? it=some o) (hc:o.cls = .type n) (hd:o.data = .fields vs)
    (hn:["enumerate", "zip", "dict_itemiterator", "dict_reverseitemiterator", "odict_iterator", "itertools.zip_longest", "itertools.pairwise"].contains n=false) (hQ:Q () s):wpAny M A (letOwnedTupleGo tg (.ref it) u) Q E s:=by
  unfold letOwnedTupleGo
  cases tg <;> first
    | exact wpAny_pure hQ
    | (cases u <;> first
        | exact wpAny_pure hQ
        | (refine wpAny_bind (wpAny_load ho ?_)
           rw [hc,hd]
           show wpAny M A (if (["enumerate", "zip", "dict_itemiterator", "dict_reverseitemiterator", "odict_iterator", "itertools.zip_longest", "itertools.pairwise"].contains n && vs[0]? == some (rawInt _))=true then _ else _) Q E s
           rw [if_neg (by intro h; rw [hn,J7] at h; cases h)]
           exact wpAny_pure hQ))
def FH(K:aa)(a:Addr):It:=
 ⟨fun i H=>∃xs x,j1 K H a xs/\xs[i]?=some x,fun i H x H'=>H'=H/\∀xs,j1 K H a xs->xs[i]?=some x,fun i H=>∃xs,j1 K H a xs/\xs.length<=i⟩
def K4(K:aa)(a:Addr):It:=
 ⟨fun i H=>∃xs x,uF K H a xs/\xs[i]?=some x,fun i H x H'=>H'=H/\∀xs,uF K H a xs->xs[i]?=some x,fun i H=>∃xs,uF K H a xs/\xs.length<=i⟩
def IA(lo:Int)(n:Nat):It:=⟨fun i _=>i<n,fun i H x H'=>H'=H/\x= .int (lo+i),fun i _=>n<=i⟩
theorem zuu{P:Program}{w:World}{K:aa}{tg:Expr}(a it:Addr):vQ P w K tg (FH K a) [it] it (fun i h=>h.IsListIter it a i) where
 mem:=by simp
 obj:=fun i h st b hb=>by
  have e:b=it:=by simpa using hb
  subst e;obtain⟨o,e,c,d⟩:=st;exact⟨o,e,fun v z=>by rw[d]at z;cases z⟩
 keep:=fun i h h' st k=>st.at fun o e=>k it (by simp) o e
 item:=by intro X hP hw hK hc i ah s σ H E I hf st hg;subst hP hw hK;obtain⟨xs,x,hq,hx⟩:=hg;obtain⟨c7,rv,p,hz⟩:=I.list hq;obtain⟨u,hu,ru⟩:=rv.get hx;obtain⟨f0,f1,f2,f3,f4,f5⟩:=hf it (by simp);refine wpAny_pyNext_list_item st p.isList (x:=u) (by simpa using hu) fun h' yh sb=>?_;have I1:Inv X ah σ H {s with heap:=h'}:=I.turned (t':=s.toks) (fun b o hb e=>(sb.2 b hb).trans e) f0 f1 f3 f4 f5;obtain⟨o,e,c,d⟩:=id yh;exact⟨u,rfl,wL (s:={s with heap:=h'}) e c d (by decide) ⟨x,H,I1,ru,⟨rfl,fun ys hy=>by rw[I.El hy hq];exact hx⟩,yh,fun b hb=>(hf b hb).1⟩⟩
 done:=by intro X hP hw hK hc i ah s σ H E I hf st hg;subst hP hw hK;obtain⟨xs,hq,hx⟩:=hg;obtain⟨c7,rv,p,hz⟩:=I.list hq;obtain⟨f0,f1,f2,f3,f4,f5⟩:=hf it (by simp);have hl:=rv.length;exact wpAny_pyNext_list_end (I.ok.hd hc) st p.isList (by simp;omega) fun h' eb=>⟨rfl,I.turned (t':=s.toks) (fun b o hb e=>eb b o hb e) f0 f1 f3 f4 f5⟩
 self:=fun _ _ _ _ _ st h=>wpAny_pyIter_listiter st h
theorem ztv{P:Program}{w:World}{K:aa}{tg:Expr}(a it:Addr):vQ P w K tg (K4 K a) [it] it (fun i h=>h.IsTupleIter it a i) where
 mem:=by simp
 obj:=fun i h st b hb=>by
  have e:b=it:=by simpa using hb
  subst e;obtain⟨o,e,c,d⟩:=st;exact⟨o,e,fun v z=>by rw[d]at z;cases z⟩
 keep:=fun i h h' st k=>st.at fun o e=>k it (by simp) o e
 item:=by intro X hP hw hK hc i ah s σ H E I hf st hg;subst hP hw hK;obtain⟨xs,x,hq,hx⟩:=hg;obtain⟨c7,rv,p,hz⟩:=I.tuple hq;obtain⟨u,hu,ru⟩:=rv.get hx;obtain⟨f0,f1,f2,f3,f4,f5⟩:=hf it (by simp);refine wpAny_pyNext_tuple_item st (show s.heap.IsTuple a c7.toArray from p) (x:=u) (by simpa using hu) fun h' yh sb=>?_;have I1:Inv X ah σ H {s with heap:=h'}:=I.turned (t':=s.toks) (fun b o hb e=>(sb.2 b hb).trans e) f0 f1 f3 f4 f5;obtain⟨o,e,c,d⟩:=id yh;exact⟨u,rfl,wL (s:={s with heap:=h'}) e c d (by decide) ⟨x,H,I1,ru,⟨rfl,fun ys hy=>by rw[I.Dd hy hq];exact hx⟩,yh,fun b hb=>(hf b hb).1⟩⟩
 done:=by intro X hP hw hK hc i ah s σ H E I hf st hg;subst hP hw hK;obtain⟨xs,hq,hx⟩:=hg;obtain⟨c7,rv,p,hz⟩:=I.tuple hq;obtain⟨f0,f1,f2,f3,f4,f5⟩:=hf it (by simp);have hl:=rv.length;exact wpAny_pyNext_tuple_end (I.ok.hd hc) st (show s.heap.IsTuple a c7.toArray from p) (by simp;omega) fun h' eb=>⟨rfl,I.turned (t':=s.toks) (fun b o hb e=>eb b o hb e) f0 f1 f3 f4 f5⟩
 self:=fun _ _ _ _ _ st h=>wpAny_pyIter_tupleiter st h
theorem ztw{P:Program}{w:World}{K:aa}{tg:Expr}(it:Addr)(lo:Int)(n:Nat):vQ P w K tg (IA lo n) [it] it (fun i h=>IsRangeIter h it (lo+(i:Nat)*1) ((n:Int)-(i:Nat)) 1) where
 mem:=by simp
 obj:=fun i h st b hb=>by
  have e:b=it:=by simpa using hb
  subst e;exact⟨_,st,fun v z=>by have z':Data.fields _=Data.cell v:=z;cases z'⟩
 keep:=fun i h h' st k=>k it (by simp) _ st
 item:=by intro X hP hw hK hc i ah s σ H E I hf st hg;subst hP hw hK;obtain⟨f0,f1,f2,f3,f4,f5⟩:=hf it (by simp);have W:=Walks.range (prog:=X.prog) (w:=X.w) (I.ok.hd hc) it lo 1 n;refine W.item i s _ _ hg st fun v h' tk hv yh kk=>?_;obtain⟨t,rfl⟩:=hv;have I1:Inv X ah σ H {s with heap:=h',toks:=tk}:=I.turned (fun b o hb e=>kk b o (by simpa using hb) e) f0 f1 f3 f4 f5;refine⟨_,rfl,wL (s:={s with heap:=h',toks:=tk}) (n:="range_iterator") yh rfl rfl (by decide) ⟨.int (lo+i),H,I1,⟨t,?_⟩,⟨rfl,rfl⟩,yh,fun b hb=>(hf b hb).1⟩⟩;rw[Int.mul_one]
 done:=by intro X hP hw hK hc i ah s σ H E I hf st hg;subst hP hw hK;obtain⟨f0,f1,f2,f3,f4,f5⟩:=hf it (by simp);exact wpAny_pyNext_range_end (I.ok.hd hc) st (by have:n<=i:=hg;omega) fun h' eb=>⟨rfl,I.turned (t':=s.toks) (fun b o hb e=>eb b o hb e) f0 f1 f3 f4 f5⟩
 self:=fun _ _ _ _ _ st h=>wpAny_pyIter_rangeiter st h
section
variable{X:Cx}{tg:Expr}
def zz(K:aa)(tl:TE):TI:=fun σ H R=>tl σ H fun x H1=>∃a,x= .ref a/\(∃xs,j1 K H1 a xs)/\R (FH K a) H1
def Ed(K:aa)(tl:TE):TI:=fun σ H R=>tl σ H fun x H1=>∃a,x= .ref a/\(∃xs,uF K H1 a xs)/\R (K4 K a) H1
theorem R4{l:Expr}{tl:TE}(hl:PE X l tl):PI X tg l (zz X.K tl):=by
 intro ah s σ H R I h;refine eJ (hl ah s σ H _ I h) fun v s1⟨x,H1,I1,r1,q1⟩=>?_;obtain⟨a,e,⟨xs,hq⟩,q⟩:=q1;subst e;cases r1
 obtain⟨c7,rv,p,hz⟩:=I1.list hq;refine wpAny_pyIter_list p.isList ?_;refine⟨s1.heap.objs.size,[s1.heap.objs.size],_,_,H1,rfl,I1.kept (t':=s1.toks) fun b o e=>Heap.get?_push_of_some _ e,zuu a _,⟨_,Heap.get?_push_size _ rfl,rfl,rfl⟩,fun b hb=>?_,q⟩;have e:b=s1.heap.objs.size:=by simpa using hb
 subst e;exact I1.zj (aq _) (I1.eB.fresh (aq _))
theorem Tn{l:Expr}{tl:TE}(hl:PE X l tl):PI X tg l (Ed X.K tl):=by
 intro ah s σ H R I h;refine eJ (hl ah s σ H _ I h) fun v s1⟨x,H1,I1,r1,q1⟩=>?_;obtain⟨a,e,⟨xs,hq⟩,q⟩:=q1;subst e;cases r1
 obtain⟨c7,rv,p,hz⟩:=I1.tuple hq;refine wpAny_pyIter_tuple (show s1.heap.IsTuple a c7.toArray from p) ?_;refine⟨s1.heap.objs.size,[s1.heap.objs.size],_,_,H1,rfl,I1.kept (t':=s1.toks) fun b o e=>Heap.get?_push_of_some _ e,ztv a _,⟨_,Heap.get?_push_size _ rfl,rfl,rfl⟩,fun b hb=>?_,q⟩;have e:b=s1.heap.objs.size:=by simpa using hb
 subst e;exact I1.zj (aq _) (I1.eB.fresh (aq _))
theorem zxo{ah:List (Addr×Obj)}{σ:St}{H:Hp}{s:Shared}{R:It->Hp->Prop}{E:Value->Shared->Prop}{lo hi:Int}{t u v:Tok}{tk:Nat}(I:Inv X ah σ H s)(h1:-(2^62)<=lo)(h2:lo<2^62)(h3:-(2^62)<=hi)(h4:hi<2^62)(q:R (IA lo (hi-lo).toNat) H):wpAny (model X.prog X.w) X.A (pyIter (.ref s.heap.objs.size)) (PM X ah σ tg R) E {s with heap:=s.heap.push {cls:=.type "range",data:=.fields #[.int lo t,.int hi u,.int 1 v]},toks:=tk}:=by
  refine wpAny_pyIter_range (IsRange.new ..) (small_one h1 h2 h3 h4) ?_;have I1:Inv X ah σ H {s with heap:=s.heap.push {cls:=.type "range",data:=.fields #[.int lo t,.int hi u,.int 1 v]},toks:=tk}:=I.kept fun b o e=>Heap.get?_push_of_some _ e;refine⟨(s.heap.push {cls:=.type "range",data:=.fields #[.int lo t,.int hi u,.int 1 v]}).objs.size,[(s.heap.push {cls:=.type "range",data:=.fields #[.int lo t,.int hi u,.int 1 v]}).objs.size],_,_,H,rfl,
    I1.kept (t':=tk) fun b o e=>Heap.get?_push_of_some _ e,ztw _ lo (hi-lo).toNat,?_,fun b hb=>?_,q⟩
  · have e1:lo+((0:Nat):Int)*1=lo:=by simp
    have e2:(((hi-lo).toNat:Nat):Int)-((0:Nat):Int)=Builtin.Range.rangeSize lo hi 1:=by rw[rangeSize_one];split <;> omega
    show IsRangeIter _ _ (lo+((0:Nat):Int)*1) ((((hi-lo).toNat:Nat):Int)-((0:Nat):Int)) 1;rw[e1,e2];exact Heap.get?_push_size _ rfl
  · have e:b=(s.heap.push {cls:=.type "range",data:=.fields #[.int lo t,.int hi u,.int 1 v]}).objs.size:=by simpa using hb
    subst e;exact I1.zj (aq _) (I1.eB.fresh (aq _))
def BG(ta:TA):TI:=fun σ H R=>ta σ H fun vs H1=>∃j:Int,vs=[.int j]/\-(2^62)<=j/\j<2^62/\R (IA 0 j.toNat) H1
def Eb(ta:TA):TI:=fun σ H R=>ta σ H fun vs H1=>∃i j:Int,vs=[.int i,.int j]/\(-(2^62)<=i/\i<2^62/\-(2^62)<=j/\j<2^62)/\R (IA i (j-i).toNat) H1
theorem Yv{a:Expr}{ta:TA}{p pos:Pos}(hg:Gl X "range")(hm:X.mg "range"=none)(ha:PA X [a] ta)(hs:starEach [a] X.env=[(false,eval a X.env)]:=by rfl):PI X tg (.Call (.Name "range" p) [a] [] pos) (BG ta):=by
 intro ah s σ H R I h;refine Call_ (J4 I hg hm boot_range (rV (eJ (ha pos ah s σ H _ I h) fun us s1⟨vs,H1,I1,r1,q1⟩=>?_) hs rfl));obtain⟨j,e,q1,q2,q⟩:=q1;subst e;cases r1 with
 |cons r rr=>
  cases rr;obtain⟨t,rfl⟩:=r
  exact call_range_1 (zxo I1 (by omega) (by omega) q1 q2 (by simpa using q))
def M5(wi:TI)(g:TG)(tb:TS):TS:=fun D σ H=>wi σ H fun J H1=>∃W:Nat->Nat->St->Hp->Prop,(∃m,W 0 m σ H1)/\∀i m σ H,W i m σ H->
 (J.stop i H/\D.nx σ H)\/(J.go i H/\∃N:St->Hp->Prop,(∀σ' H',N σ' H'->∃m',m' < m/\W (i+1) m' σ' H')/\∀x H',J.Ih i H x H'->g x σ H' fun σ2 H2=>tb {D with nx:=N,ct:=N,bk:=D.nx} σ2 H2)
def Io(fp:List Addr)(h:Heap):List (Addr×Obj):=fp.filterMap fun b=>(h.get? b).map fun o=>(b,o)
theorem Fv{fp:List Addr}{h:Heap}{b:Addr}{o:Obj}(hb:b∈fp)(e:h.get? b=some o):(b,o)∈Io fp h:=eU.mpr ⟨b,hb,by rw[e];rfl⟩
theorem zuv{fp:List Addr}{h:Heap}{p:Addr×Obj}(hp:p∈Io fp h):p.1∈fp/\h.get? p.1=some p.2:=by
 obtain⟨b,hb,e⟩:=eU.mp hp;cases q:h.get? b with
 |none=>rw[q]at e;cases e
 |some o=>
  rw[q]at e;have e':(b,o)=p:=ak e;subst e';exact⟨hb,q⟩
theorem Inv.pinned{ah:List (Addr×Obj)}{σ:St}{H:Hp}{s:Shared}{fp:List Addr}(I:Inv X ah σ H s)(hf:∀b∈fp,rP X ah H b)(ho:∀b∈fp,∃o,s.heap.get? b=some o/\∀v,o.data≠.cell v):Inv X (ah++Io fp s.heap) σ H s:=
 I.BQ fun p hp=>(ay.mp hp).elim (fun z=>I.pin p (aI _ z)) fun z=>by
  obtain⟨hb,e⟩:=zuv z;obtain⟨f0,f1,f2,_⟩:=hf p.1 hb;obtain⟨o,e',d⟩:=ho p.1 hb;rw[e]at e';cases e'
  exact⟨e,f0,f1,f2,d⟩
theorem Inv.i7{ah pl:List (Addr×Obj)}{σ:St}{H:Hp}{s:Shared}(I:Inv X (ah++pl) σ H s):Inv X ah σ H s:=I.BQ fun p hp=>I.pin p (aI _ (eZ _ hp))
theorem DE{iter:Expr}{body:List Stmt}{wi:TI}{g:TG}{tb:TS}{pos:Pos}(hp:PassesOwn (model X.prog X.w) X.A X.env X.xe)(hc:X.calm=true)(hi:PI X tg iter wi)(hg:PG X tg g)(hb:ud X body tb)(hs:∀x,foldedSetIterable iter X.env x=pure x:=by intro _;rfl):PS X (.For tg iter body [] pos) (M5 wi g tb):=by
  intro ah s σ H D I h;refine wpAny_For (eJ (hi ah s σ H _ I h) fun v s1 h1=>eJ h1 fun Oo s2 h2=>?_) hs;obtain⟨it,fp,tn,J,H2,e,I2,T,JM,f2,W,⟨m0,w0⟩,sJ⟩:=h2;subst e;have mO:∀{H':Hp},(∀b∈fp,H' b=none)->∀b∈fp,rP X ah H' b:=fun hn b hb=>⟨hn b hb,(f2 b hb).2⟩;refine codeAny_forLoop_any (fun n s'=>∃i σ' H',Inv X ah σ' H' s'/\tn i s'.heap/\(∀b∈fp,H' b=none)/\W i n σ' H') ?_ m0 ⟨0,σ,H2,I2,JM,fun b hb=>(f2 b hb).1,w0⟩;rintro n s3 ⟨i,σ3,H3,I3,HV,BB,w3⟩;rcases sJ i n σ3 H3 w3 with⟨stop,qn⟩ |⟨go,N,hN,step⟩
  · refine wpAny_passesOwn hp (eJ (T.done X rfl rfl rfl hc i ah s3 σ3 H3 X.xe I3 (mO BB) HV stop) fun r s4⟨hr,I4⟩=>?_);subst hr;exact wpAny_execs_nil ⟨σ3,H3,I4,qn⟩
  · refine wpAny_passesOwn hp (eJ (T.item X rfl rfl rfl hc i ah s3 σ3 H3 X.xe I3 (mO BB) HV go) fun r s4⟨u,hr,h4⟩=>?_);subst hr;refine wpAny_passesOwn hp (eJ h4 fun _ s5⟨x,H5,I5,r5,y5,z8,DV⟩=>?_);have K2:=I5.pinned (mO DV) (T.obj _ _ z8);refine wpAny_passesOwn hp (eJ (hg _ s5 σ3 H5 x u _ K2 r5 (step x H5 y5)) fun _ s6⟨σ6,H6,I6,q6⟩=>?_);refine wpAny_passesOwn hp (eJ (hb _ s6 σ6 H6 _ I6 q6) fun f s7 q7=>?_);have again:∀{σ7:St}{H7:Hp},Inv X (ah++Io fp s5.heap) σ7 H7 s7->N σ7 H7->∃m,m<n/\∃i σ' H',Inv X ah σ' H' s7/\tn i s7.heap/\(∀b∈fp,H' b=none)/\W i m σ' H':=fun{σ7 H7} I7 n7=>by obtain⟨m',hm,w7⟩:=hN σ7 H7 n7;refine⟨m',hm,i+1,σ7,H7,I7.i7,T.keep _ _ _ z8 fun b hb o e=>(I7.pin (b,o) (aI _ (aI _ (Fv hb e)))).1,fun b hb=>?_,w7⟩;obtain⟨o,e,d⟩:=T.obj _ _ z8 b hb;exact(I7.pin (b,o) (aI _ (aI _ (Fv hb e)))).2.1
    cases f with
    |next=>obtain⟨σ7,H7,I7,n7⟩:=q7;exact again I7 n7
    |cont=>obtain⟨σ7,H7,I7,n7⟩:=q7;exact again I7 n7
    |brk=>obtain⟨σ7,H7,I7,q7⟩:=q7;exact⟨σ7,H7,I7.i7,q7⟩
    |ret v=>obtain⟨x7,σ7,H7,I7,r7,q7⟩:=q7;exact⟨x7,σ7,H7,I7.i7,r7,q7⟩
end
theorem GR{K:aa}{a:Addr}{xs:List V}{g:TG}{tb:TS}{D:Ends}{σ:St}{H:Hp}(Pv:Nat->St->Hp->Prop)(h0:Pv 0 σ H)(hl:∀i σ H,i<=xs.length->Pv i σ H->j1 K H a xs)(hs:∀i x σ H,xs[i]?=some x->Pv i σ H->g x σ H fun σ2 H2=>tb {D with nx:=Pv (i+1),ct:=Pv (i+1),bk:=D.nx} σ2 H2)(hd:∀σ H,Pv xs.length σ H->D.nx σ H):
    ∃W:Nat->Nat->St->Hp->Prop,(∃m,W 0 m σ H)/\∀i m σ H,W i m σ H->
      ((FH K a).stop i H/\D.nx σ H)\/((FH K a).go i H/\∃N:St->Hp->Prop,(∀σ' H',N σ' H'->∃m',m' < m/\W (i+1) m' σ' H')/\∀x H',(FH K a).Ih i H x H'->g x σ H' fun σ2 H2=>tb {D with nx:=N,ct:=N,bk:=D.nx} σ2 H2):=by
  refine⟨fun i m σ H=>m=xs.length-i/\i<=xs.length/\Pv i σ H,⟨xs.length,by simp,bW _,h0⟩,?_⟩;rintro i m σ H ⟨rfl,hi,p⟩;have q:=hl i σ H hi p;by_cases jT:i<xs.length
  · refine .inr ⟨⟨xs,xs[i],q,by simp[jT]⟩,Pv (i+1),fun σ' H' p'=>⟨xs.length-(i+1),by omega,rfl,jT,p'⟩,fun x H' y=>?_⟩;obtain⟨e,y⟩:=y;subst e;exact hs i x σ _ (y xs q) p
  · have e:i=xs.length:=by omega
    subst e;exact .inl ⟨⟨xs,q,aq _⟩,hd σ H p⟩
theorem R5{K:aa}{a:Addr}{xs:List V}{g:TG}{tb:TS}{D:Ends}{σ:St}{H:Hp}(Pv:Nat->St->Hp->Prop)(h0:Pv 0 σ H)(hl:∀i σ H,i<=xs.length->Pv i σ H->uF K H a xs)(hs:∀i x σ H,xs[i]?=some x->Pv i σ H->g x σ H fun σ2 H2=>tb {D with nx:=Pv (i+1),ct:=Pv (i+1),bk:=D.nx} σ2 H2)(hd:∀σ H,Pv xs.length σ H->D.nx σ H):
    ∃W:Nat->Nat->St->Hp->Prop,(∃m,W 0 m σ H)/\∀i m σ H,W i m σ H->
      ((K4 K a).stop i H/\D.nx σ H)\/((K4 K a).go i H/\∃N:St->Hp->Prop,(∀σ' H',N σ' H'->∃m',m' < m/\W (i+1) m' σ' H')/\∀x H',(K4 K a).Ih i H x H'->g x σ H' fun σ2 H2=>tb {D with nx:=N,ct:=N,bk:=D.nx} σ2 H2):=by
  refine⟨fun i m σ H=>m=xs.length-i/\i<=xs.length/\Pv i σ H,⟨xs.length,by simp,bW _,h0⟩,?_⟩;rintro i m σ H ⟨rfl,hi,p⟩;have q:=hl i σ H hi p;by_cases jT:i<xs.length
  · refine .inr ⟨⟨xs,xs[i],q,by simp[jT]⟩,Pv (i+1),fun σ' H' p'=>⟨xs.length-(i+1),by omega,rfl,jT,p'⟩,fun x H' y=>?_⟩;obtain⟨e,y⟩:=y;subst e;exact hs i x σ _ (y xs q) p
  · have e:i=xs.length:=by omega
    subst e;exact .inl ⟨⟨xs,q,aq _⟩,hd σ H p⟩
theorem Yw{lo:Int}{n:Nat}{g:TG}{tb:TS}{D:Ends}{σ:St}{H:Hp}(Pv:Nat->St->Hp->Prop)(h0:Pv 0 σ H)(hs:∀i σ H,i<n->Pv i σ H->g (.int (lo+i)) σ H fun σ2 H2=>tb {D with nx:=Pv (i+1),ct:=Pv (i+1),bk:=D.nx} σ2 H2)(hd:∀σ H,Pv n σ H->D.nx σ H):
    ∃W:Nat->Nat->St->Hp->Prop,(∃m,W 0 m σ H)/\∀i m σ H,W i m σ H->
      ((IA lo n).stop i H/\D.nx σ H)\/((IA lo n).go i H/\∃N:St->Hp->Prop,(∀σ' H',N σ' H'->∃m',m' < m/\W (i+1) m' σ' H')/\∀x H',(IA lo n).Ih i H x H'->g x σ H' fun σ2 H2=>tb {D with nx:=N,ct:=N,bk:=D.nx} σ2 H2):=by
  refine⟨fun i m σ H=>m=n-i/\i<=n/\Pv i σ H,⟨n,by simp,bW _,h0⟩,?_⟩;rintro i m σ H ⟨rfl,hi,p⟩;by_cases jT:i<n
  · refine .inr ⟨jT,Pv (i+1),fun σ' H' p'=>⟨n-(i+1),by omega,rfl,jT,p'⟩,fun x H' y=>?_⟩;obtain⟨e,y⟩:=y;subst e y;exact hs i σ _ jT p
  · have e:i=n:=by omega
    subst e;exact .inl ⟨aq _,hd σ H p⟩
abbrev R2:=V->V->Hp->VK->Prop
def oH(X:Cx)(f:Value->Value->Sem Value)(r:R2):Prop:=
 ∀(ah:List (Addr×Obj))(s:Shared)(σ:St)(H:Hp)(x y:V)(v u:Value)(Q:VK),Inv X ah σ H s->RelV x v->RelV y u->r x y H Q->
  wpAny (model X.prog X.w) X.A (f v u) (EP X ah σ Q) X.xe s
def PU(X:Cx)(f:Value->Sem Value)(r:V->Hp->VK->Prop):Prop:=
 ∀(ah:List (Addr×Obj))(s:Shared)(σ:St)(H:Hp)(x:V)(v:Value)(Q:VK),Inv X ah σ H s->RelV x v->r x H Q->
  wpAny (model X.prog X.w) X.A (f v) (EP X ah σ Q) X.xe s
def lT(X:Cx)(f:Value)(r:List V->Hp->VK->Prop):Prop:=
 ∀(ah:List (Addr×Obj))(s:Shared)(σ:St)(H:Hp)(xs:List V)(us:List Value)(Q:VK),Inv X ah σ H s->b8 xs us->r xs H Q->
  wpAny (model X.prog X.w) X.A (call f us) (EP X ah σ Q) X.xe s
def PR(X:Cx)(r:V->Hp->(Bool->Hp->Prop)->Prop):Prop:=
 ∀(ah:List (Addr×Obj))(s:Shared)(σ:St)(H:Hp)(x:V)(v:Value)(Q:Bool->Hp->Prop),Inv X ah σ H s->RelV x v->r x H Q->
  wpAny (model X.prog X.w) X.A (truthy v) (TP X ah σ Q) X.xe s
def JS(r:R2)(ta tb:TE):TE:=fun σ H Q=>ta σ H fun x H1=>tb σ H1 fun y H2=>r x y H2 Q
def OJ(r:V->Hp->VK->Prop)(ta:TE):TE:=fun σ H Q=>ta σ H fun x H1=>r x H1 Q
def rI(C:Int->Int->Prop)(g:Int->Int->V):R2:=fun x y H Q=>∃i j,x= .int i/\y= .int j/\C i j/\Q (g i j) H
def Fk(g:Int->Int->V):R2:=fun x y H Q=>∃i j,x= .int i/\y= .int j/\Q (g i j) H
def rU(g:Int->V):V->Hp->VK->Prop:=fun x H Q=>∃i,x= .int i/\Q (g i) H
section
variable{X:Cx}{a b c:Expr}{ta tb tc:TE}{pos:Pos}
theorem IL(ha:PE X a ta)(hb:PE X b tb){ah:List (Addr×Obj)}{s:Shared}{σ:St}{H:Hp}{R:V->V->Hp->Prop}(I:Inv X ah σ H s)(h:ta σ H fun x H1=>tb σ H1 fun y H2=>R x y H2){Q:Value->Shared->Prop}{f:Value->Value->Sem Value}(hf:∀v u s2 x y H2,Inv X ah σ H2 s2->RelV x v->RelV y u->R x y H2->wpAny (model X.prog X.w) X.A (f v u) Q X.xe s2):
    wpAny (model X.prog X.w) X.A (eval a X.env) (fun v s₁=>wpAny (model X.prog X.w) X.A (eval b X.env) (fun u s₂=>wpAny (model X.prog X.w) X.A (f v u) Q X.xe s₂) X.xe s₁) X.xe s:=by
  refine eJ (ha ah s σ H _ I h) fun v s1⟨x,H1,I1,r1,q1⟩=>?_;refine eJ (hb ah s1 σ H1 _ I1 q1) fun u s2⟨y,H2,I2,r2,q2⟩=>?_;exact hf v u s2 x y H2 I2 r1 r2 q2
theorem aM{op:Operator}{r:R2}(ho:oH X (binaryOp op) r)(ha:PE X a ta)(hb:PE X b tb):PE X (.BinOp a op b pos) (JS r ta tb):=by intro ah s σ H Q I h;exact wpAny_BinOp (IL ha hb I h fun v u s2 x y H2 I2 rx ry q=>ho ah s2 σ H2 x y v u Q I2 rx ry q)
theorem HC{op:UnaryOp}{r:V->Hp->VK->Prop}(ho:PU X (unaryOp op) r)(ha:PE X a ta):PE X (.UnaryOp op a pos) (OJ r ta):=by intro ah s σ H Q I h;exact UnaryOp_ (eJ (ha ah s σ H _ I h) fun v s1⟨x,H1,I1,r1,q1⟩=>ho ah s1 σ H1 x v Q I1 r1 q1)
theorem Kw{f:Value->Value->Sem Value}{C:Int->Int->Prop}{g:Int->Int->Int}(rule:∀(i j:Int)(t u:Tok)(s:Shared)(Q:Value->Shared->Prop)(E:Value->Shared->Prop),C i j->Q (.int (g i j) s.toks) {s with toks:=s.toks+1}->wpAny (model X.prog X.w) X.A (f (.int i t) (.int j u)) Q E s):
    oH X f (rI C fun i j=>.int (g i j)):=by
  intro ah s σ H x y v u Q I rx ry h;obtain⟨i,j,rfl,rfl,hc,q⟩:=h;obtain⟨t,rfl⟩:=rx;obtain⟨t',rfl⟩:=ry;exact rule i j t t' s _ _ hc ⟨.int (g i j),H,I.tok _,⟨_,rfl⟩,q⟩
theorem Mf{f:Value->Value->Sem Value}{g:Int->Int->Int}(rule:∀(i j:Int)(t u:Tok)(s:Shared)(Q:Value->Shared->Prop)(E:Value->Shared->Prop),Q (.int (g i j) s.toks) {s with toks:=s.toks+1}->wpAny (model X.prog X.w) X.A (f (.int i t) (.int j u)) Q E s):
    oH X f (Fk fun i j=>.int (g i j)):=by
  intro ah s σ H x y v u Q I rx ry h;obtain⟨i,j,rfl,rfl,q⟩:=h;obtain⟨t,rfl⟩:=rx;obtain⟨t',rfl⟩:=ry;exact rule i j t t' s _ _ ⟨.int (g i j),H,I.tok _,⟨_,rfl⟩,q⟩
theorem Jv{f:Value->Value->Sem Value}{g:Int->Int->Bool}(rule:∀(i j:Int)(t u:Tok)(s:Shared)(Q:Value->Shared->Prop)(E:Value->Shared->Prop),Q (.bool (g i j)) s->wpAny (model X.prog X.w) X.A (f (.int i t) (.int j u)) Q E s):
    oH X f (Fk fun i j=>.bl (g i j)):=by
  intro ah s σ H x y v u Q I rx ry h;obtain⟨i,j,rfl,rfl,q⟩:=h;obtain⟨t,rfl⟩:=rx;obtain⟨t',rfl⟩:=ry;exact rule i j t t' s _ _ ⟨.bl (g i j),H,I,rfl,q⟩
def FA(i j:Int):Prop:=0<=j/\j<=1000000/\i.natAbs<2^64
def Ir(i j:Int):Prop:=(-(2^64)<i/\i<2^64)\/(-(2^64)<j/\j<2^64)
theorem Ir.ok{i j:Int}(h:Ir i j):IntMulOk i j:=by
 rcases h with⟨h1,h2⟩ |⟨h1,h2⟩
 ·exact .of_left (intBits_le_64 h1 h2)
 ·exact .of_right (intBits_le_64 h1 h2)
theorem sL:oH X (binaryOp .Add) (Fk fun i j=>.int (i+j)):=Mf fun _ _ _ _ _ _ _ q=>add_int q
theorem Fy:oH X (binaryOp .Sub) (Fk fun i j=>.int (i-j)):=Mf fun _ _ _ _ _ _ _ q=>sub_int q
theorem To:oH X (binaryOp .Mult) (rI Ir fun i j=>.int (i*j)):=Kw fun _ _ _ _ _ _ _ hc q=>mul_int q hc.ok
theorem rE:oH X (binaryOp .Mod) (rI (fun _ j=>0<j) fun i j=>.int (i % j)):=Kw fun i j _ _ _ _ _ hc q=>by have h1:(0:Int)<j:=hc;exact mod_int' (by omega) (by rw[Int.fmod_eq_emod_of_nonneg i (by omega)];exact q)
theorem Pk:oH X (binaryOp .Pow) (rI FA fun i j=>.int (i^j.toNat)):=Kw fun _ _ _ _ _ _ _ hc q=>pow_int_small hc.1 hc.2.1 hc.2.2 q
theorem unI{f:Value->Sem Value}{g:Int->Int}(rule:∀(i:Int)(t:Tok)(s:Shared)(Q:Value->Shared->Prop)(E:Value->Shared->Prop),Q (.int (g i) s.toks) {s with toks:=s.toks+1}->wpAny (model X.prog X.w) X.A (f (.int i t)) Q E s):
    PU X f (rU fun i=>.int (g i)):=by
  intro ah s σ H x v Q I rx h;obtain⟨i,rfl,q⟩:=h;obtain⟨t,rfl⟩:=rx;exact rule i t s _ _ ⟨.int (g i),H,I.tok _,⟨_,rfl⟩,q⟩
theorem zyy:PU X (unaryOp .USub) (rU fun i=>.int (-i)):=unI fun _ _ _ _ _ q=>neg_int q
end
def Ev:V->V->Bool
 | .b7,.b7=>true| .b7,.int _=>true| .int _,.b7=>true| .b7,.bl _=>true| .bl _,.b7=>true| .b7,.str _=>true| .str _,.b7=>true
 | .int _,.int _=>true| .bl _,.bl _=>true| .str _,.str _=>true| .Bs _,.Bs _=>true
 | .int _,.str _=>true| .str _,.int _=>true| .bl _,.str _=>true| .str _,.bl _=>true
 |_,_=>false
def Ou:R2:=fun x y H Q=>Ev x y=true/\Q (.bl (decide (x=y))) H
def Ow:R2:=fun x y H Q=>Ev x y=true/\Q (.bl (!decide (x=y))) H
theorem ZK{i j:Int}:decide (V.int i=V.int j)=(i ==j):=by rw[fk];simp
theorem zyz{i j:Bool}:decide (V.bl i=V.bl j)=(i ==j):=by rw[fk];simp
theorem ZL{i j:Str}:decide (V.str i=V.str j)=(i ==j):=by rw[fk];simp
theorem ZM{i j:Array UInt8}:decide (V.Bs i=V.Bs j)=(i.toList ==j.toList):=by
 rw[fk];cases i
 cases j;simp
section
variable{X:Cx}{a b c:Expr}{ta tb tc:TE}{pos:Pos}
theorem pH{ah:List (Addr×Obj)}{σ:St}{H:Hp}{s:Shared}{Q:VK}{k k':Bool}(I:Inv X ah σ H s)(q:Q (.bl k) H)(e:k=k'):EP X ah σ Q (.bool k') s:=by subst e;exact⟨.bl k,H,I,rfl,q⟩
theorem ji:oH X (compareOp .Eq) Ou:=by
 intro ah s σ H x y v u Q I rx ry h;obtain⟨hs,q⟩:=h;cases x with
 |b7=>
  cases rx;cases y with
  |b7=>cases ry;exact PySem.EqNone.eq_none_none (pH I q (by simp))
  |bl j=>cases ry;exact PySem.EqNone.eq_none_bool (pH I q (by simp))
  |int j=>obtain⟨t',rfl⟩:=ry;exact PySem.EqNone.eq_none_int (pH I q (by simp))
  |str j=>obtain⟨t',rfl⟩:=ry;exact PySem.EqNone.eq_none_str (pH I q (by simp))
  |_=>exact absurd (show false=true from hs) aW
 |bl i=>
  cases rx;cases y with
  |b7=>cases ry;exact PySem.EqNone.eq_bool_none (pH I q (by simp))
  |bl j=>cases ry;exact eq_bool (pH I q zyz)
  |str j=>obtain⟨t',rfl⟩:=ry;exact PySem.EqMixed.eq_bool_str (pH I q (by simp))
  |_=>exact absurd (show false=true from hs) aW
 |int i=>
  obtain⟨t,rfl⟩:=rx;cases y with
  |b7=>cases ry;exact PySem.EqNone.eq_int_none (pH I q (by simp))
  |int j=>obtain⟨t',rfl⟩:=ry;exact eq_int (pH I q ZK)
  |str j=>obtain⟨t',rfl⟩:=ry;exact PySem.EqMixed.eq_int_str (pH I q (by simp))
  |_=>exact absurd (show false=true from hs) aW
 |str i=>
  obtain⟨t,rfl⟩:=rx;cases y with
  |b7=>cases ry;exact PySem.EqNone.eq_str_none (pH I q (by simp))
  |bl j=>cases ry;exact PySem.EqMixed.eq_str_bool (pH I q (by simp))
  |int j=>obtain⟨t',rfl⟩:=ry;exact PySem.EqMixed.eq_str_int (pH I q (by simp))
  |str j=>obtain⟨t',rfl⟩:=ry;exact eq_str (pH I q ZL)
  |_=>exact absurd (show false=true from hs) aW
 |Bs i=>
  obtain⟨t,rfl⟩:=rx;cases y with
  |Bs j=>obtain⟨t',rfl⟩:=ry;exact PySem.W.eq_bytes (pH I q ZM)
  |_=>exact absurd (show false=true from hs) aW
 |_=>cases y <;> exact absurd (show false=true from hs) aW
theorem sW:oH X (compareOp .NotEq) Ow:=by
 intro ah s σ H x y v u Q I rx ry h;obtain⟨hs,q⟩:=h;cases x with
 |b7=>
  cases rx;cases y with
  |b7=>cases ry;exact PySem.EqNone.ne_none_none (pH I q (by simp))
  |bl j=>cases ry;exact PySem.EqNone.ne_none_bool (pH I q (by simp))
  |int j=>obtain⟨t',rfl⟩:=ry;exact PySem.EqNone.ne_none_int (pH I q (by simp))
  |str j=>obtain⟨t',rfl⟩:=ry;exact PySem.EqNone.ne_none_str (pH I q (by simp))
  |_=>exact absurd (show false=true from hs) aW
 |bl i=>
  cases rx;cases y with
  |b7=>cases ry;exact PySem.EqNone.ne_bool_none (pH I q (by simp))
  |bl j=>cases ry;exact ne_bool (pH I q (congrArg not zyz))
  |str j=>obtain⟨t',rfl⟩:=ry;exact PySem.EqMixed.ne_bool_str (pH I q (by simp))
  |_=>exact absurd (show false=true from hs) aW
 |int i=>
  obtain⟨t,rfl⟩:=rx;cases y with
  |b7=>cases ry;exact PySem.EqNone.ne_int_none (pH I q (by simp))
  |int j=>obtain⟨t',rfl⟩:=ry;exact ne_int (pH I q (congrArg not ZK))
  |str j=>obtain⟨t',rfl⟩:=ry;exact PySem.EqMixed.ne_int_str (pH I q (by simp))
  |_=>exact absurd (show false=true from hs) aW
 |str i=>
  obtain⟨t,rfl⟩:=rx;cases y with
  |b7=>cases ry;exact PySem.EqNone.ne_str_none (pH I q (by simp))
  |bl j=>cases ry;exact PySem.EqMixed.ne_str_bool (pH I q (by simp))
  |int j=>obtain⟨t',rfl⟩:=ry;exact PySem.EqMixed.ne_str_int (pH I q (by simp))
  |str j=>obtain⟨t',rfl⟩:=ry;exact ne_str (pH I q (congrArg not ZL))
  |_=>exact absurd (show false=true from hs) aW
 |Bs i=>
  obtain⟨t,rfl⟩:=rx;cases y with
  |Bs j=>obtain⟨t',rfl⟩:=ry;exact PySem.W.ne_bytes (pH I q (congrArg not ZM))
  |_=>exact absurd (show false=true from hs) aW
 |_=>cases y <;> exact absurd (show false=true from hs) aW
theorem qU:oH X (compareOp .Lt) (Fk fun i j=>.bl (decide (i<j))):=Jv fun _ _ _ _ _ _ _ q=>lt_int q
theorem qT:oH X (compareOp .LtE) (Fk fun i j=>.bl (decide (i<=j))):=Jv fun _ _ _ _ _ _ _ q=>le_int q
theorem BL:oH X (compareOp .Gt) (Fk fun i j=>.bl (decide (j<i))):=Jv fun _ _ _ _ _ _ _ q=>gt_int q
theorem UY:oH X (compareOp .Is) (fun x y H Q=>y= .b7/\Q (.bl (decide (x= .b7))) H):=by
 intro ah s σ H x y v u Q I rx ry h;obtain⟨rfl,q⟩:=h;cases ry
 refine is_none_gen (pH I q ?_);cases x <;> first
  |(cases rx;rfl)
  |(obtain⟨t,rfl⟩:=rx;rfl)
theorem GV:oH X (compareOp .IsNot) (fun x y H Q=>y= .b7/\Q (.bl (!decide (x= .b7))) H):=by
 intro ah s σ H x y v u Q I rx ry h;obtain⟨rfl,q⟩:=h;cases ry
 refine isnot_none_gen (pH I q ?_);cases x <;> first
  |(cases rx;rfl)
  |(obtain⟨t,rfl⟩:=rx;rfl)
theorem jL(b:Expr){op:CmpOp}(h:op≠.In:=by decide)(h2:op≠.NotIn:=by decide):behindInMarks op b=false:=by
 have e1:(op ==CmpOp.In)=false:=by cases op <;> first|rfl|exact absurd rfl h
 have e2:(op ==CmpOp.NotIn)=false:=by cases op <;> first|rfl|exact absurd rfl h2
 cases b <;> simp[behindInMarks,e1,e2]
theorem GW{op:CmpOp}{r:R2}(ho:oH X (compareOp op) r)(ha:PE X a ta)(hb:PE X b tb)(hm:behindInMarks op b=false):PE X (.Compare a [op] [b] pos) (JS r ta tb):=by intro ah s σ H Q I h;exact wpAny_Compare1 (IL ha hb I h fun v u s2 x y H2 I2 rx ry q=>ho ah s2 σ H2 x y v u Q I2 rx ry q) hm
def Ab(t:TE):TT:=fun σ H Q=>t σ H fun x H'=>∃k,x= .bl k/\Q k H'
theorem j7{op:CmpOp}{r:R2}(ho:oH X (compareOp op) r)(ha:PE X a ta)(hb:PE X b tb)(hm:behindInMarks op b=false):PT X (.Compare a [op] [b] pos) (Ab (JS r ta tb)):=by
 intro ah s σ H Q I h;refine wpAny_isTrue_Compare1 (eJ (ha ah s σ H _ I h) fun v s1⟨x,H1,I1,r1,q1⟩=>eJ (hb ah s1 σ H1 _ I1 q1) fun u s2⟨y,H2,I2,r2,q2⟩=>
  eJ (ho ah s2 σ H2 x y v u _ I2 r1 r2 q2) fun c s3⟨z,H3,I3,r3,k,e,q3⟩=>?_) hm;subst e;cases r3
 exact wpAny_truthy_bool ⟨H3,I3,q3⟩
def vj(r r':R2)(ta tb tc:TE):TE:=fun σ H Q=>ta σ H fun x H1=>tb σ H1 fun y H2=>r x y H2 fun z H3=>∃k,z= .bl k/\
 (if k=true then tc σ H3 fun w' H4=>r' y w' H4 Q else Q (.bl false) H3)
theorem zxp{op Ju:CmpOp}{r r':R2}(ho:oH X (compareOp op) r)(Ai:oH X (compareOp Ju) r')(ha:PE X a ta)(hb:PE X b tb)(hc:PE X c tc)(hm:lastMarks [op,Ju] [b,c]=false:=by with_unfolding_all rfl):PE X (.Compare a [op,Ju] [b,c] pos) (vj r r' ta tb tc):=by
  intro ah s σ H Q I h;refine Compare_chain (eJ (ha ah s σ H _ I h) fun v s1⟨x,H1,I1,r1,q1⟩=>chain_link (eJ (hb ah s1 σ H1 _ I1 q1) fun u s2⟨y,H2,I2,r2,q2⟩=>
    eJ (ho ah s2 σ H2 x y v u _ I2 r1 r2 q2) fun d s3⟨z,H3,I3,r3,k,e,q3⟩=>?_)) hm;subst e;cases r3
  refine wpAny_truthy_bool ?_;cases k with
  |false=>exact ite_ff ⟨.bl false,H3,I3,rfl,q3⟩
  |true=>exact ite_tt (chain_last (eJ (hc ah s3 σ H3 _ I3 q3) fun w' s4⟨z',H4,I4,r4,q4⟩=>Ai ah s4 σ H4 y z' u w' Q I4 r2 r4 q4))
theorem UC{op Ju:CmpOp}{r r':R2}(ho:oH X (compareOp op) r)(Ai:oH X (compareOp Ju) r')(ha:PE X a ta)(hb:PE X b tb)(hc:PE X c tc)(hm:lastMarks [op,Ju] [b,c]=false:=by with_unfolding_all rfl):PT X (.Compare a [op,Ju] [b,c] pos) (Ab (vj r r' ta tb tc)):=by
  intro ah s σ H Q I h;refine isTrue_chain (eJ (ha ah s σ H _ I h) fun v s1⟨x,H1,I1,r1,q1⟩=>test_link (eJ (hb ah s1 σ H1 _ I1 q1) fun u s2⟨y,H2,I2,r2,q2⟩=>
    eJ (ho ah s2 σ H2 x y v u _ I2 r1 r2 q2) fun d s3⟨z,H3,I3,r3,k,e,q3⟩=>?_)) hm;subst e;cases r3
  refine wpAny_truthy_bool ?_;cases k with
  |false=>
    obtain⟨k',e',q'⟩:=q3;cases e'
    exact ite_ff ⟨H3,I3,q'⟩
  |true=>
    refine ite_tt (test_last (eJ (hc ah s3 σ H3 _ I3 q3) fun w' s4⟨z',H4,I4,r4,q4⟩=>eJ (Ai ah s4 σ H4 y z' u w' _ I4 r2 r4 q4) fun d' s5⟨z2,H5,I5,r5,k2,e2,q5⟩=>?_));subst e2;cases r5
    exact wpAny_truthy_bool ⟨H5,I5,q5⟩
def F0(K:aa)(x:V)(H:Hp)(k:Bool):Prop:=
 match x with
 | .b7=>k=false
 | .bl b=>k=b
 | .int i=>k=(i !=0)
 | .str y=>y.length<=sizeLine/\k=((y.length:Int) !=0)
 | .Bs y=>y.size<=sizeLine/\k=((y.size:Int) !=0)
 | .ref p=>(∃xs,j1 K H p xs/\k= !xs.isEmpty)\/(∃xs,uF K H p xs/\k= !xs.isEmpty)\/∃kvs,H p=some (.dK kvs)/\k= !kvs.isEmpty
 |_=>False
theorem ztx{κ:Type}{kvs:List (κ×V)}{vs:List (κ×Value)}(r:KV kvs vs):(!vs.isEmpty)= !kvs.isEmpty:=by cases r <;> rfl
theorem Ye{xs:List V}{c7:List Value}(r:b8 xs c7):(!c7.toArray.isEmpty)= !xs.isEmpty:=by cases r <;> simp
theorem KS:(sizeLine:Nat)<2^63:=by rw[sizeLine_eq];decide
theorem Tp:PR X (fun x H Q=>∃k,F0 X.K x H k/\Q k H):=by
 intro ah s σ H x v Q I rx h;obtain⟨k,e,q⟩:=h;have hl:=KS;have hs:sizeLine=16777216:=sizeLine_eq;cases x with
 |b7=>
  cases rx;have e':k=false:=e
  subst e';exact truthy_none ⟨H,I,q⟩
 |bl b=>
  cases rx;have e':k=b:=e
  subst e';exact wpAny_truthy_bool ⟨H,I,q⟩
 |int i=>
  obtain⟨t,rfl⟩:=rx;have e':k=(i !=0):=e;subst e';exact PySem.P.truthy_int ⟨H,I,q⟩
 |str y=>
  obtain⟨t,rfl⟩:=rx;obtain⟨hy,e'⟩:y.length<=sizeLine/\k=((y.length:Int) !=0):=e;subst e';exact PySem.P.truthy_str (by omega) ⟨H,I.tok _,q⟩
 |Bs y=>
  obtain⟨t,rfl⟩:=rx;obtain⟨hy,e'⟩:y.size<=sizeLine/\k=((y.size:Int) !=0):=e;subst e';exact PySem.W.truthy_bytes (by omega) ⟨H,I.tok _,q⟩
 |ref p=>
  cases rx;have e':(∃xs,j1 X.K H p xs/\k= !xs.isEmpty)\/(∃xs,uF X.K H p xs/\k= !xs.isEmpty)\/∃kvs,H p=some (.dK kvs)/\k= !kvs.isEmpty:=e
  rcases e' with⟨xs,hx,e'⟩ |⟨xs,hx,e'⟩ |⟨kvs,hx,e'⟩
  ·subst e';obtain⟨c7,r,pl,hz⟩:=I.list hx;have fK:=r.length;exact wpAny_truthy_list pl.isList (by simp only[aX];omega) ⟨H,I.tok _,by rw[Ye r];exact q⟩
  ·subst e';obtain⟨c7,r,pl,hz⟩:=I.tuple hx;have fK:=r.length;exact truthy_tuple pl (by simp only[aX];omega) ⟨H,I.tok _,by rw[Ye r];exact q⟩
  ·subst e';obtain⟨hz,hS,vs,r,m⟩:kvs.length<=sizeLine/\(p ==sysModules)=false/\∃vs,KV kvs vs/\s.heap.DictOf (mw X.prog X.w) p vs:=I.eB p _ hx;have fK:kvs.length=vs.length:=Paired.length r;exact wpAny_truthy_dict hS m (by omega) ⟨H,I.tok _,by rw[ztx r];exact q⟩
 |_=>exact(show False from e).elim
theorem zxq(ha:PE X a ta)(he:∀pD,isTrue a X.env pD=(do let v <-pD;standAt a.pos;holding [v] (truthy v))):
    PT X a (fun σ H Q=>ta σ H fun x H'=>∃k,F0 X.K x H' k/\Q k H'):=by
  intro ah s σ H Q I h;exact isTrue_plain (eJ (ha ah s σ H _ I h) fun v s1⟨x,H1,I1,r1,q1⟩=>Tp ah s1 σ H1 x v Q I1 r1 q1) (he _)
theorem Us:oH X (binaryOp .Add) (fun x y H Q=>∃i j,x= .str i/\y= .str j/\i.length+j.length<=sizeLine/\Q (.str (i++j)) H):=by intro ah s σ H x y v u Q I rx ry h;obtain⟨i,j,rfl,rfl,hz,q⟩:=h;obtain⟨t,rfl⟩:=rx;obtain⟨t',rfl⟩:=ry;exact add_str (fun t' tk=>⟨.str (i++j),H,I.tok _,⟨_,rfl⟩,q⟩) hz
theorem vals1{x:V}{us:List Value}(r:b8 [x] us):∃u,us=[u]/\RelV x u:=by
 cases r with
 |cons r1 r2=>cases r2;exact⟨_,rfl,r1⟩
theorem vals2{x y:V}{us:List Value}(r:b8 [x,y] us):∃u w',us=[u,w']/\RelV x u/\RelV y w':=by
 cases r with
 |cons r1 r2=>
  cases r2 with
  |cons r3 r4=>cases r4;exact⟨_,_,rfl,r1,r3⟩
theorem Zb:lT X (.builtin "abs") (fun xs H Q=>∃i,xs=[.int i]/\Q (.int (if i<0 then -i else i)) H):=by intro ah s σ H xs us Q I r h;obtain⟨i,rfl,q⟩:=h;obtain⟨u,rfl,t,rfl⟩:=vals1 r;exact call_abs_int fun u tk=>⟨.int (if i<0 then -i else i),H,I.tok _,⟨_,rfl⟩,q⟩
theorem zva(hc:X.calm=true):lT X (.builtin "max") (fun xs H Q=>∃i j,xs=[.int i,.int j]/\Q (.int (if j > i then j else i)) H):=by
 intro ah s σ H xs us Q I r h;obtain⟨i,j,rfl,q⟩:=h;obtain⟨u,w',rfl,⟨t,rfl⟩,⟨t',rfl⟩⟩:=vals2 r;refine max_two_ints (I.ok.hd hc) fun h' tk k=>⟨_,H,I.kept k,?_,q⟩;by_cases hj:j > i
 ·rw[if_pos hj,if_pos hj];exact⟨_,rfl⟩
 ·rw[if_neg hj,if_neg hj];exact⟨_,rfl⟩
theorem Uv(hc:X.calm=true):lT X (.builtin "min") (fun xs H Q=>∃i j,xs=[.int i,.int j]/\Q (.int (if j<i then j else i)) H):=by
 intro ah s σ H xs us Q I r h;obtain⟨i,j,rfl,q⟩:=h;obtain⟨u,w',rfl,⟨t,rfl⟩,⟨t',rfl⟩⟩:=vals2 r;refine min_two_ints (I.ok.hd hc) fun h' tk k=>⟨_,H,I.kept k,?_,q⟩;by_cases hj:j<i
 ·rw[if_pos hj,if_pos hj];exact⟨_,rfl⟩
 ·rw[if_neg hj,if_neg hj];exact⟨_,rfl⟩
end
structure AA(h:Heap)(x dx C:Addr)(mA:Str->Option Value):Prop where
 obj:h.get? x=some (gc C dx)
 ns:h.Ns1 dx mA
 ne:dx≠x
theorem zvb{h:Heap}{dx:Addr}{mA:Str->Option Value}(n:h.Ns1 dx mA):∃od,h.get? dx=some od/\∀name,oJ name od=some (mA name):=by
 obtain⟨o,es,ep,ho,hd,hk,_,hm⟩:=n;refine⟨o,ho,fun name=>?_⟩;have e:=hm name;unfold nsFind findBy at e;rw[<-Array.find?_toList]at e;unfold oJ;rw[hd];dsimp only;split
 ·rename_i y q
  rw[q]at e;exact congrArg some e
 ·rename_i q
  rw[q]at e;have a:es.toList.any (·.refKey)=false:=by rw[FO];intro y hy;obtain⟨z,t,D7⟩:=hk y (Cq.mp hy);simp[DictEntry.refKey,D7]
  have a':¬es.toList.any (·.refKey)=true:=by rw[a];exact aW
  rw[if_neg a'];exact congrArg some e
theorem AA.look{h:Heap}{x dx C:Addr}{mA:Str->Option Value}(I:AA h x dx C mA):∃od,PySem.W.InstAt h x (gc C dx) C (some od)/\∀name,oJ name od=some (mA name):=
 let⟨od,ho,hl⟩:=zvb I.ns
 ⟨od,⟨I.obj,rfl,rfl,ho⟩,hl⟩
section
variable{prog:Program}{w:World}{A:Around}{E:Value->Shared->Prop}{s:Shared}{K:aa}{x dx C f:Addr}{mA:Str->Option Value}{name:Str}{v:Value}
theorem R6{Qc:Bool}{Q:Value->Shared->Prop}(X:K.In s.heap)(I:AA s.heap x dx C mA)(hg:mF K C name=true)(hh:je K C=true)(ha:aR K (.ref C) name=some none)(hv:mA name=some v)(hv':DN v=true)(h:Q v {s with toks:=s.toks+1}):
    wpAny (model prog w) A (getAttr (.ref x) name Qc) Q E s:=by
  obtain⟨od,J,hl⟩:=I.look;exact PySem.W.get_value X J (pO hg).1 (PySem.W.findObj_own hh ha rfl (by rw[hl,hv])) hv' h
theorem zxr{pl:Sem Bool}{Q:Value×List Value->Shared->Prop}(X:K.In s.heap)(I:AA s.heap x dx C mA)(hg:mF K C name=true)(hf:aR K (.ref C) name=some (some (.ref f)))(ht:ic K (.ref f)=true)(hv:mA name=none)(h:Q (.ref f,[.ref x]) s):
    wpAny (model prog w) A (getMethod (.ref x) name pl) Q E s:=by
  obtain⟨od,J,hl⟩:=I.look;exact PySem.W.method_fn X J (pO hg).1 (pO hg).2 hf (beq_iff_eq.mp ht) (by show(oJ name od).map (·.isSome)=some false;rw[hl,hv];rfl) h
theorem R7{ns:List Str}{Q:Unit->Shared->Prop}(X:K.In s.heap)(I:AA s.heap x dx C mA)(hs:aR K (.ref C) "__setattr__"=some (some (.builtin "object.__setattr__")))(hp:Dm K C=true)(ht:uC K C name=some none)(hh:je K C=true)(hw:AD mA ns)(hsz:ns.length<=sizeLine)(h:∀h',AA h' x dx C (fun y=>if y=name then some v else mA y)->Heap.SameBut dx s.heap h'->Q () {s with heap:=h',toks:=s.toks+2}):
    wpAny (model prog w) A (setAttr (.ref x) name v) Q E s:=by
  obtain⟨od,J,hl⟩:=I.look;refine PySem.W.set_plain X J hs (PySem.W.osa_open (s:={s with toks:=s.toks+1}) (r:=none) X J hp ht fun b=>?_);obtain⟨cd,hc,Qv⟩:=PySem.W.any_some hh;have hx:s.heap.get? x=some ⟨.ref C,some dx,.plain,#[]⟩:=I.obj;refine wpAny_bind (wpAny_pure (wpAny_bind (wpAny_bind (wpAny_loadPart hx (wpAny_bind (PySem.W.Looks.here (s:={s with toks:=s.toks+1}) (PySem.W.looks_clsIn X hc) ?_))))));rw[Qv];refine wpAny_pure (a:=some dx) (wpAny_bind (wpAny_pure (wpAny_bind ?_)));refine wpAny_nsSet1 (s:={s with toks:=s.toks+1}) I.ns fun h' Oa Og=>?_;obtain⟨oD,esD,epD,hoD,hdD,hcD⟩:=Oa.count (PySem.Within.cons name v hw);refine wpAny_bind (wpAny_lookBehind hoD (by rw[hdD];exact pastItsLine_dict (bO hcD (by rw[bj];omega))) ?_);exact wpAny_pure (h _ ⟨(Og.2 _ (d8 I.ne)).trans I.obj,Oa,I.ne⟩ Og)
theorem zxs{R:Result->Shared->Prop}{vs:List Value}{kw:List (Str×Value)}(X:K.In s.heap)(hm:jZ K C=true)(hi:aR K (.ref C) "__init__"=some (some (.ref f)))(hf:PySem.W.typeIn K (.ref f)=some (.type "function"))(h:codeAny (model prog w) (A.under (.builtin "type.__call__" ⟨.ref C::vs,kw⟩)) (.call (.ref f) ⟨.ref (s.heap.objs.size+1)::vs,kw⟩) (PySem.W.InitBack (s.heap.objs.size+1) R)
      {s with heap:=(s.heap.push eI).push (gc C s.heap.objs.size)}):
    codeAny (model prog w) A (.call (.ref C) ⟨vs,kw⟩) R s:=by
  obtain⟨hh,g,d,t,os⟩:=s;exact PySem.W.make_core (PySem.W.makes_of X hm) (PySem.W.looks_findIn X hi) (fun self=>PySem.W.bind_fn X self hf) (.inl rfl) h
end
def aE(f:Str)(v:V):List (Str×V)->List (Str×V)
 |[]=>[(f,v)]
 |(g,x)::r=>if g=f then(g,v)::r else(g,x)::aE f v r
theorem KC (f g:Str) (v:V):∀ fs:List (Str×V),(aE f v fs).lookup g=if g=f then some v else fs.lookup g
 | []=>by
  show jd g [(f,v)] = _
  by_cases h:g=f
  ·have hb:(g == f)=true:=beq_iff_eq.mpr h
   simp only [jd,hb,if_pos h]
  ·have hb:(g == f)=false:=beq_eq_false_iff_ne.mpr h
   simp only [jd,hb,if_neg h]
 | (k,x) :: r=>by
  have ih:=KC f g v r
  rw [show aE f v ((k,x) :: r)=(if k=f then (k,v) :: r else (k,x) :: aE f v r) from rfl]
  by_cases hk:k=f
  ·rw [if_pos hk]
   by_cases h:g=k
   ·have hb:(g == k)=true:=beq_iff_eq.mpr h
    simp only [jd,hb,if_pos (h.trans hk)]
   ·have hb:(g == k)=false:=beq_eq_false_iff_ne.mpr h
    simp only [jd,hb,if_neg (fun e:g=f=>h (e.trans hk.symm))]
  ·rw [if_neg hk]
   by_cases h:g=k
   ·have hb:(g == k)=true:=beq_iff_eq.mpr h
    simp only [jd,hb,if_neg (fun e:g=f=>hk (h.symm.trans e))]
   ·have hb:(g == k)=false:=beq_eq_false_iff_ne.mpr h
    simp only [jd,hb]
    exact ih
theorem Uw (f:Str) (v:V):∀ fs:List (Str×V),f∈(aE f v fs).map (·.1)/\∀ g,g∈fs.map (·.1)->g∈(aE f v fs).map (·.1)
 | []=>⟨by simp [aE],fun g h=>by simp at h⟩
 | (k,x) :: r=>by
  obtain ⟨i1,i2⟩:=Uw f v r
  rw [show aE f v ((k,x) :: r)=(if k=f then (k,v) :: r else (k,x) :: aE f v r) from rfl]
  by_cases hk:k=f
  ·rw [if_pos hk]
   subst hk
   exact ⟨by simp,fun g h=>by simpa using h⟩
  ·rw [if_neg hk]
   refine ⟨?_,fun g h=>?_⟩
   ·rw [au]
    exact ai _ i1
   ·rw [au] at h ⊢
    rcases ao.mp h with e | e
    ·exact ao.mpr (.inl e)
    ·exact ai _ (i2 g e)
theorem XW(f:Str)(v:V):∀fs:List (Str×V),(aE f v fs).length<=fs.length+1
 |[]=>by simp[aE]
 |(k,x)::r=>by
  have ih:=XW f v r;rw[show aE f v ((k,x)::r)=(if k=f then(k,v)::r else(k,x)::aE f v r)from rfl];by_cases hk:k=f
  ·rw[if_pos hk,bj,bj];omega
  ·rw[if_neg hk,bj,bj];omega
theorem oK.some_of{v:V}{o:Option Value}(r:oK (some v) o):∃u,o=some u/\RelV v u:=by
 cases o with
 |none=>exact(show False from r).elim
 |some u=>exact⟨u,rfl,r⟩
theorem oK.none_of{o:Option Value}(r:oK none o):o=none:=by
 cases o with
 |none=>rfl
 |some u=>exact(show False from r).elim
theorem zvc{v:V}{u:Value}(r:RelV v u):DN u=true:=by
 cases v with
 |b7=>cases(show u=Value.none from r);rfl
 |bl b=>cases(show u=Value.bool b from r);rfl
 |int i=>obtain⟨t,e⟩:=(show ∃t,u=Value.int i t from r);cases e;rfl
 |str x=>obtain⟨t,e⟩:=(show ∃t,u=Value.str x t from r);cases e;rfl
 |Bs b=>obtain⟨t,e⟩:=(show ∃t,u=Value.bytes b t from r);cases e;rfl
 |CG b=>obtain⟨t,e⟩:=(show ∃t,u=Value.float b t from r);cases e;rfl
 |ref a=>cases(show u=Value.ref a from r);rfl
 |ty n=>cases(show u=Value.type n from r);rfl
section
variable{P:Program}{w:World}{H H':Hp}{h h':Heap}{a C dx:Addr}{fs qp:List (Str×V)}
theorem Pa(eB:lV P w H h)(e:H a=some (.ins C dx fs)):∃mA,AA h a dx C mA/\(∀f,oK (fs.lookup f) (mA f))/\AD mA (fs.map (·.1))/\fs.length<=1000/\H dx=some (.own a):=by obtain⟨d,z,ne,ob,mA,n,r,q⟩:=(show fJ P w H h a (.ins C dx fs)from eB a _ e);exact⟨mA,⟨ob,n,ne⟩,r,q,z,d⟩
end
structure xw(K:aa)(C:Addr):Prop where
 pg:mF K C Str.empty=true
 hd:je K C=true
 po:Dm K C=true
 sa:aR K (.ref C) "__setattr__"=some (some (.builtin "object.__setattr__"))
theorem xw.get{K:aa}{C:Addr}(c:xw K C)(f:Str):mF K C f=true:=c.pg
def dP(K:aa)(C:Addr)(f:Str):Prop:=aR K (.ref C) f=some none
theorem dP.Na{K:aa}{C:Addr}{f:Str}(n:dP K C f):uC K C f=some none:=by unfold uC;rw[show aR K (.ref C) f=some none from n];rfl
structure IF(K:aa)(C:Addr)(m:Str)(f:Addr):Prop where
 at_:aR K (.ref C) m=some (some (.ref f))
 fn:ic K (.ref f)=true
 kp:br K (.ref f)=true
section
variable{X:Cx}{ah:List (Addr×Obj)}{σ:St}{H:Hp}{s:Shared}{a C dx:Addr}{fs:List (Str×V)}{f:Str}{v:V}{A:Around}{E:Value->Shared->Prop}
theorem zty{b:Bool}{Q:Value->Shared->Prop}(I:Inv X ah σ H s)(e:H a=some (.ins C dx fs))(c:xw X.K C)(n:dP X.K C f)(l:fs.lookup f=some v)(h:∀u s',Inv X ah σ H s'->RelV v u->Q u s'):wpAny (model X.prog X.w) A (getAttr (.ref a) f b) Q E s:=by
  obtain⟨mA,O,r,_,_,_⟩:=Pa I.eB e;obtain⟨u,hu,ru⟩:=oK.some_of (v:=v) (o:=mA f) (by rw[<-l];exact r f);exact R6 I.oj O (c.get f) c.hd n hu (zvc ru) (h u _ (I.tok _) ru)
theorem Yg{m:Str}{g:Addr}{pl:Sem Bool}{Q:Value×List Value->Shared->Prop}(I:Inv X ah σ H s)(e:H a=some (.ins C dx fs))(c:xw X.K C)(k:IF X.K C m g)(l:fs.lookup m=none)(h:Q (.ref g,[.ref a]) s):wpAny (model X.prog X.w) A (getMethod (.ref a) m pl) Q E s:=by
  obtain⟨mA,O,r,_,_,_⟩:=Pa I.eB e;have hn:mA m=none:=oK.none_of (by rw[<-l];exact r m);exact zxr I.oj O (c.get m) k.at_ k.fn hn h
theorem ztz {y:V} {u:Value} {Q:Unit->Shared->Prop} (I:Inv X ah σ H s) (e:H a=some (.ins C dx fs)) (c:xw X.K C) (n:dP X.K C f) (hl:fs.length<1000) (ry:RelV y u)
    (h:∀ s',Inv X ah σ (aH H a (.ins C dx (aE f y fs))) s'->Q () s'):wpAny (model X.prog X.w) A (setAttr (.ref a) f u) Q E s:=by
  obtain ⟨mA,O,r,wi,_,ho⟩:=Pa I.eB e
  have hz:(fs.map (·.1)).length<=sizeLine:=by rw [ae,sizeLine_eq]; omega
  refine R7 I.oj O c.sa c.po n.Na c.hd wi hz fun h' O' sb=>h _ ?_
  have hd:∃ o,h'.get? dx=some o:=let ⟨o,_,_,e',_⟩:=O'.ns; ⟨o,e'⟩
  refine I.write (x:=a) (e:=dx) (by rw [e]; exact bh) (.inr ho) (fun b q hb z=>(sb.2 b hb).trans z) hd ?_
  refine ⟨by rw [dj O.ne]; exact ho,?_,O.ne,O'.obj,_,O'.ns,fun g=>?_,fun g hg=>?_⟩
  · have:=XW f y fs; omega
  · show oK ((aE f y fs).lookup g) (if g=f then some u else mA g)
    rw [KC]
    by_cases q:g=f
    · rw [if_pos q,if_pos q]; exact ry
    · rw [if_neg q,if_neg q]; exact r g
  · by_cases q:g=f
    · rw [q]; exact (Uw f y fs).1
    · refine (Uw f y fs).2 g (wi g fun z=>hg ?_)
      show (if g=f then some u else mA g)=none
      rw [if_neg q]; exact z
theorem Inv.made(I:Inv X ah σ H s):Inv X ah σ (aH (aH H s.heap.objs.size (.own (s.heap.objs.size+1))) (s.heap.objs.size+1) (.ins C s.heap.objs.size []))
    {s with heap:=(s.heap.push eI).push (gc C s.heap.objs.size)}:=by
  have e1:(s.heap.push eI).get? s.heap.objs.size=some eI:=Heap.get?_push_size s.heap rfl;have e2:((s.heap.push eI).push (gc C s.heap.objs.size)).get? (s.heap.objs.size+1)=some (gc C s.heap.objs.size):=by
    have:=Heap.get?_push_size (s.heap.push eI) (o:=gc C s.heap.objs.size) rfl
    rwa [Heap.size_push]at this
  have e3:(s.heap.push eI).Ns s.heap.objs.size (fun _=>none):=⟨eI,#[],_,e1,rfl,(fun e he=>absurd he (by simp)),fun _=>rfl⟩;have I1:=I.laid (a:=s.heap.objs.size) (o:=.own (s.heap.objs.size+1)) (h':=s.heap.push eI) (t':=s.toks) (fun b u q=>Heap.get?_push_of_some _ q) (aq _) ⟨_,e1⟩;refine I1.laid (a:=s.heap.objs.size+1) (o:=.ins C s.heap.objs.size []) (t':=s.toks) (fun b u q=>Heap.get?_push_of_some _ q) (Nat.le_of_eq (Heap.size_push _ _)) ?_;have ne:s.heap.objs.size≠s.heap.objs.size+1:=bq (vM _);refine⟨by rw[dj ne,bR],bW _,ne,e2,fun _=>none,(Heap.Ns1.of_empty e3).at fun o q=>Heap.get?_push_of_some _ q,fun _=>bh,fun y hy=>absurd rfl hy⟩
theorem R8{prog:Program}{w:World}{env:Env}{e:Expr}{f:Str}{pos:Pos}{s:Shared}{Q:Value->Shared->Prop}(hb:attributeBase e f env (eval e env)=eval e env)(h:wpAny (model prog w) A (eval e env) (fun o s₁=>wpAny (model prog w) A (getAttr o f true) Q E s₁) E s):wpAny (model prog w) A (eval (.Attribute e f pos) env) Q E s:=
  Attribute_any_ h (by rw[arm_eval_Attribute,hb])
end
def JR(K:aa)(ta:TE)(f:Str):TE:=fun σ H Q=>ta σ H fun x H1=>∃a C dx fs v,x= .ref a/\H1 a=some (.ins C dx fs)/\xw K C/\dP K C f/\fs.lookup f=some v/\Q v H1
def MA(K:aa)(ta tv:TE)(f:Str):TS:=fun D σ H=>tv σ H fun y H1=>ta σ H1 fun x H2=>∃a C dx fs,x= .ref a/\H2 a=some (.ins C dx fs)/\xw K C/\dP K C f/\fs.length<1000/\
 D.nx σ (aH H2 a (.ins C dx (aE f y fs)))
section
variable{X:Cx}{o e value:Expr}{f:Str}{pos tY Bd:Pos}{ta tv:TE}
theorem eK(he:PE X e ta)(hb:attributeBase e f X.env (eval e X.env)=eval e X.env):PE X (.Attribute e f pos) (JR X.K ta f):=by intro ah s σ H Q I h;refine R8 hb (eJ (he ah s σ H _ I h) fun u s1⟨x,H1,I1,rx,a,C,dx,fs,v,ex,ea,c,n,l,q⟩=>?_);subst ex;obtain rfl:u=Value.ref a:=rx;exact zty I1 ea c n l fun u' s2 I2 ru=>⟨v,H1,I2,ru,q⟩
theorem pI(ha:PE X o ta)(hv:PE X value tv)(hs:swapsWith value (some (.Attribute o f tY)) pos.line X.env=pure false):PS X (.Assign [.Attribute o f tY] value pos) (MA X.K ta tv f):=by intro ah s σ H D I h;refine plainObj_wpAny_Assign_Attribute (eJ (hv ah s σ H _ I h) fun u s1⟨y,H1,I1,ry,q⟩=>eJ (ha ah s1 σ H1 _ I1 q) fun ov s2⟨x,H2,I2,rx,a,C,dx,fs,ex,ea,c,n,l,q2⟩=>?_) hs;subst ex;obtain rfl:ov=Value.ref a:=rx;exact ztz I2 ea c n l ry fun s3 I3=>⟨σ,_,I3,q2⟩
end
section
variable{X:Cx}{ah:List (Addr×Obj)}{σ:St}{H:Hp}{s:Shared}{A:Around}{E:Value->Shared->Prop}{Q:Value->Shared->Prop}{c:Value}{b:Bool}
inductive qD(K:aa)(H:Hp):V->Value->Prop where
  |b7:qD K H .b7 (.type "NoneType")
  |bl (x:Bool):qD K H (.bl x) (.type "bool")
  |int (i:Int):qD K H (.int i) (.type "int")
  |str (x:Str):qD K H (.str x) (.type "str")
  |CG (x:UInt64):qD K H (.CG x) (.type "float")
  |lst {a:Addr} {xs:List V} (e:H a=some (.lst xs)):qD K H (.ref a) (.type "list")
  |jm {a:Addr} {o:Obj} {xs:List V} (e:H a=some (.jm o (.lst xs))):qD K H (.ref a) (.type "list")
  |tup {a:Addr} {xs:List V} (e:H a=some (.tup xs)):qD K H (.ref a) (.type "tuple")
  |dK {a:Addr} {kvs:List (Key×V)} (e:H a=some (.dK kvs)):qD K H (.ref a) (.type "dict")
  |dT {a:Addr} {kvs:List (List Key×V)} (e:H a=some (.dT kvs)):qD K H (.ref a) (.type "dict")
  |ins {a C dx:Addr} {fs:List (Str×V)} (e:H a=some (.ins C dx fs)) (cl:xw K C) (ha:aR K (.ref C) "__class__"=some (some (.builtin "object.__class__")))
      (hn:jg K (.builtin "object.__class__") "__get__"=some (some (.builtin "getset_descriptor.__get__"))) (VW:uD K (.builtin "object.__class__")=some true)
      (hm:lX K C (.type "object")=some true):qD K H (.ref a) (.ref C)
theorem zvd{x:V}{u t:Value}(I:Inv X ah σ H s)(rx:RelV x u)(ty:qD X.K H x t)(e:jf X.K t c=some b)(h:∀tk,Q (.bool b) {s with toks:=tk}):
    wpAny (model X.prog X.w) A (call (.builtin "isinstance") [u,c]) Q E s:=by
  cases ty with
  |b7=>cases(show u=Value.none from rx);exact eE PySem.W.kitx_none I.oj bh e (fun z=>nomatch z) h
  |bl y=>cases(show u=Value.bool y from rx);exact eE PySem.W.kitx_bool I.oj bh e (fun z=>nomatch z) h
  |int i=>obtain⟨t,q⟩:=(show ∃t,u=Value.int i t from rx);cases q;exact eE PySem.W.kitx_int I.oj bh e (fun z=>nomatch z) h
  |str y=>obtain⟨t,q⟩:=(show ∃t,u=Value.str y t from rx);cases q;exact eE PySem.W.kitx_str I.oj bh e (fun z=>nomatch z) h
  |CG y=>obtain⟨t,q⟩:=(show ∃t,u=Value.float y t from rx);cases q;exact eE PySem.W.kitx_float I.oj bh e (fun z=>nomatch z) h
  | @lst a xs ea=>
    cases(show u=Value.ref a from rx);obtain⟨_,_,n,_,h1⟩:=(show fJ X.prog X.w H s.heap a (.lst xs)from I.eB a _ ea)
    exact eE Dl I.oj ⟨_,h1,rfl⟩ e (fun z=>nomatch z) h
  | @jm a ob xs ea=>
    cases(show u=Value.ref a from rx);obtain⟨_,_,_,n,_,h1⟩:=(show fJ X.prog X.w H s.heap a (.jm ob (.lst xs))from I.eB a _ ea)
    exact eE Dl I.oj ⟨_,h1,rfl⟩ e (fun z=>nomatch z) h
  | @tup a xs ea=>
    cases(show u=Value.ref a from rx);obtain⟨_,_,_,p⟩:=(show fJ X.prog X.w H s.heap a (.tup xs)from I.eB a _ ea)
    obtain⟨o,h1,h2,_⟩:=p;exact eE PySem.W.kitx_tuple I.oj ⟨o,h1,h2⟩ e (fun z=>nomatch z) h
  | @dK a kvs ea=>
    cases(show u=Value.ref a from rx);obtain⟨_,_,vs,_,p⟩:=(show fJ X.prog X.w H s.heap a (.dK kvs)from I.eB a _ ea)
    obtain⟨o,es,ep,h1,h2,_⟩:=p;exact eE Dk I.oj ⟨o,h1,h2.1⟩ e (fun z=>nomatch z) h
  | @dT a kvs ea=>
    cases(show u=Value.ref a from rx);obtain⟨_,_,xs,_,o,es,ep,h1,h2,_⟩:=(show fJ X.prog X.w H s.heap a (.dT kvs)from I.eB a _ ea)
    exact eE Dk I.oj ⟨o,h1,h2.1⟩ e (fun z=>nomatch z) h
  | @ins a C dx fs ea cl ha hn VW hm=>
    cases(show u=Value.ref a from rx);obtain⟨mA,O,_⟩:=Pa I.eB ea
    obtain⟨od,J,_⟩:=O.look;exact eE (PySem.W.kitx_own (cl.get _) cl.hd ha hn VW hm) I.oj J e (fun z=>nomatch z) h
end
structure gM(k:Nat)(A:Around):Prop where
 hd:A.handled=none
 dp:A.depth+3*k+5<recursionLimit
 un:A.units+16*k+200<cLine
theorem gM.mono{j k:Nat}{A:Around}(r:gM k A)(h:j<=k):gM j A:=⟨r.hd,by have:=r.dp;omega,by have:=r.un;omega⟩
theorem gM.deeper{k:Nat}{A:Around}(r:gM (k+1) A)(env:Env):gM k (A.deeper env):=
 ⟨r.hd,by have:=r.dp;show A.depth+1+3*k+5 < _;omega,by have:=r.un;show A.units+3+16*k+200 < _;omega⟩
theorem zua{A:Around}{C:Addr}{us:List Value}{kw:List (Str×Value)}:(A.under (.builtin "type.__call__" ⟨.ref C::us,kw⟩)).depth=A.depth+1:=by first|rfl|simp[Around.under,Code.weight,Code.isCreation,Code.isGuard,Code.isCaller,Code.frames,Code.isFrame,guardIds]
theorem zub{A:Around}{C:Addr}{us:List Value}{kw:List (Str×Value)}:(A.under (.builtin "type.__call__" ⟨.ref C::us,kw⟩)).units=A.units+1:=by first|rfl|simp[Around.under,Code.cUnits,Code.frames,Code.isFrame]
theorem gM.make{k:Nat}{A:Around}(r:gM (k+1) A)(C:Addr)(us:List Value)(kw:List (Str×Value)):gM k (A.under (.builtin "type.__call__" ⟨.ref C::us,kw⟩)):=
 ⟨r.hd,by have:=r.dp;rw[zua];omega,by have:=r.un;rw[zub];omega⟩
theorem gM.depth{k:Nat}{A:Around}(r:gM k A):A.depth<recursionLimit:=by have:=r.dp;omega
theorem gM.units{k:Nat}{A:Around}(r:gM k A):A.units+64<cLine:=by have:=r.un;omega
def Dc:TA:=fun _ H Q=>Q [] H
def Ci(ta:TE)(tr:TA):TA:=fun σ H Q=>ta σ H fun x H1=>tr σ H1 fun xs H2=>Q (x::xs) H2
section
variable{X:Cx}{e:Expr}{es:List Expr}{te:TE}{t:TA}{pos:Pos}
theorem bB:PA X [] Dc:=fun _ _ _ _ H Q I h=>Calls.spliced_nil ⟨[],H,I,.nil,h⟩
theorem aL(ha:PE X e te)(hr:PA X es t)(hs:starEach (e::es) X.env=(false,eval e X.env)::starEach es X.env:=by rfl):PA X (e::es) (Ci te t):=by intro pos ah s σ H Q I h;rw[hs];show wpAny _ _ (spliced ((false,eval e X.env)::backTo pos (starEach es X.env))) _ _ s;refine Calls.spliced_cons (eJ (ha ah s σ H _ I h) fun u s1⟨x,H1,I1,r1,q1⟩=>?_);exact eJ (hr pos ah s1 σ H1 _ I1 q1) fun us s2⟨xs,H2,I2,r2,q2⟩=>⟨x::xs,H2,I2,.cons r1 r2,q2⟩
def GJ(t:TA):TE:=fun σ H Q=>t σ H fun xs H1=>xs.length<=sizeLine/\∀p,H1 p=none->Q (.ref p) (aH H1 p (.tup xs))
def GC(t:TA):TE:=fun σ H Q=>t σ H fun xs H1=>xs.length<=sizeLine/\∀p,H1 p=none->Q (.ref p) (aH H1 p (.lst xs))
theorem wA{x1}(h:PA X es t):PE X (.Tuple es x1 pos) (GJ t):=by intro ah s σ H Q I hq;refine wpAny_Tuple_spliced (eJ (h pos ah s σ H _ I hq) fun us s1⟨xs,H1,I1,r,z,q⟩=>⟨by rw[<-r.length];exact z,?_⟩);have hf:H1 s1.heap.objs.size=none:=I1.eB.fresh (aq _);refine⟨.ref s1.heap.objs.size,aH H1 s1.heap.objs.size (.tup xs),I1.laid (t':=s1.toks) (fun b u e=>Heap.get?_push_of_some _ e) (aq _) ?_,rfl,q _ hf⟩;exact⟨z,us,r,⟨_,Heap.get?_push_size _ rfl,rfl,_,rfl⟩⟩
theorem Dg(h:PA X es t):PE X (.List es pos) (GC t):=by intro ah s σ H Q I hq;refine wpAny_List_spliced (eJ (h pos ah s σ H _ I hq) fun us s1⟨xs,H1,I1,r,z,q⟩=>⟨by rw[<-r.length];exact z,?_⟩);have hf:H1 s1.heap.objs.size=none:=I1.eB.fresh (aq _);refine⟨.ref s1.heap.objs.size,aH H1 s1.heap.objs.size (.lst xs),I1.laid (t':=s1.toks) (fun b u e=>Heap.get?_push_of_some _ e) (aq _) ?_,rfl,q _ hf⟩;exact⟨z,us,0,r,Heap.get?_push_size _ rfl⟩
end
abbrev Sp:=List V->Hp->VK->XK->Prop
abbrev vy:=List Env->Hp->Shared->XK->Value->Shared->Prop
structure Ar(P:Program)(w:World)(K:aa)(mg:Str->Option Value)(base:Heap)(A:Around)(outer:List Env)(s:Shared)(H:Hp):Prop where
 frames:A.frames=some outer
 mod:Mod K mg base
 bs:∀b o,base.get? b=some o->s.heap.get? b=some o/\H b=none
 Dp:base.objs.size<=s.heap.objs.size
 mH:s.heap.FunFrames base outer
 Fc:∀b∈ug outer,H b=none
 eB:lV P w H s.heap
 bare:AllBare s.gens
def CE(outer:List Env)(P:Program)(w:World)(H:Hp)(s:Shared)(Q:VK)(u:Value)(s':Shared):Prop:=
 ∃v H',s'.os=s.os/\AllBare s'.gens/\Un (ug outer) [] H H' s.heap s'.heap/\lV P w H' s'.heap/\RelV v u/\Q v H'
def CR(CX:vy)(outer:List Env)(P:Program)(w:World)(H:Hp)(s:Shared)(Q:VK)(E:XK)(r:Result)(s':Shared):Prop:=
 match r with
 | .ok (.ret u)=>CE outer P w H s Q u s'
 | .ok _=>False
 | .error e=>CX outer H s E e s'
structure rO(P:Program)(w:World)(K:aa)(mg:Str->Option Value)(base:Heap)(CX:vy)(k:Nat)(f:Addr)(fd:FuncData)(ps:List Str)(sp:Sp):Prop where
 len:∀vs H Q E,sp vs H Q E->vs.length=ps.length
 run:∀(A:Around)(outer:List Env)(s:Shared)(H:Hp)(args:Args)(us:List Value)(vs:List V)(Q:VK)(E:XK),gM k A->Ar P w K mg base A outer s H->BindsTo s fd args (ps.zip us)->b8 vs us->sp vs H Q E->
  codeAny (model P w) A (.call (.ref f) args) (CR CX outer P w H s Q E) s
theorem Ar.make{P:Program}{w:World}{K:aa}{mg:Str->Option Value}{base:Heap}{A:Around}{outer:List Env}{s:Shared}{H:Hp}(e:Ar P w K mg base A outer s H)(C:Addr)(us:List Value)(kw:List (Str×Value)):
    Ar P w K mg base (A.under (.builtin "type.__call__" ⟨.ref C::us,kw⟩)) outer s H:=⟨by first|exact e.frames|(simpa [Around.under,Code.envs,Code.isFrame,pushEnvs]using e.frames),e.mod,e.bs,e.Dp,e.mH,e.Fc,e.eB,e.bare⟩
section
variable{X:Cx}{ah:List (Addr×Obj)}{σ:St}{H:Hp}{s s':Shared}
theorem Inv.IS(I:Inv X ah σ H s):Ar X.prog X.w X.K X.mg X.base X.A X.stack s H:=
 ⟨I.ok.frames,I.ok.mod,I.bs,bO I.ok.Dp I.sz,I.stack,I.yi,I.eB,I.bare⟩
theorem Inv.after{Q:VK}{u:Value}(I:Inv X ah σ H s)(h:CE X.stack X.prog X.w H s Q u s'):EP X ah σ Q u s':=by obtain⟨v,H',os,bare,un,eB,r,q⟩:=h;obtain⟨hh,g,d,t,Wi⟩:=s';obtain rfl:Wi=s.os:=os;exact⟨v,H',I.call (h':=hh) (g':=g) (d':=d) (t':=t) (ch:=[]) un eB bare (fun b z=>absurd z (by simp)),r,q⟩
end
def ES(sp:Sp)(cu:List V)(E:XK)(t:TA):TE:=fun σ H Q=>t σ H fun vs H1=>sp (vs++cu) H1 Q E
def Binds(K:aa)(fd:FuncData)(ps:List Str)(ds:List Value):Prop:=
 ∀(s:Shared)(us:List Value),K.In s.heap->(us++ds).length=ps.length->BindsTo s fd ⟨us,[]⟩ (ps.zip (us++ds))
theorem Binds.all{K:aa}{fd:FuncData}{ps:List Str}(h:∀us:List Value,us.length=ps.length->bindArgs fd ⟨us,[]⟩=pure (ps.zip us)):Binds K fd ps []:=fun s us _ hl=>by rw[bw]at hl⊢;exact .of_eq (h us hl)
section
variable{X:Cx}{CX:vy}{k:Nat}{f C:Addr}{fd:FuncData}{ps:List Str}{sp:Sp}{cu:List V}{ds:List Value}{E:XK}{x m:Str}{p pos gC:Pos}{e o:Expr}{es:List Expr}{ta:TE}{t:TA}
structure Mk(K:aa)(C f:Addr):Prop where
 makes:jZ K C=true
 init:aR K (.ref C) "__init__"=some (some (.ref f))
 fn:ic K (.ref f)=true
 kp:br K (.ref C)=true
end
section
variable{X:Cx}{CX:vy}{k:Nat}{f C:Addr}{fd:FuncData}{ps ks:List Str}{sp:Sp}{E:XK}{x m:Str}{p pos gC Gn:Pos}{e o:Expr}{es:List Expr}{kws:List Keyword}{te ta:TE}{t tk:TA}{nm:Option Str}
variable{g:List Value->List Value->List Value}{gV:List V->List V->List V}
end
structure aB(N P:List Str)(sc:Scope):Prop where
 kind:sc.kind= .function
 co:sc.isCoroutine=false
 gen:sc.isGenerator=false
 nd:N.Nodup
 pre:N.take P.length=P
 par:∀x∈P,sc.names.lookup x=some .local\/sc.names.lookup x=some .cell
 Jp:∀y∈sc.names,y.2≠.free
theorem Yx{kindOf:Str->Option NameKind}{x:Str}:∀{binds:List (Str×Value)}{m:Str->Option Value},(∀v,(x,v)∉binds)->bindL kindOf binds m x=m x
 |[],_,_=>rfl
 |(n,v)::r,m,h=>by
  unfold bindL;rw[Yx fun w hw=>h w (ai _ hw)];split
  ·have:x≠n:=by rintro rfl;exact h v aj
   simp[this]
  ·rfl
theorem Yy{kindOf:Str->Option NameKind}{x:Str}:∀{binds:List (Str×Value)}{m:Str->Option Value},(∀v,(x,v)∉binds)->bindC kindOf binds m x=m x
 |[],_,_=>rfl
 |(n,v)::r,m,h=>by
  unfold bindC;rw[Yy fun w hw=>h w (ai _ hw)];split
  ·rfl
  ·have:x≠n:=by rintro rfl;exact h v aj
   simp[this]
theorem Yz{kindOf:Str->Option NameKind}{x:Str}{v:Value}:∀{P:List Str}{vs:List Value}{i:Nat}{m:Str->Option Value},P.Nodup->P[i]?=some x->vs[i]?=some v->kindOf x=some .local->
    bindL kindOf (P.zip vs) m x=some v
  |[],_,_,_,_,h,_,_=>by simp at h
  |_::_,[],_,_,_,_,h,_=>by simp at h
  |p::P,w::vs,0,m,nd,h1,h2,hk=>by simp at h1 h2;subst h1;subst h2;show bindL kindOf ((p,w)::P.zip vs) m p=_;unfold bindL;rw[Yx fun v hv=>(aY.mp nd).1 (wC hv).1,if_pos hk];simp
  |p::P,w::vs,i+1,m,nd,h1,h2,hk=>by show bindL kindOf ((p,w)::P.zip vs) m x=_;unfold bindL;exact Yz (i:=i) (aY.mp nd).2 (by simpa using h1) (by simpa using h2) hk
theorem YA{kindOf:Str->Option NameKind}{x:Str}{v:Value}:∀{P:List Str}{vs:List Value}{i:Nat}{m:Str->Option Value},P.Nodup->P[i]?=some x->vs[i]?=some v->kindOf x≠some .local->
    bindC kindOf (P.zip vs) m x=some v
  |[],_,_,_,_,h,_,_=>by simp at h
  |_::_,[],_,_,_,_,h,_=>by simp at h
  |p::P,w::vs,0,m,nd,h1,h2,hk=>by simp at h1 h2;subst h1;subst h2;show bindC kindOf ((p,w)::P.zip vs) m p=_;unfold bindC;rw[Yy fun v hv=>(aY.mp nd).1 (wC hv).1,if_neg hk];simp
  |p::P,w::vs,i+1,m,nd,h1,h2,hk=>by show bindC kindOf ((p,w)::P.zip vs) m x=_;unfold bindC;exact YA (i:=i) (aY.mp nd).2 (by simpa using h1) (by simpa using h2) hk
def start(N:List Str)(vs:List V):St:=vs.map some++jx (N.length-vs.length) none
def oQ(CX:vy)(P:Program)(w:World)(K:aa)(mg:Str->Option Value)(base:Heap)(N:List Str)(dQ:Str)(scope:Scope)(f:Addr)(cd:Value)(A:Around)(outer:List Env)(s:Shared)(H:Hp)(E:XK):Cx where
 prog:=P
 w:=w
 K:=K
 mg:=mg
 base:=base
 A:=A.deeper (envOfC dQ scope s.heap.objs.size f cd)
 N:=N
 s₀:=s
 H₀:=H
 env:=envOfC dQ scope s.heap.objs.size f cd
 outer:=outer
 stack:=envOfC dQ scope s.heap.objs.size f cd::outer
 ex:=[]
 calm:=true
 fn:=fun _=>true
 pn:=[]
 xe:=fun e s'=>wpAny (model P w) (A.deeper (envOfC dQ scope s.heap.objs.size f cd)) (leaving (envOfC dQ scope s.heap.objs.size f cd) e) (fun _ RK=>CX outer H s E e RK) (fun e' RK=>CX outer H s E e' RK) s'
theorem Zd{sc:Scope}{n:Nat}{x:Str}(h:sc.names.lookup x=some .cell):∃c,(cellsFrom n sc.names []).lookup x=some c:=by have q:=yW sc.names n [] (.inl h);exact iG.mp q
theorem zve{CX:vy}{P:Program}{w:World}{K:aa}{mg:Str->Option Value}{base:Heap}{N ps:List Str}{dQ:Str}{scope:Scope}{f:Addr}{cd:Value}{A:Around}{outer:List Env}{s s1:Shared}{H:Hp}{E:XK}{us:List Value}{vs:List V}(S:aB N ps scope)(hd:A.handled=none)(e0:Ar P w K mg base A outer s H)(hl:vs.length=ps.length)(r:b8 vs us)(x:InCallC s s.heap.objs.size (bindL (envOfC dQ scope s.heap.objs.size f cd).kindOf (ps.zip us) fun _=>none) (cellsFrom (s.heap.objs.size+1) scope.names []) (bindC (envOfC dQ scope s.heap.objs.size f cd).kindOf (ps.zip us) fun _=>none) s1):
    Inv (oQ CX P w K mg base N dQ scope f cd A outer s H E) [] (start N vs) H s1:=by
  have Ak:ps.length<=N.length:=by have:=congrArg gG S.pre;rw[bV]at this;omega
  obtain⟨h1,tk,rfl,hk⟩:=x.done;have L1:∀b:Addr,b∉(oQ CX P w K mg base N dQ scope f cd A outer s H E).ex:=fun b z=>absurd (show b∈([]:List Addr)from z) (by simp);refine⟨⟨e0.mod,S.kind,rfl,rfl,aq _,fun y z c h1 h2=>?_,fun y hy=>?_,fun y c _ h=>?_,fun _=>hd,Around.frames_deeper e0.frames,.inr ⟨rfl,rfl⟩,fun b z=>absurd z (L1 b),e0.bs,e0.Dp,fun b _ _=>L1 b,fun b z=>absurd z (L1 b),e0.mH,e0.Fc⟩,
    rfl,e0.bare,Un.kept hk,⟨_,x.toInCall.ns,fun i y v h1 h2 h3=>?_⟩,fun y c h=>⟨_,x.cell y c h⟩,e0.eB.fresh (aq _),fun y c h=>?_,fun p hp=>absurd (show p∈([]:List (Addr×Obj))from hp) (by simp),e0.eB.kept hk,?_⟩
  · exact name_of_addr x.apart (fD h1) (fD h2)
  · have hy:scope.names.lookup y=some .cell\/scope.names.lookup y=some .free:=hy;rcases hy with hy|hy
    · exact Zd hy
    · exact absurd rfl (S.Jp _ (fD hy))
  · exact oF (x.above y c (fD h))
  · have hi:i<vs.length:=by
      unfold start at h2;by_cases hi:i<vs.length
      · exact hi
      · rw[fS (by simpa using hi)]at h2;rw[Av]at h2;split at h2 <;> cases h2
    have ha:vs[i]?=some v:=by
      unfold start at h2;rw[iw (by simpa using hi),aK]at h2;cases e:vs[i]? with
      |none=>rw[e]at h2;cases h2
      |some a=>rw[e]at h2;cases h2;rfl
    obtain⟨u,hu,rv⟩:=r.get ha;have hp:ps[i]?=some y:=by rw[<-S.pre,List.getElem?_take_of_lt (by omega)];exact h1
    have V7:ps.Nodup:=by rw[<-S.pre];exact S.nd.sublist (List.take_sublist _ _)
    refine⟨u,rv,?_⟩;rcases S.par y (aV hp)with k|k
    · exact .inl ⟨k,Yz V7 hp hu k⟩
    · obtain⟨c,e⟩:=Zd (n:=s.heap.objs.size+1) k;refine .inr ⟨.inl k,c,e,?_⟩;have q:=x.cell y c e;rw[YA V7 hp hu (by show scope.names.lookup y≠_;rw[k];decide)]at q;exact q
  · exact e0.eB.fresh (oF (x.above y c (fD h)))
  · unfold start;show _=N.length;rw[bF,ae,List.length_replicate];omega
theorem sU{CX:vy}{P:Program}{w:World}{K:aa}{mg:Str->Option Value}{base:Heap}{k:Nat}{f:Addr}{name dQ:Str}{params:Arguments}{body:List Stmt}{scope:Scope}{dV kV oR pm b9 ct oc:Value}{an od:Option Addr}{uZ:Array (Option Value)}{N ps:List Str}{sp:Sp}(lk:K.lookup f=some ⟨oc,od,.func (bK name dQ params body scope dV kV oR pm an b9 ct),uZ⟩)(tO:dM K b9 dQ=true)(S:aB N ps scope)(len:∀vs H Q E,sp vs H Q E->vs.length=ps.length)(jC:∀(A:Around)(outer:List Env)(s:Shared)(H:Hp)(vs:List V)(Q:VK)(E:XK),gM k (A.deeper (envOfC dQ scope s.heap.objs.size f b9))->sp vs H Q E->
      ∃t,ud (oQ CX P w K mg base N dQ scope f b9 A outer s H E) body t/\t {nx:=fun _ H'=>Q .b7 H',rt:=Q} (start N vs) H):
    rO P w K mg base CX (k+1) f (bK name dQ params body scope dV kV oR pm an b9 ct) ps sp:=by
  refine⟨len,fun A outer s H args us vs Q E hr e0 hb r rH=>?_⟩;have hl:=len _ _ _ _ rH;have KX:K.In s.heap:=e0.mod.Gm.keeps fun b o e=>(e0.bs b o e).1;have lim:s.heap.NoLimit:=e0.mod.nolimit.keeps fun b o e=>(e0.bs b o e).1;have kF:∀y∈ps.zip us,scope.names.lookup y.1=some .local\/(scope.names.lookup y.1=some .cell/\((cellsFrom (s.heap.objs.size+1) scope.names []).lookup y.1).isSome=true):=fun⟨n,v⟩ hy=>by
    rcases S.par n (wC hy).1 with q|q
    · exact .inl q
    · exact .inr ⟨q,yW _ _ _ (.inl q)⟩
  refine codeAny_call_function hr.depth (KX _ _ lk) rfl S.co S.gen rfl (PySem.W.codeRec_of KX tO) (hb _ _ _ _ ?_);refine wpAny_newFunctionEnv_cells S.kind kF fun env he s1 x=>?_;subst he;refine⟨lim.keeps x.toInCall.keep,codeAny_func ?_⟩;obtain⟨t,ht,hq⟩:=jC A outer s H vs Q E (hr.deeper _) rH;have I:Inv (oQ CX P w K mg base N dQ scope f b9 A outer s H E) [] (start N vs) H s1:=zve S hr.hd e0 hl r x;refine wpAny_mono (ht [] s1 (start N vs) H _ I hq) (fun fl s' hs=>?_) fun e s' hs=>hs;have fin:∀{σ':St}{H':Hp}{v:V}{u:Value},Inv (oQ CX P w K mg base N dQ scope f b9 A outer s H E) [] σ' H' s'->RelV v u->Q v H'->CE outer P w H s Q u s':=
    fun{σ' H' v u} J rv q=>⟨v,H',J.os,J.bare,J.base,J.eB,rv,q⟩;cases fl with
  |ret u=>
    obtain⟨v,σ',H',J,rv,q⟩:=hs;exact fin J rv q
  |next=>
    obtain⟨σ',H',J,q⟩:=hs;exact fin (v:=V.b7) (u:=Value.none) J rfl q
  |brk=>
    obtain⟨_,_,_,q⟩:=hs;exact bE q
  |cont=>
    obtain⟨_,_,_,q⟩:=hs;exact bE q
section
variable{X:Cx}{x:Str}{p pos:Pos}{e:Expr}{es:List Expr}{t:TA}{id T:String}{r:List V->Hp->VK->Prop}
def M0(r:List V->Hp->VK->Prop)(t:TA):TE:=fun σ H Q=>t σ H fun vs H1=>r vs H1 Q
theorem rC(hc:lT X (.builtin id) r)(hg:Gl X x)(hm:X.mg x=none)(hv:bootBuiltins x=some (.builtin id))(ha:PA X (e::es) t)(hn:x≠ "__name__":=by decide)(AN:(x ==("__debug__":Str))=false:=by decide)(he:starEach (e::es) X.env=(false,eval e X.env)::starEach es X.env:=by rfl)(Ak:(backTo pos (starEach es X.env)).any (·.1)=false:=by rfl):PE X (.Call (.Name x p) (e::es) [] pos) (M0 r t):=by
  intro ah s σ H Q I h;refine wpAny_Call_Name_kw (J4 I hg hm hv ?_ hn AN);exact qo (eJ (ha pos ah s σ H _ I h) fun us s1⟨vs,H1,I1,r1,q1⟩=>hc ah s1 σ H1 vs us Q I1 r1 q1) he Ak
theorem YB(hc:lT X (.type T) r)(hg:Gl X x)(hm:X.mg x=none)(hv:bootBuiltins x=some (.type T))(ha:PA X (e::es) t)(hn:x≠ "__name__":=by decide)(AN:(x ==("__debug__":Str))=false:=by decide)(he:starEach (e::es) X.env=(false,eval e X.env)::starEach es X.env:=by rfl)(Ak:(backTo pos (starEach es X.env)).any (·.1)=false:=by rfl):PE X (.Call (.Name x p) (e::es) [] pos) (M0 r t):=by
  intro ah s σ H Q I h;refine wpAny_Call_Name_kw (J4 I hg hm hv ?_ hn AN);exact rV (eJ (ha pos ah s σ H _ I h) fun us s1⟨vs,H1,I1,r1,q1⟩=>hc ah s1 σ H1 vs us Q I1 r1 q1) he Ak
end
end L2
namespace HT
open PySem PyProof.Rows
section
open PySem.SeqAt
open PySem.AutoSeq1 (wpAny_loadPart')
open PySem.MeetsSeq PySem.MeetsSeq2 PySem.MeetsSeq3
end
section
variable{prog:Program}{w:World}{A:Around}{E:Value->Shared->Prop}{s:Shared}
def wS(n d:Nat):Option Int->Nat
 |none=>d
 |some v=>if v<0 then(v+(n:Int)).toNat else min v.toNat n
theorem Eu(n d:Nat):wS n d none=d:=rfl
theorem yc(n d k:Nat):wS n d (some (k:Int))=min k n:=by show(if(k:Int)<0 then((k:Int)+(n:Int)).toNat else min (k:Int).toNat n)=min k n;rw[if_neg (by omega),Int.toNat_natCast]
end
end HT
namespace L2
open PySem PySem.Spec PyProof.Rows
abbrev TO:=St->Hp->(Option Int->Hp->Prop)->Prop
def PO(X:Cx)(e:Option Expr)(t:TO):Prop:=
 ∀(ah:List (Addr×Obj))(s:Shared)(σ:St)(H:Hp)(Q:Option Int->Hp->Prop),Inv X ah σ H s->t σ H Q->
  wpAny (model X.prog X.w) X.A (evalPart e X.env) (fun u s'=>∃o H',Inv X ah σ H' s'/\IsPart u o/\Q o H') X.xe s
def ur:TO:=fun _ H Q=>Q none H
def Ck(t:TE):TO:=fun σ H Q=>t σ H fun x H1=>∃i,x= .int i/\Q (some i) H1
theorem zuc{ns:List Int}:∀{us:List Value},b8 (ns.map V.int) us->IntsAre us ns:=by
 induction ns with
 |nil=>intro us r;rw[jv]at r;cases r;exact .nil
 |cons n ns ih=>
  intro us r;rw[au]at r;cases r with
  |cons r1 r2=>
   obtain⟨t,e⟩:=r1;subst e;exact .cons n t (ih r2)
section
variable{X:Cx}{e:Expr}{te:TE}{lo hi:Option Expr}{tl th:TO}{pos p2:Pos}
theorem UF:PO X none ur:=by intro ah s σ H Q I h;rw[evalPart_none];exact wpAny_pure ⟨none,H,I,.none,h⟩
theorem NB(h:PE X e te):PO X (some e) (Ck te):=by intro ah s σ H Q I hw;rw[evalPart_some];refine eJ (h ah s σ H _ I hw) fun u s1⟨x,H1,I1,r1,q1⟩=>?_;obtain⟨i,rfl,q⟩:=q1;obtain⟨t,rfl⟩:=r1;exact⟨some i,H1,I1,.int i t,q⟩
def NT(X:Cx)(r:V->Option Int->Option Int->Hp->VK->Prop):Prop:=
 ∀(ah:List (Addr×Obj))(s:Shared)(σ:St)(H:Hp)(x:V)(v vl vu:Value)(lo hi:Option Int)(sl:Addr)(Q:VK),Inv X ah σ H s->RelV x v->s.heap.IsSliceOf sl vl vu .none->IsPart vl lo->IsPart vu hi->r x lo hi H Q->
  ∃T id,typeLookup (.type T) "__getitem__"=pure (some (.builtin id))/\s.TypeIs v T/\wpAny (model X.prog X.w) X.A (getItem v (.ref sl)) (EP X ah σ Q) X.xe s
def OI(r:V->Option Int->Option Int->Hp->VK->Prop)(te:TE)(tl th:TO):TE:=fun σ H Q=>te σ H fun x H1=>tl σ H1 fun l H2=>th σ H2 fun u H3=>r x l u H3 Q
theorem OW{r:V->Option Int->Option Int->Hp->VK->Prop}(hr:NT X r)(he:PE X e te)(hl:PO X lo tl)(hu:PO X hi th):PE X (.Subscript e (.Slice lo hi none p2) pos) (OI r te tl th):=by intro ah s σ H Q I h;refine Subscript_ (eJ (he ah s σ H _ I h) fun v s1⟨x,H1,I1,r1,q1⟩=>?_);refine wpAny_Slice (eJ (hl ah s1 σ H1 _ I1 q1) fun vl s2⟨l,H2,I2,pl,q2⟩=>eJ (hu ah s2 σ H2 _ I2 q2) fun vu s3⟨u,H3,I3,pu,q3⟩=>?_);rw[evalPart_none];refine wpAny_pure ?_;have I4:Inv X ah σ H3 {s3 with heap:=s3.heap.push {cls:=.type "slice",data:=.fields #[vl,vu,.none]}}:=I3.kept (t':=s3.toks) fun b ob q=>Heap.get?_push_of_some _ q;obtain⟨T,id,hT,ht,hg⟩:=hr ah {s3 with heap:=s3.heap.push {cls:=.type "slice",data:=.fields #[vl,vu,.none]}} σ H3 x v vl vu l u s3.heap.objs.size Q I4 r1 (Heap.IsSliceOf.new ..) pl pu q3;show wpAny (model X.prog X.w) X.A (subscriptTail e (.Slice lo hi none p2) v (.ref s3.heap.objs.size)) (EP X ah σ Q) X.xe {s3 with heap:=s3.heap.push {cls:=.type "slice",data:=.fields #[vl,vu,.none]}};exact tail_any (ops:=[.ref s3.heap.objs.size,v]) ht hT hg (by with_unfolding_all rfl)
def qE(xs:List V)(lo hi:Option Int):List V:=(xs.drop (HT.wS xs.length 0 lo)).take (HT.wS xs.length xs.length hi-HT.wS xs.length 0 lo)
theorem zqw(xs:List V)(lo hi:Option Int):(qE xs lo hi).length<=xs.length:=by unfold qE;rw[bV,vz];omega
end
def Kr(n:Nat)(i:Int):Option Nat:=if 0<=i then(if i<n then some i.toNat else none)else if -(n:Int)<=i then some (i+n).toNat else none
def Fb{α:Type}(xs:List α)(i:Int):Option α:=(Kr xs.length i).bind fun j=>xs[j]?
theorem R9{n:Nat}{i:Int}{j:Nat}(h:Kr n i=some j):seqIndex? i n=some j/\j<n/\-(n:Int)<=i/\i<n:=by
 unfold Kr at h;by_cases h0:0<=i
 ·rw[if_pos h0]at h;by_cases h1:i<n
  ·rw[if_pos h1]at h;have e:i.toNat=j:=ak h;exact⟨by rw[seqIndex_of h0 h1,e],by omega,by omega,h1⟩
  ·rw[if_neg h1]at h;cases h
 ·rw[if_neg h0]at h;by_cases h1:-(n:Int)<=i
  ·rw[if_pos h1]at h;have e:(i+n).toNat=j:=ak h;exact⟨by rw[seqIndex_neg (by omega) h1,e],by omega,h1,by omega⟩
  ·rw[if_neg h1]at h;cases h
theorem UG{α:Type}{xs:List α}{i:Int}{v:α}(h:Fb xs i=some v):∃j,seqIndex? i xs.length=some j/\xs[j]?=some v/\j<xs.length/\-(xs.length:Int)<=i/\i<xs.length:=by
 unfold Fb at h;cases e:Kr xs.length i with
 |none=>rw[e]at h;cases h
 |some j=>
  rw[e]at h;obtain⟨h1,h2,h3,h4⟩:=R9 e;exact⟨j,h1,h,h2,h3,h4⟩
theorem KO{α:Type}{xs:List α}{j:Nat}{v:α}(h:xs[j]?=some v):Fb xs (j:Int)=some v:=by
 have hj:j<xs.length:=(aD.mp h).1;have e:Kr xs.length (j:Int)=some j:=by unfold Kr;rw[if_pos (by omega),if_pos (by omega)];simp
 unfold Fb;rw[e];exact h
def Sa(b:Expr):Prop:=∀o i,subscripted b false o i=operate [o,i] (getItem o i)
def Kc(X:Cx)(r:R2):Prop:=
 ∀(value slice:Expr)(ah:List (Addr×Obj))(s:Shared)(σ:St)(H:Hp)(x y:V)(v u:Value)(Q:VK),Inv X ah σ H s->RelV x v->RelV y u->r x y H Q->
  subscripted slice false v u=operate [v,u] (getItem v u)->wpAny (model X.prog X.w) X.A (subscriptTail value slice v u) (EP X ah σ Q) X.xe s
def Va(X:Cx)(id:String)(r:V->List V->Hp->VK->Prop):Prop:=
 ∀(ah:List (Addr×Obj))(s:Shared)(σ:St)(H:Hp)(x:V)(xs:List V)(v:Value)(us:List Value)(Q:VK),Inv X ah σ H s->RelV x v->b8 xs us->r x xs H Q->
  wpAny (model X.prog X.w) X.A (call (.builtin id) (v::us)) (EP X ah σ Q) X.xe s
section
variable{X:Cx}{a b:Expr}{ta tb:TE}{pos:Pos}
theorem bG{r:R2}(hr:Kc X r)(ha:PE X a ta)(hb:PE X b tb)(hs:Sa b):PE X (.Subscript a b pos) (JS r ta tb):=by intro ah s σ H Q I h;exact Subscript_ (IL ha hb I h fun v u s2 x y H2 I2 rx ry q=>hr a b ah s2 σ H2 x y v u Q I2 rx ry q (hs _ _))
def CW(K:aa):R2:=fun x y H Q=>∃p xs i v,x= .ref p/\y= .int i/\j1 K H p xs/\Fb xs i=some v/\Q v H
def JC(K:aa):R2:=fun x y H Q=>∃p xs i v,x= .ref p/\y= .int i/\uF K H p xs/\Fb xs i=some v/\Q v H
def Mr:R2:=fun x y H Q=>∃z i c,x= .str z/\y= .int i/\z.length<=sizeLine/\Fb z.cps.toList i=some c/\Q (.str ⟨#[c]⟩) H
theorem Sb:Kc X (CW X.K):=by
 intro value slice ah s σ H x y v u Q I rx ry h hs;obtain⟨p,xs,i,z,rfl,rfl,hq,he,q⟩:=h;cases rx
 obtain⟨t,rfl⟩:=ry;obtain⟨c7,r,pl,hz⟩:=I.list hq;obtain⟨j,h1,h2,h3,h4,h5⟩:=UG he;obtain⟨w,ew,CY⟩:=r.get h2;have hl:=r.length;have hn:=KS;have fin:EP X ah σ Q w s:=⟨z,H,I,CY,q⟩;by_cases h0:0<=i
 ·have hj:i.toNat=j:=by rw[seqIndex_of h0 h5]at h1;exact ak h1
  exact item_listR pl.isList h0 (by omega) (by rw[hj];simpa using ew) fin hs
 ·have hj:(i+(c7.toArray.size:Int)).toNat=j:=by rw[seqIndex_neg (by omega) h4]at h1;rw[aX,<-hl];exact ak h1
  exact subscriptTail_builtinR (x:=w) pl.isList.typeIs slot_list_getitem.lookup
   (wpAny_getItem_list_neg (Q:=fun r s'=>r=w/\EP X ah σ Q r s') pl.isList (by omega) (by rw[aX] <;> omega) (by omega) (by rw[hj];simpa using ew) ⟨rfl,fin⟩) hs
theorem Tq:Kc X (JC X.K):=by
 intro value slice ah s σ H x y v u Q I rx ry h hs;obtain⟨p,xs,i,z,rfl,rfl,hq,he,q⟩:=h;cases rx
 obtain⟨t,rfl⟩:=ry;obtain⟨c7,r,pl,hz⟩:=I.tuple hq;obtain⟨j,h1,h2,h3,h4,h5⟩:=UG he;obtain⟨w,ew,CY⟩:=r.get h2;have hl:=r.length;have hn:=KS;have fin:EP X ah σ Q w s:=⟨z,H,I,CY,q⟩;exact subscriptTail_builtinR (x:=w) pl.typeIs slot_tuple_getitem.lookup
  (getItem_tuple (j:=j) (Q:=fun r s'=>r=w/\EP X ah σ Q r s') pl (by omega) (by omega) (by rw[aX,<-hl];exact h1) (by simpa using ew) ⟨rfl,fin⟩) hs
theorem zza:Kc X Mr:=by
 intro value slice ah s σ H x y v u Q I rx ry h hs;obtain⟨z,i,c,rfl,rfl,hz,he,q⟩:=h;obtain⟨t,rfl⟩:=rx;obtain⟨t',rfl⟩:=ry;obtain⟨j,h1,h2,h3,h4,h5⟩:=UG he;have hl:z.cps.toList.length=z.length:=by simp[Str.length]
 rw[hl]at h1 h4 h5;have hn:=KS;exact tail_any (typeIs_str s z t) slot_str_getitem.lookup (getItem_str (c:=c) (by have e1:decide (i < -(2^63:Int))=false:=decide_eq_false (by omega);have e2:decide (i>=2^63)=false:=decide_eq_false (by omega);rw[e1,e2,Bool.or_false]) (by rw[h1];simpa using h2) ⟨.str ⟨#[c]⟩,H,I.tok _,⟨_,rfl⟩,q⟩) hs
theorem zoz(lo hi:Option Int)(n:Nat):(sliceBounds lo hi none n).1=((HT.wS n 0 lo:Nat):Int)/\(sliceBounds lo hi none n).2.1=((HT.wS n n hi:Nat):Int)/\(sliceBounds lo hi none n).2.2=1:=by
 refine⟨?_,?_,rfl⟩
 ·cases lo with
  |none=>simp[sliceBounds,HT.wS]
  |some i=>
   simp only[sliceBounds,HT.wS,E5,show(1:Int) > 0 by decide,if_true];by_cases h:i<0
   ·simp only[h,if_true] <;> omega
   ·simp only[h,if_false] <;> omega
 ·cases hi with
  |none=>simp[sliceBounds,HT.wS]
  |some i=>
   simp only[sliceBounds,HT.wS,E5,show(1:Int) > 0 by decide,if_true];by_cases h:i<0
   ·simp only[h,if_true] <;> omega
   ·simp only[h,if_false] <;> omega
theorem znp(c7:List Value)(lo hi:Option Int):slicePick c7.toArray lo hi none=((c7.drop (HT.wS c7.length 0 lo)).take (HT.wS c7.length c7.length hi-HT.wS c7.length 0 lo)).toArray:=by obtain⟨h1,h2,h3⟩:=zoz lo hi c7.toArray.size;unfold slicePick;rw[h1,h2,h3];simp only[sliceRange_one,pick_run,aX] <;> rfl
def JE(K:aa):V->Option Int->Option Int->Hp->VK->Prop:=fun x lo hi H Q=>∃a xs,x= .ref a/\j1 K H a xs/\∀p,H p=none->Q (.ref p) (aH H p (.lst (qE xs lo hi)))
theorem Sc:NT X (JE X.K):=by
 intro ah s σ H x v vl vu lo hi sl Q I rx hs pl pu h;obtain⟨a,xs,rfl,hx,q⟩:=h;cases rx
 obtain⟨c7,r,ht,hz⟩:=I.list hx;have fK:=r.length;refine⟨"list",_,slot_list_getitem.lookup,ht.isList.typeIs,?_⟩;refine wpAny_getItem_list_slice ht.isList hs pl pu .none (by simp) ?_ (by rw[aX] <;> omega);rw[znp,<-fK];refine⟨.ref s.heap.objs.size,_,I.laid (t':=s.toks) (o:=.lst (qE xs lo hi)) (fun b ob q=>Heap.get?_push_of_some _ q) (aq _) ?_,rfl,q _ (I.eB.fresh (aq _))⟩;exact⟨bO (zqw xs lo hi) hz,_,0,(r.drop (HT.wS xs.length 0 lo)).take (HT.wS xs.length xs.length hi-HT.wS xs.length 0 lo),Heap.get?_push_size _ rfl⟩
def qG:V->Bool
 | .b7=>true
 | .bl _=>true
 | .int _=>true
 | .str _=>true
 |_=>false
def BA:V->V->Bool
 | .b7,.b7=>true
 | .bl a,.bl b=>a ==b
 | .bl a,.int b=>(if a then 1 else 0) ==b
 | .int a,.bl b=>a ==(if b then 1 else 0)
 | .int a,.int b=>a ==b
 | .str a,.str b=>a ==b
 |_,_=>false
theorem Tr{A:Around}{s:Shared}{y x:V}{u v:Value}(ry:RelV y u)(rx:RelV x v)(fy:qG y=true)(fx:qG x=true):SeqAt.EqAt A s u v (BA y x):=by
 cases y with
 |b7=>
  cases ry;cases x with
  |b7=>cases rx;exact SeqAt.EqAt.same _
  |bl b=>cases rx;exact SeqAt.EqAt.none_bool b
  |int b=>obtain⟨t,rfl⟩:=rx;exact SeqAt.EqAt.none_int b t
  |str b=>obtain⟨t,rfl⟩:=rx;exact SeqAt.EqAt.none_str b t
  |_=>exact absurd (show false=true from fx) aW
 |bl a=>
  cases ry;cases x with
  |b7=>cases rx;exact SeqAt.EqAt.bool_none a
  |bl b=>cases rx;exact SeqAt.EqAt.bool_bool a b
  |int b=>obtain⟨t,rfl⟩:=rx;exact SeqAt.EqAt.bool_int a b t
  |str b=>obtain⟨t,rfl⟩:=rx;exact SeqAt.EqAt.bool_str a b t
  |_=>exact absurd (show false=true from fx) aW
 |int a=>
  obtain⟨t',rfl⟩:=ry;cases x with
  |b7=>cases rx;exact SeqAt.EqAt.int_none a t'
  |bl b=>cases rx;exact SeqAt.EqAt.int_bool a t' b
  |int b=>obtain⟨t,rfl⟩:=rx;exact SeqAt.EqAt.int_int a t' b t
  |str b=>obtain⟨t,rfl⟩:=rx;exact SeqAt.EqAt.int_str a t' b t
  |_=>exact absurd (show false=true from fx) aW
 |str a=>
  obtain⟨t',rfl⟩:=ry;cases x with
  |b7=>cases rx;exact SeqAt.EqAt.str_none a t'
  |bl b=>cases rx;exact SeqAt.EqAt.str_bool a t' b
  |int b=>obtain⟨t,rfl⟩:=rx;exact SeqAt.EqAt.str_int a t' b t
  |str b=>obtain⟨t,rfl⟩:=rx;exact SeqAt.EqAt.str_str a t' b t
  |_=>exact absurd (show false=true from fx) aW
 |_=>exact absurd (show false=true from fy) aW
def AJ(x:V)(u:Value):Bool:=match u with
 | .none=>BA .b7 x
 | .bool b=>BA (.bl b) x
 | .int i _=>BA (.int i) x
 | .str z _=>BA (.str z) x
 |_=>false
theorem zzb{x y:V}{u:Value}(r:RelV y u)(f:qG y=true):AJ x u=BA y x:=by
 cases y with
 |b7=>cases r;rfl
 |bl b=>cases r;rfl
 |int i=>obtain⟨t,rfl⟩:=r;rfl
 |str z=>obtain⟨t,rfl⟩:=r;rfl
 |_=>exact absurd (show false=true from f) aW
theorem NC{x:V}:∀{xs:List V}{us:List Value},b8 xs us->xs.all qG=true->us.any (AJ x)=xs.any fun y=>BA y x
 |_,_,.nil,_=>rfl
 |y::xs,u::us,.cons r t,f=>by rw[List.all_cons,fM]at f;rw[mR,mR,zzb r f.1,NC t f.2]
theorem Nr{A:Around}{s:Shared}{x:V}{v:Value}(rx:RelV x v)(fx:qG x=true):∀{xs:List V}{us:List Value},b8 xs us->xs.all qG=true->∀u∈us,SeqAt.EqAt A s u v (AJ x u)
 |_,_,.nil,_=>fun u hu=>by cases hu
 |y::xs,u::us,.cons r t,f=>fun u' hu=>by
  rw[List.all_cons,fM]at f;rcases ao.mp hu with rfl|hu
  ·rw[zzb r f.1];exact Tr r rx f.1 fx
  ·exact Nr rx fx t f.2 u' hu
def Gi(x:V)(xs:List V):Bool:=xs.any fun y=>BA y x
def Ov(K:aa)(neg:Bool):R2:=fun x y H Q=>∃p xs,y= .ref p/\(j1 K H p xs\/uF K H p xs)/\qG x=true/\xs.all qG=true/\Q (.bl (if neg then !Gi x xs else Gi x xs)) H
theorem zvf:oH X (compareOp .In) (Ov X.K false):=by
 intro ah s σ H x y v u Q I rx ry h;obtain⟨p,xs,rfl,hq,fx,fs,q⟩:=h;cases ry
 rcases hq with hq|hq
 ·obtain⟨c7,r,pl,hz⟩:=I.list hq;refine SeqAt.in_listAt (AJ x) pl.isList (fun w hw=>Nr rx fx r fs w (by simpa using hw)) ⟨.bl _,H,I,rfl,?_⟩;rw[show c7.toArray.any (AJ x)=c7.any (AJ x)by simp,NC r fs];exact q
 ·obtain⟨c7,r,pl,hz⟩:=I.tuple hq;refine SeqAt.in_tupleAt (AJ x) pl (fun w hw=>Nr rx fx r fs w (by simpa using hw)) ⟨.bl _,H,I,rfl,?_⟩;rw[show c7.toArray.any (AJ x)=c7.any (AJ x)by simp,NC r fs];exact q
theorem zpa:oH X (compareOp .NotIn) (Ov X.K true):=by
 intro ah s σ H x y v u Q I rx ry h;obtain⟨p,xs,rfl,hq,fx,fs,q⟩:=h;cases ry
 rcases hq with hq|hq
 ·obtain⟨c7,r,pl,hz⟩:=I.list hq;refine SeqAt.notIn_listAt (AJ x) pl.isList (fun w hw=>Nr rx fx r fs w (by simpa using hw)) ⟨.bl _,H,I,rfl,?_⟩;rw[show c7.toArray.any (AJ x)=c7.any (AJ x)by simp,NC r fs];exact q
 ·obtain⟨c7,r,pl,hz⟩:=I.tuple hq;refine SeqAt.notIn_tupleAt (AJ x) pl (fun w hw=>Nr rx fx r fs w (by simpa using hw)) ⟨.bl _,H,I,rfl,?_⟩;rw[show c7.toArray.any (AJ x)=c7.any (AJ x)by simp,NC r fs];exact q
theorem zpb:lT X (.builtin "len") (fun xs H Q=>∃p ys,xs=[.ref p]/\(j1 X.K H p ys\/uF X.K H p ys)/\Q (.int ys.length) H):=by
 intro ah s σ H xs us Q I r h;obtain⟨p,ys,rfl,hq,q⟩:=h;obtain⟨u,rfl,rx⟩:=vals1 r;cases rx
 have hn:=KS;rcases hq with hq|hq
 ·obtain⟨c7,r',pl,hz⟩:=I.list hq;have fK:=r'.length;exact Calls.call_len_list pl.isList (by simp only[aX] <;> omega) ⟨.int ys.length,H,I.tok _,⟨s.toks+1,by rw[aX,fK]⟩,q⟩
 ·obtain⟨c7,r',pl,hz⟩:=I.tuple hq;have fK:=r'.length;exact len_tuple pl (by simp only[aX] <;> omega) ⟨.int ys.length,H,I.tok _,⟨s.toks+1,by rw[aX,fK]⟩,q⟩
theorem XF:lT X (.builtin "len") (fun xs H Q=>∃z,xs=[.str z]/\z.length<=sizeLine/\Q (.int z.length) H):=by intro ah s σ H xs us Q I r h;obtain⟨z,rfl,hz,q⟩:=h;obtain⟨u,rfl,t,rfl⟩:=vals1 r;have hn:=KS;exact len_str (by omega) ⟨.int z.length,H,I.tok _,⟨_,rfl⟩,q⟩
def OM(K:aa)(T:String)(x:V)(H:Hp):Prop:=match x with
  | .str _=>T="str"
  | .int _=>T="int"
  | .ref p=>(T="list"/\∃xs,j1 K H p xs)\/(T="tuple"/\∃o,K.lookup p=some o/\o.cls= .type "tuple"/\o.dict=none)\/
      (T="dict"/\((∃kvs,H p=some (.dK kvs))\/∃kvs,H p=some (.dT kvs)))\/(T="set"/\∃S n,H p=some (.set S n))
  |_=>False
theorem zzc{ah:List (Addr×Obj)}{σ:St}{H:Hp}{s:Shared}{T:String}{x:V}{v:Value}(I:Inv X ah σ H s)(r:RelV x v)(ty:OM X.K T x H):
    s.TypeIs v T/\∀a,v= .ref a->∃ob,s.heap.get? a=some ob/\ob.dict=none:=by
  cases x with
  |str z=>
    obtain⟨t,rfl⟩:=r;cases(show T="str"from ty)
    exact⟨typeIs_str s z t,fun _ e=>nomatch e⟩
  |int i=>
    obtain⟨t,rfl⟩:=r;cases(show T="int"from ty)
    exact⟨typeIs_int s i t,fun _ e=>nomatch e⟩
  |ref p=>
    cases r;rcases ty with⟨rfl,xs,hq⟩ |⟨rfl,o,hk,hc,hd⟩ |⟨rfl,hk⟩ |⟨rfl,S,n,hk⟩
    · obtain⟨c7,_,pl,_⟩:=I.list hq;refine⟨pl.isList.typeIs,fun a e=>?_⟩;cases e
      obtain⟨o,n,e,c,hd,_⟩:=pl;exact⟨o,e,hd⟩
    · refine⟨⟨o,I.oj p o hk,hc⟩,fun a e=>?_⟩;cases e
      exact⟨o,I.oj _ o hk,hd⟩
    · have z:∃o,s.heap.get? p=some o/\o.ExactDict:=by
        rcases hk with⟨kvs,hk⟩ |⟨kvs,hk⟩
        · obtain⟨_,_,_,_,o,_,_,e,ex,_⟩:=I.eB p _ hk;exact⟨o,e,ex⟩
        · obtain⟨_,_,_,_,o,_,_,e,ex,_⟩:=I.eB p _ hk;exact⟨o,e,ex⟩
      obtain⟨o,e,ex⟩:=z;refine⟨⟨o,e,ex.1⟩,fun a e2=>?_⟩;cases e2
      exact⟨o,e,ex.2.1⟩
    · obtain⟨o,_,_,_,e,ex,_⟩:=I.eB p _ hk;refine⟨⟨o,e,ex.1⟩,fun a e2=>?_⟩;cases e2
      exact⟨o,e,ex.2.1⟩
  |_=>exact bE ty
def GB(K:aa)(T:String)(r:V->List V->Hp->VK->Prop)(to:TE):TE:=fun σ H Q=>to σ H fun x H1=>OM K T x H1/\r x [] H1 Q
def OE(K:aa)(T:String)(r:V->List V->Hp->VK->Prop)(to:TE)(t:TA):TE:=fun σ H Q=>to σ H fun x H1=>OM K T x H1/\t σ H1 fun xs H2=>r x xs H2 Q
variable{o e:Expr}{es:List Expr}{to:TE}{t:TA}{name:Str}{gC gO:Pos}{T id:String}{r:V->List V->Hp->VK->Prop}
theorem Tt(pa:PlainAttrs T)(slot:Slot T name id)(Fe:typeOf (.builtin id)=pure (.type "method_descriptor"))(hm:Va X id r)(ho:PE X o to)(nI:attributeBase o name X.env (eval o X.env)=eval o X.env:=by rfl)(nJ:(gC.endLine ==gO.line)=true:=by rfl):PE X (.Call (.Attribute o name gC) [] [] gO) (GB X.K T r to):=by
  intro ah s σ H Q I h;refine wpAny_Call_method0_late nI nJ (eJ (ho ah s σ H _ I h) fun v s1⟨x,H1,I1,r1,ty,q1⟩=>?_);obtain⟨h1,h2⟩:=zzc I1 r1 ty;exact⟨T,id,pa,slot,Fe,h1,h2,Calls.callWith_builtin rfl (iC (hm ah s1 σ H1 x [] v [] Q I1 r1 .nil q1))⟩
theorem sX(pa:PlainAttrs T)(slot:Slot T name id)(Fe:typeOf (.builtin id)=pure (.type "method_descriptor"))(hm:Va X id r)(ho:PE X o to)(ha:PA X (e::es) t)(nI:attributeBase o name X.env (eval o X.env)=eval o X.env:=by rfl)(Qx:((backTo gO (starEach (e::es) X.env)).all (fun x=>!x.1) && (backToKw gO (keywordEach [] X.env)).all (fun x=>x.1.isSome)
      && decide ((e::es).length+([]:List Keyword).length+(if([]:List Keyword).isEmpty then 0 else 1)<30))=true:=by rfl)(nJ:(gC.endLine ==gO.line)=true:=by rfl)(hs:starEach (e::es) X.env=(false,eval e X.env)::starEach es X.env:=by rfl)(hplain:(backTo gO (starEach es X.env)).any (·.1)=false:=by rfl):
    PE X (.Call (.Attribute o name gC) (e::es) [] gO) (OE X.K T r to t):=by
  intro ah s σ H Q I h;refine wpAny_Call_method_late nI Qx nJ rfl (eJ (ho ah s σ H _ I h) fun v s1⟨x,H1,I1,r1,ty,q1⟩=>?_);obtain⟨h1,h2⟩:=zzc I1 r1 ty;refine⟨T,id,pa,slot,Fe,h1,h2,?_⟩;have hA:=ha gO ah s1 σ H1 _ I1 q1;rw[hs]at hA⊢;refine Calls.callWith_builtin (by show(false||(backTo gO (starEach es X.env)).any (·.1))=false;rw[hplain] <;> rfl) (Calls.evalArgs_plain ?_);exact eJ hA fun us s2⟨vs,H2,I2,r2,q2⟩=>hm ah s2 σ H2 x vs v us Q I2 r1 r2 q2
end
def NQ(X:Cx)(id:String)(r:V->List V->Hp->VK->Prop):Prop:=
 ∀(ah:List (Addr×Obj))(s:Shared)(σ:St)(H:Hp)(x:V)(xs:List V)(v:Value)(us:List Value)(Q:VK),Inv X ah σ H s->RelV x v->b8 xs us->r x xs H Q->
  wpAny (model X.prog X.w) X.A (call (.builtin id) (v::us)) (EP X ah σ Q) X.xe s
theorem b8.one:∀{x:V}{us:List Value},b8 [x] us->∃u,us=[u]/\RelV x u
 |_,_,.cons r .nil=>⟨_,rfl,r⟩
theorem b8.two:∀{x y:V}{us:List Value},b8 [x,y] us->∃u v,us=[u,v]/\RelV x u/\RelV y v
 |_,_,_,.cons r (.cons q .nil)=>⟨_,_,rfl,r,q⟩
theorem b8.zero:∀{us:List Value},b8 [] us->us=[]
 |_,.nil=>rfl
theorem b8.eraseIdx:∀{xs:List V}{us:List Value}(i:Nat),b8 xs us->b8 (xs.eraseIdx i) (us.eraseIdx i)
 |_,_,_,.nil=>.nil
 |_,_,0,.cons _ t=>t
 |_,_,i+1,.cons r t=>.cons r (b8.eraseIdx i t)
theorem b8.reverse{xs:List V}{us:List Value}(h:b8 xs us):b8 xs.reverse us.reverse:=by
 induction h with
 |nil=>exact .nil
 |cons r t ih=>rw[FU,FU];exact b8.append ih (.cons r .nil)
theorem YC{α:Type}:∀(l:List α)(i:Nat),(l.eraseIdx i).length<=l.length
 |[],_=>aq _
 |_::_,0=>iq _
 |_::r,i+1=>Nat.succ_le_succ (YC r i)
section
variable{X:Cx}{ah:List (Addr×Obj)}{σ:St}{H:Hp}{s:Shared}{l b:Addr}{xs ys zs:List V}
theorem Inv.Go{c7 its':List Value}{n:Nat}{f:Array Value->Array Value}{t':Nat}(I:Inv X ah σ H s)(hH:H l=some (.lst xs))(e:s.heap.get? l=some {cls:=.type "list",data:=.seq c7.toArray n})(hf:f c7.toArray=its'.toArray)(hv:b8 ys its')(hz:ys.length<=sizeLine):
    Inv X ah σ (aH H l (.lst ys)) {s with heap:=s.heap.update l (Obj.mapSeq f),toks:=t'}:=by
  have q:=PySem.IsL.update e f;rw[hf]at q;refine I.write (x:=l) (e:=l) (by rw[hH];exact trivial) (.inl rfl) (fun b' u hb hu=>(Heap.get?_update_other s.heap (Obj.mapSeq f) (d8 hb)).trans hu) ⟨_,q⟩ ?_;exact⟨hz,its',_,hv,q⟩
theorem Inv.Rh{c7:List Value}{t':Nat}(I:Inv X ah σ H s)(hv:b8 ys c7)(hz:ys.length<=sizeLine):
    Inv X ah σ (aH H s.heap.objs.size (.lst ys)) {s with heap:=s.heap.push {cls:=.type "list",data:=.seq c7.toArray},toks:=t'}:=
  I.laid (fun _ _ q=>Heap.get?_push_of_some _ q) (aq _) ⟨hz,c7,0,hv,Heap.get?_push_size _ rfl⟩
theorem Inv.fresh(I:Inv X ah σ H s):H s.heap.objs.size=none:=I.eB.fresh (aq _)
theorem Inv.CN(I:Inv X ah σ H s)(hH:H l=some (.lst xs)):xs.length<=sizeLine/\∃(c7:List Value)(n:Nat),b8 xs c7/\xs.length=c7.length/\s.heap.get? l=some {cls:=.type "list",data:=.seq c7.toArray n}:=by obtain⟨z,c7,n,r,e⟩:=I.eB l _ hH;exact⟨z,c7,n,r,r.length,e⟩
end
section
variable{X:Cx}
def ZN:V->List V->Hp->VK->Prop:=fun x vs H Q=>∃l xs y,x= .ref l/\vs=[y]/\H l=some (.lst xs)/\xs.length<sizeLine/\Q .b7 (aH H l (.lst (xs++[y])))
theorem Ii:NQ X "list.append" ZN:=by
 intro ah s σ H x vs v us Q I rx rv h;obtain⟨l,xs,y,rfl,rfl,hH,hz,q⟩:=h;cases rx
 obtain⟨u,rfl,ru⟩:=rv.one;obtain⟨z,c7,n,r,hl,e⟩:=I.CN hH;refine call_meets F.slot_list_append ⟨_,e,rfl⟩ F.entry_list_append (F.args_list_append_2 _ _) (PySem.list_append l c7.toArray n u (by rw[aX];omega)) ⟨e,?_⟩;refine⟨.b7,_,I.Go (its':=c7++[u]) hH e (by simp) (r.append (.cons ru .nil)) ?_,rfl,q⟩;rw[bF,List.length_singleton];omega
def Tu:V->List V->Hp->VK->Prop:=fun x vs H Q=>∃l xs i k y,x= .ref l/\vs=[.int i]/\H l=some (.lst xs)/\-(2^63)<=i/\i<2^63/\seqIndex? i xs.length=some k/\xs[k]?=some y/\Q y (aH H l (.lst (xs.eraseIdx k)))
theorem zxt:NQ X "list.pop" Tu:=by
 intro ah s σ H x vs v us Q I rx rv h;obtain⟨l,xs,i,k,y,rfl,rfl,hH,h1,h2,hk,hy,q⟩:=h;cases rx
 obtain⟨u,rfl,ru⟩:=rv.one;obtain⟨t,rfl⟩:=ru;obtain⟨z,c7,n,r,hl,e⟩:=I.CN hH;obtain⟨w,hw,CY⟩:=r.get hy;refine call_meets F.slot_list_pop ⟨_,e,rfl⟩ F.entry_list_pop (F.args_list_pop_2 _ _)
  (MeetsSeq.list_pop_at l c7.toArray n i t k w (fitsIndex_both h1 h2) (by rw[aX,<-hl];exact hk) (by rw[<-oq];exact hw) (by rw[aX];omega)) ⟨e,?_⟩;refine⟨y,_,I.Go (its':=c7.eraseIdx k) hH e ?_ (r.eraseIdx k) ?_,CY,q⟩
 ·show c7.toArray.eraseIdxIfInBounds k=(c7.eraseIdx k).toArray;rw[List.eraseIdxIfInBounds_toArray]
 ·have:=YC xs k;omega
def zxu:V->List V->Hp->VK->Prop:=fun x vs H Q=>∃l xs,x= .ref l/\vs=[]/\H l=some (.lst xs)/\Q .b7 (aH H l (.lst xs.reverse))
theorem zud:NQ X "list.reverse" zxu:=by
 intro ah s σ H x vs v us Q I rx rv h;obtain⟨l,xs,rfl,rfl,hH,q⟩:=h;cases rx
 have hus:=rv.zero;subst hus;obtain⟨z,c7,n,r,hl,e⟩:=I.CN hH;refine call_meets F.slot_list_reverse ⟨_,e,rfl⟩ F.entry_list_reverse (F.args_list_reverse_1 _) (AutoSeq1.list_reverse_list_0 l c7.toArray n (by rw[aX];omega)) ⟨e,?_⟩;refine⟨.b7,_,I.Go (its':=c7.reverse) hH e (by simp) r.reverse ?_,rfl,q⟩;rw[dI];omega
def RB:R2:=fun x y H Q=>∃l b xs zs,x= .ref l/\y= .ref b/\H l=some (.lst xs)/\H b=some (.lst zs)/\xs.length+zs.length<=sizeLine/\∀p,H p=none->Q (.ref p) (aH H p (.lst (xs++zs)))
theorem Tv:oH X (binaryOp .Add) RB:=by
 intro ah s σ H x y v u Q I rx ry h;obtain⟨l,b,xs,zs,rfl,rfl,hH,hB,hz,q⟩:=h;cases rx
 cases ry;obtain⟨z,c7,n,r,hl,e⟩:=I.CN hH
 obtain⟨z2,LO,n2,r2,Ds,e2⟩:=I.CN hB;refine PySem.P.add_list e e2 ?_ (by rw[aX,aX];omega);have ea:c7.toArray++LO.toArray=(c7++LO).toArray:=by simp
 rw[ea];exact⟨.ref _,_,I.Rh (t':=s.toks) (r.append r2) (by rw[bF];omega),rfl,q _ I.fresh⟩
end
section
variable{prog:Program}{w:World}{A:Around}{E:Value->Shared->Prop}{s:Shared}
end
section
variable{X:Cx}
end
end L2
namespace U6
open PySem PySem.W PySem.Calls PyProof.Rows
theorem zkp{P:Params}{h:Heap}:∀(ns:List Int)(vs:List Value),WellAll P h vs (ns.map WData.int)->IntsAre vs ns:=by
 intro ns
 induction ns with
 |nil=>
  intro vs w;rw[jv]at w;cases w
  exact .nil
 |cons n ns ih=>
  intro vs w;rw[au]at w;cases w with
  |cons a b=>
   cases a;exact .cons _ _ (ih _ b)
theorem zvh{l:OpenLaw}{n:Nat}(hn:l.most=some n){P:Params}{h:Heap}{args:List WData}{JW:List Value}(Gc:l.row.toRowW.claim.pre args=true)(Q5:WellAll P h JW args):
    ∃a vs ns,JW=[Value.ref a]/\args=[WData.list (ns.map WData.int)]/\h.get? a=some {cls:=.type "list",data:=.seq vs.toArray}/\IntsAre vs ns/\ns.length<=n:=by
  have hsh:WShape.hasAll [] args [.list .int]=true:=(pre_splitW Gc).1;have hc:l.pre.holds [] {args:=args}=true:=(pre_splitW Gc).2;obtain⟨d,r,rfl,h1,h2⟩:=hasAllW_cons hsh;obtain rfl:=hasAllW_nil h2;obtain⟨xs,rfl,h3⟩:=hasW_list h1;obtain⟨ns,rfl⟩:=items_int h3;have fK:ns.length<=n:=by
    unfold OpenLaw.pre at hc;have h4:(WTm.not (.lt (.lit (.int (n:Int))) (.len (.arg 0)))).holds [] {args:=[.list (ns.map .int)]}=true:=by have h4:=(holds_andW hc).1;rw[hn]at h4;exact h4
    have h5:=condW_of h4 (w_not (w_lt w_lit (w_len_list (w_arg rfl))));rw[ae]at h5;refine Nat.le_of_not_lt fun q=>?_;have q':(n:Int)<((ns.length:Nat):Int):=by omega
    first
      |(rw[decide_eq_true q']at h5;exact absurd h5 (by decide))
      |(simp at h5;omega)
  cases Q5 with
  |cons w1 w2=>
    cases w2;cases w1 with
    |list ho kE=>exact⟨_,_,ns,rfl,rfl,ho,zkp ns _ kE,fK⟩
theorem zvi(l:OpenLaw)(args:List WData):l.row.toRowW.claim.post args (.bool true) args=true:=
 postW_of (r:=l.row.toRowW) (X:=(true ==true))
  (show WShape.has [] (.bool true) .bool=true by first|rfl|decide|simp[WShape.has,WShape.arms,WShape.armsAll])
  (show(WTm.eq .res (.lit (.bool true))).value [] {args:=args,res:=some (.bool true),after:=args}=some (.bool (true ==true))from w_eq_bool (w_res rfl) w_lit) rfl
theorem y9{l:OpenLaw}{n:Nat}{q:Program}{wO:List Str}{XP:(Str->Option Value)->Heap->Prop}{YP:World->Heap->Prop}{d:DefRec}(hn:l.most=some n)(Ls:d.params.defaults=[])(call:∀(w:World)(s₀ s₁:Shared)(mg mb:Str->Option Value)(fa:Addr)(o:Obj)(pm cd oR:Value)(a:Addr)(vs:List Value)(ns:List Int),
      Ground q wO [] XP w s₀ mg mb s₁.heap->YP w s₁.heap->
      s₁.heap.get? fa=some o->o.data= .func (docDef d.name d.params d.body d.scope pm cd oR)->s₁.heap.CodeRec cd d.name->mg d.name=some (.ref fa)->
      s₁.heap.get? a=some {cls:=.type "list",data:=.seq vs.toArray}->IntsAre vs ns->ns.length<=n->s₁.gens= #[]->
      codeAny (model l.prog w) callerA (.call (.ref fa) ⟨[.ref a],[]⟩) (fun r s'=>r= .ok (.ret (.bool true))/\OldK s₁.heap s'.heap/\s'.os=s₁.os/\AllBare s'.gens) s₁):
    WalkO q wO XP YP l.row.toRowW d [] (fun f vs=>DO f vs):=by
  intro w s₀ s₁ mg mb G Y fa o pm cd oR dV kV ho hd tO hD Lz hg args JW as Gc abw hrd Q5 hlo;obtain rfl:dV= .none:=Dflts.none hD Ls;obtain rfl:kV= .none:=Dflts.noKw hD;obtain⟨a,vs,ns,rfl,rfl,Jb,D4,fK⟩:=zvh hn Gc Q5;refine enter_call (codeAny_mono (call w s₀ s₁ mg mb fa o pm cd oR a vs ns G Y ho (fd_plain hd) tO Lz Jb D4 fK hg) fun r s' hq=>?_);obtain⟨rfl,h2,h3,h4⟩:=hq;exact⟨.inl ⟨.bool true,.bool true,[],rfl,fun _=>rfl,.bool true,zvi l _,fun _=>⟨List.Pairwise.nil,fun _ hm=>(nomatch hm)⟩⟩,h2,h3,h4⟩
section
variable{prog:Program}{w:World}{A:Around}{E:Value->Shared->Prop}{s:Shared}{K:Frag}
end
end U6
namespace L2
open PySem PySem.Spec PyProof.Rows
theorem YE:∀{vs:List Value}{ns:List Int},IntsAre vs ns->b8 (ns.map V.int) vs
 |_,_,.nil=>.nil
 |_,_,.cons n t h=>.cons ⟨t,rfl⟩ (YE h)
def IJ(H:Hp):Prop:=∀b,H b=none\/∃o xs,H b=some (.jm o (.lst xs))
theorem Ei {P:Program} {w:World} {K:aa} {mg mb:Str->Option Value} {CX:vy} {k:Nat} {fa a:Addr} {fd:FuncData} {x:Str} {sp:Sp} {s₁:Shared} {vs:List Value} {ns:List Int}
    (KX:K.In s₁.heap) (VM:s₁.heap.Ns mainGlobals mg) (hb:s₁.heap.Ns builtinsNs mb) (N7:∀ x:Str,x ≠ "__name__" -> mb x=bootBuiltins x) (QG:s₁.heap.NoLimit) (hg:s₁.gens = #[])
    (ha:s₁.heap.get? a=some { cls:=.type "list", data:=.seq vs.toArray }) (hi:IntsAre vs ns) (hl:ns.length<=sizeLine) (hr:gM k callerA)
    (F:∀ base:Heap,K.In base->base.Ns mainGlobals mg->rO P w K mg base CX k fa fd [x] sp) (Lp:∀ (s:Shared) (u:Value),BindsTo s fd ⟨[u],[]⟩ [(x,u)])
    (rH:∀ H:Hp,IJ H->j1 K H a (ns.map V.int)->sp [.ref a] H (fun v _=>v = .bl true) fun _ _ _=>False)
    (Qo:∀ H e s',CX [] H s₁ (fun _ _ _=>False) e s'->False) :
    codeAny (model P w) callerA (.call (.ref fa) ⟨[.ref a],[]⟩) (fun r s'=>r = .ok (.ret (.bool true))/\OldK s₁.heap s'.heap/\s'.os=s₁.os/\AllBare s'.gens) s₁:=by
  have rv:=YE hi
  have Rc:=hi.length
  have Ld:∀ H:Hp,IJ H->j1 K H a (ns.map V.int)->lV P w H s₁.heap->(∀ b,H b≠none->b=a)->(H a≠none->K.lookup a=none) ->
      codeAny (model P w) callerA (.call (.ref fa) ⟨[.ref a],[]⟩) (fun r s'=>r = .ok (.ret (.bool true))/\OldK s₁.heap s'.heap/\s'.os=s₁.os/\AllBare s'.gens) s₁:=by
    intro H hO hS eB hA hK
    have Br:∀ {b:Addr} {o:Obj},s₁.heap.get? b=some o->H b=none->(xU s₁.heap H).get? b=some o:=fun e n=>zxm e n
    have L1:∀ {b:Addr} {o:Obj} {es:Array DictEntry} {ep:Nat},s₁.heap.get? b=some o->o.data = .dict es ep->H b=none:=fun {b o es ep} e d=>by
      cases q:H b with
      | none=>rfl
      | some u =>
        have e':b=a:=hA b (by rw [q]; simp)
        subst e'
        rw [ha] at e; cases e
        have d':Data.seq vs.toArray _=Data.dict es ep:=d
        cases d'
    have Ot:∀ {b:Addr} {m:Str->Option Value},s₁.heap.Ns b m->(xU s₁.heap H).Ns b m:=fun {b m} ⟨o,es,ep,e,d,r⟩=>⟨o,es,ep,Br e (L1 e d),d,r⟩
    have Vv:K.In (xU s₁.heap H):=fun b o e=>Br (KX b o e) (by
      cases q:H b with
      | none=>rfl
      | some u =>
        have e':b=a:=hA b (by rw [q]; simp)
        subst e'
        rw [hK (by rw [q]; simp)] at e; cases e)
    have hM:Mod K mg (xU s₁.heap H):=⟨Vv,Ot VM,⟨mb,Ot hb,N7⟩,let ⟨mc,h1,h2⟩:=QG; ⟨mc,Ot h1,h2⟩⟩
    have e0:Ar P w K mg (xU s₁.heap H) callerA [] s₁ H:=⟨rfl,hM,fun b o e=>zzx e,Nat.le_of_eq (zus _ _),trivial,fun b hb=>absurd (show b∈([]:List Addr) from hb) (by simp),eB,.of_eq hg⟩
    refine codeAny_mono ((F _ Vv (Ot VM)).run callerA [] s₁ H ⟨[.ref a],[]⟩ [.ref a] [.ref a] _ _ hr e0 (Lp s₁ (.ref a)) (.cons rfl .nil) (rH H hO hS)) fun r s' h=>?_
    cases r with
    | error e=>exact (Qo H e s' h).elim
    | ok fl =>
      cases fl with
      | next=>exact bE h
      | brk=>exact bE h
      | cont=>exact bE h
      | ret u =>
        obtain ⟨v,H',os,bare,un,QS,r',q⟩:=h
        have q':v = .bl true:=q
        subst q'
        obtain rfl:u=Value.bool true:=r'
        refine ⟨rfl,OldK.of_keep fun b o e=>?_,os,bare⟩
        cases q:H b with
        | none=>exact un.keep b o e q (by intro z; exact absurd (show b∈([]:List Addr) from z) (by simp)) (by simp)
        | some u =>
          rcases hO b with z | ⟨ob,xs,z⟩
          · rw [q] at z; cases z
          · have z2:=un.mV b ob _ z
            obtain ⟨e1,_⟩:=eB b _ z
            obtain ⟨e2,_⟩:=QS b _ z2
            rw [e] at e1; cases e1
            exact e2
  cases hk:K.lookup a with
  | some o =>
    have e:=KX a o hk
    rw [ha] at e
    cases e
    refine Ld (fun _=>none) (fun _=>.inl rfl) (.inr ⟨_,vs.toArray,_,hk,rfl,rfl,rfl,by rw [aX,Rc]; exact hl,by simpa using rv⟩) (fun b u z=>by have z':(none:Option HO)=some u:=z; cases z') (fun b z=>absurd rfl z) fun z=>absurd rfl z
  | none =>
    refine Ld (fun b=>if b=a then some (.jm { cls:=.type "list", data:=.seq vs.toArray } (.lst (ns.map V.int))) else none) (fun b=>?_) (.inl (.inr ⟨{ cls:=.type "list", data:=.seq vs.toArray },if_pos rfl⟩)) (fun b u z=>?_) (fun b z=>?_) fun _=>hk
    · by_cases hb:b=a
      · exact .inr ⟨_,_,if_pos hb⟩
      · exact .inl (if_neg hb)
    · by_cases hb:b=a
      · have z':=(if_pos hb).symm.trans z
        cases z'
        subst hb
        exact ⟨ha,by rw [ae]; exact hl,vs,_,rv,ha⟩
      · have z':=(if_neg hb).symm.trans z
        cases z'
    · by_cases hb:b=a
      · exact hb
      · exact absurd (if_neg hb) z
abbrev KOf{K:aa}{h:Heap}(_:K.In h):aa:=K
theorem GO{l:uB}{n k:Nat}{q:Program}{wO:List Str}{XP:(Str->Option Value)->Heap->Prop}{YP:World->Heap->Prop}{d:DefRec}{K:Params->aa}{CX:World->vy}{sp:World->Sp}{x:Str}(hn:l.most=some n)(Oa:n<=sizeLine)(Ls:d.params.defaults=[])(hr:gM k callerA)(hY:∀(w:World)(h:Heap),YP w h->(K w.params).In h)(F:∀(w:World)(mg:Str->Option Value)(fa:Addr)(h:Heap),(K w.params).In h->h.Ns mainGlobals mg->mg d.name=some (.ref fa)->
      ∃fd:FuncData,(∀(s:Shared)(u:Value),BindsTo s fd ⟨[u],[]⟩ [(x,u)])/\
        ∀base:Heap,(K w.params).In base->base.Ns mainGlobals mg->rO l.prog w (K w.params) mg base (CX w) k fa fd [x] (sp w))(rH:∀(w:World)(H:Hp)(a:Addr)(ns:List Int),ns.length<=n->IJ H->j1 (K w.params) H a (ns.map V.int)->sp w [.ref a] H (fun v _=>v= .bl true) fun _ _ _=>False)(Qo:∀(w:World)(H:Hp)(s:Shared)(e:Value)(s':Shared),CX w [] H s (fun _ _ _=>False) e s'->False):
    G7 q wO XP YP l.row.toRowW d [] (fun f vs=>DO f vs):=by
  refine U6.y9 hn Ls fun w s₀ s₁ mg mb fa o pm cd oR a vs ns G Y ho hd tO Lz Jb D4 fK hg=>?_;have KX:=hY w _ Y;obtain⟨fd,hb,hF⟩:=F w mg fa _ KX G.T.g Lz;exact Ei KX G.T.g G.T.b G.T.builtins G.T.nolimit hg Jb D4 (bO fK Oa) hr hF hb (fun H hO hS=>rH w H a ns fK hO hS) fun H e s'=>Qo w H s₁ e s'
def hU(s:Stmt)(j:Nat):Stmt:=match s with
 | .ClassDef _ _ _ body _ _ _ _ _ _ _=>body.getD j (.Pass ⟨0,0,0,0⟩)
 |_=>.Pass ⟨0,0,0,0⟩
def xn(s:Stmt):Arguments:=match s with
 | .FunctionDef _ a _ _ _ _ _ _ _ _=>a
 |_=>{posonlyargs:=[],args:=[],vararg:=none,kwonlyargs:=[],kw_defaults:=[],kwarg:=none,defaults:=[]}
def rK(s:Stmt):List Stmt:=match s with
 | .FunctionDef _ _ b _ _ _ _ _ _ _=>b
 |_=>[]
def dX(s:Stmt):Scope:=match s with
 | .FunctionDef _ _ _ _ _ _ sc _ _ _=>sc
 |_=>{kind:=.function,names:=[],isGenerator:=false,isCoroutine:=false}
abbrev J9:vy:=fun _ _ _ _ _ _=>False
abbrev E0:XK:=fun _ _ _=>False
structure Iw(K:aa)(x dQ:Str)(st:Stmt)(f:Addr)(fd:FuncData):Prop where
 ex:∃(oc:Value)(od:Option Addr)(kV oR pm:Value)(an:Option Addr)(b9 ct:Value)(uZ:Array (Option Value)),
  fd=bK x dQ (xn st) (rK st) (dX st) .none kV oR pm an b9 ct/\K.lookup f=some ⟨oc,od,.func fd,uZ⟩/\dM K b9 dQ=true
 kp:br K (.ref f)=true
section
variable{P:Program}{w:World}{K:aa}{mg:Str->Option Value}{base:Heap}
theorem Iw.ok{x dQ:Str}{st:Stmt}{f:Addr}{fd:FuncData}{N ps:List Str}{k:Nat}{sp:Sp}(F:Iw K x dQ st f fd)(S:aB N ps (dX st))(len:∀vs H Q E,sp vs H Q E->vs.length=ps.length)(jC:∀(b9:Value)(A:Around)(outer:List Env)(s:Shared)(H:Hp)(vs:List V)(Q:VK)(E:XK),gM k (A.deeper (envOfC dQ (dX st) s.heap.objs.size f b9))->sp vs H Q E->
      ∃t,ud (oQ J9 P w K mg base N dQ (dX st) f b9 A outer s H E).Dv (rK st) t/\t {nx:=fun _ H'=>Q .b7 H',rt:=Q} (start N vs) H):rO P w K mg base J9 (k+1) f fd ps sp:=by
  obtain⟨oc,od,kV,oR,pm,an,b9,ct,uZ,rfl,lk,tO⟩:=F.ex;refine sU lk tO S len fun A outer s H vs Q E hr rH=>?_;obtain⟨t,h,q⟩:=jC b9 A outer s H vs Q E hr rH;exact⟨t,h.Dv,q⟩
theorem Iw.binds{x dQ:Str}{st:Stmt}{f:Addr}{fd:FuncData}{ps:List Str}(F:Iw K x dQ st f fd)(h:∀(kV oR pm:Value)(an:Option Addr)(b9 ct:Value)(us:List Value),us.length=ps.length->bindArgs (bK x dQ (xn st) (rK st) (dX st) .none kV oR pm an b9 ct) ⟨us,[]⟩=pure (ps.zip us)):Binds K fd ps []:=by
  obtain⟨oc,od,kV,oR,pm,an,b9,ct,uZ,rfl,lk,tO⟩:=F.ex;exact .all (h kV oR pm an b9 ct)
theorem KU{x dQ:Str}{st:Stmt}{f:Addr}{oc:Value}{od an:Option Addr}{uZ:Array (Option Value)}{kV oR pm b9 ct:Value}(l:K.lookup f=some ⟨oc,od,.func (bK x dQ (xn st) (rK st) (dX st) .none kV oR pm an b9 ct),uZ⟩)(c:dM K b9 dQ=true)(k:br K (.ref f)=true):Iw K x dQ st f (bK x dQ (xn st) (rK st) (dX st) .none kV oR pm an b9 ct):=⟨⟨oc,od,kV,oR,pm,an,b9,ct,uZ,rfl,l,c⟩,k⟩
end
theorem bY{A:Around}{k:Nat}(hr:gM k A):A.units+1<cLine:=FY (Nat.add_le_add_left (by decide:1<=64) _) hr.units
section
variable{X:Cx}
theorem pv(i:Nat){x:Str}{pos:Pos}(hN:X.N[i]?=some x:=by rfl)(hv:PV X.env.scope x:=by first|exact Or.inl rfl|exact Or.inr (Or.inl rfl) |exact Or.inr (Or.inr rfl))(hd:(x ==("__debug__":Str))=false:=by decide)(tO:(x ==("__classdict__":Str))=false:=by decide):PE X (.Name x pos) (Ac i):=Tg hN hv hd tO
end
theorem fX{c A B:Prop}[Decidable c](h1:c->A)(h2:¬c->B):if c then A else B:=by
 by_cases h:c
 ·rw[if_pos h];exact h1 h
 ·rw[if_neg h];exact h2 h
def bI(H H':Hp):Prop:=∀b o,H b=some o->H' b=some o
theorem bI.refl(H:Hp):bI H H:=fun _ _ h=>h
theorem bI.trans{H H1 H2:Hp}(a:bI H H1)(b:bI H1 H2):bI H H2:=fun c o h=>b c o (a c o h)
theorem bI.free{H H':Hp}(e:bI H H'){l:Addr}(h:H' l=Option.none):H l=Option.none:=by
 cases q:H l with
 |none=>rfl
 |some o=>
  rw[e l o q]at h;cases h
theorem bI.seq{K:aa}{H H':Hp}{a:Addr}{xs:List V}(e:bI H H')(h:j1 K H a xs):j1 K H' a xs:=by
 rcases h with(h|⟨o,h⟩) |h
 ·exact .inl (.inl (e _ _ h))
 ·exact .inl (.inr ⟨o,e _ _ h⟩)
 ·exact .inr h
end L2
set_option maxHeartbeats 4000000
namespace L2
open PySem PySem.Spec PyProof.Rows
theorem hg{G:Prop}(h:∀G':Prop,(G->G')->G'):G:=h G id
theorem Kg{α:Type}{P:List α->Prop}{n:Nat}(h:∀x r,r.length=n->P (x::r)):∀us:List α,us.length=n+1->P us
 |[],e=>absurd e (by simp)
 |x::r,e=>h x r (by simpa using e)
theorem el0{α:Type}{P:List α->Prop}(h:P []):∀us:List α,us.length=0->P us
 |[],_=>h
 |_::_,e=>absurd e (by simp)
theorem AF{α:Type}{P:List α->Prop}(h:∀x0,P [x0]):∀us:List α,us.length=1->P us:=Kg fun x r e=>el0 (P:=fun r=>P (x::r)) (h x) r e
theorem AG{α:Type}{P:List α->Prop}(h:∀x0 x1,P [x0,x1]):∀us:List α,us.length=2->P us:=Kg fun x r e=>AF (P:=fun r=>P (x::r)) (h x) r e
theorem AH{α:Type}{P:List α->Prop}(h:∀x0 x1 x2,P [x0,x1,x2]):∀us:List α,us.length=3->P us:=Kg fun x r e=>AG (P:=fun r=>P (x::r)) (h x) r e
theorem By{α:Type}{P:List α->Prop}(h:∀x0 x1 x2 x3,P [x0,x1,x2,x3]):∀us:List α,us.length=4->P us:=Kg fun x r e=>AH (P:=fun r=>P (x::r)) (h x) r e
theorem Vg{α:Type}{P:List α->Prop}(h:∀x0 x1 x2 x3 x4,P [x0,x1,x2,x3,x4]):∀us:List α,us.length=5->P us:=Kg fun x r e=>By (P:=fun r=>P (x::r)) (h x) r e
theorem CC{α:Type}{P:List α->Prop}(h:∀x0 x1 x2 x3 x4 x5,P [x0,x1,x2,x3,x4,x5]):∀us:List α,us.length=6->P us:=Kg fun x r e=>Vg (P:=fun r=>P (x::r)) (h x) r e
end L2
namespace Sw
def dv(a b:Int):Int:=(Int.gcd a b:Nat)
theorem Bv(a b:Int):0<=dv a b:=Int.natCast_nonneg _
theorem xR(a b:Int):dv a b∣a:=Int.gcd_dvd_left a b
theorem tN(a b:Int):dv a b∣b:=Int.gcd_dvd_right a b
theorem Sd(a b:Int):dv a b=dv b a:=by unfold dv;rw[Int.gcd_comm]
theorem ZO(a b:Int):dv (-a) b=dv a b:=by unfold dv;rw[Int.neg_gcd]
theorem ZP(a b:Int):dv a (-b)=dv a b:=by unfold dv;rw[Int.gcd_neg]
theorem Bx(a:Int)(h:0<=a):dv a 0=a:=by unfold dv;rw[Int.gcd_zero_right];omega
theorem Tw{a b:Int}(h:dv a b=0):a=0/\b=0:=by unfold dv at h;exact Int.gcd_eq_zero_iff.mp (by omega)
theorem DT{a b:Int}(h:b≠0):0<dv a b:=by
 have:=Bv a b;rcases Int.lt_or_eq_of_le this with q|q
 ·exact q
 ·exact absurd (Tw q.symm).2 h
theorem zzd{a b c:Int}(h1:c∣a)(h2:c∣b):c∣dv a b:=Int.dvd_coe_gcd h1 h2
theorem Tz{a b c d:Int}(h:∀x:Int,(x∣a/\x∣b)↔(x∣c/\x∣d)):dv a b=dv c d:=by have h1:dv a b∣dv c d:=zzd ((h _).mp ⟨xR a b,tN a b⟩).1 ((h _).mp ⟨xR a b,tN a b⟩).2;have h2:dv c d∣dv a b:=zzd ((h _).mpr ⟨xR c d,tN c d⟩).1 ((h _).mpr ⟨xR c d,tN c d⟩).2;exact Iz (Bv _ _) (Bv _ _) h1 h2
theorem Bw(a b:Int):dv b (a % b)=dv a b:=by
 refine Tz fun x=>⟨fun⟨h1,h2⟩=>⟨?_,h1⟩,fun⟨h1,h2⟩=>⟨h2,?_⟩⟩
 ·have e:=Int.mul_ediv_add_emod a b;rw[<-e];exact Int.dvd_add (Int.dvd_trans h1 (G3 b _)) h2
 ·rw[Int.emod_def];exact Int.dvd_sub h1 (Int.dvd_trans h2 (G3 b _))
theorem IQ(a b:Int):dv (if a<0 then -a else a) (if b<0 then -b else b)=dv a b:=by split <;> split <;> simp only[ZO,ZP]
theorem zxv(g a b:Int)(h:0<=g):dv (g*a) (g*b)=g*dv a b:=by
 unfold dv;rw[Int.gcd_mul_left];have:((g.natAbs*a.gcd b:Nat):Int)=(g.natAbs:Int)*(a.gcd b:Nat):=by simp
 rw[this];congr 1;omega
theorem Se{a b:Int}(h:dv a b≠0):dv (a / dv a b) (b / dv a b)=1:=by
 have hp:0<dv a b:=by have:=Bv a b;omega
 have e1:a=dv a b*(a / dv a b):=(DG (xR a b)).symm;have e2:b=dv a b*(b / dv a b):=(DG (tN a b)).symm;have e:dv a b=dv a b*dv (a / dv a b) (b / dv a b):=by have:=zxv (dv a b) (a / dv a b) (b / dv a b) (iu hp);rw[<-e1,<-e2]at this;exact this
 have e':dv a b*1=dv a b*dv (a / dv a b) (b / dv a b):=by rw[Int.mul_one];exact e
 exact(Int.eq_of_mul_eq_mul_left (by omega) e').symm
structure Fr(n d:Int):Prop where
 pos:0<d
 low:dv n d=1
theorem Pc{n d x:Int}(h:dv n d=1)(q:d∣n*x):d∣x:=by
 have h':DK d.natAbs n.natAbs:=by
  unfold dv at h;have:Int.gcd n d=1:=by omega
  unfold DK;rw[Nat.gcd_comm];exact this
 have q':d.natAbs∣n.natAbs*x.natAbs:=by rw[<-Int.natAbs_mul];exact pK.mpr q
 exact pK.mp (h'.dvd_of_dvd_mul_left q')
theorem Fr.uniq{n d m e:Int}(h:Fr n d)(k:Fr m e)(q:n*e=m*d):n=m/\d=e:=by have h1:d∣e:=Pc h.low ⟨m,by rw[q,uw]⟩;have h2:e∣d:=Pc k.low ⟨n,by rw[<-q,uw]⟩;have e1:d=e:=Iz (iu h.pos) (iu k.pos) h1 h2;subst e1;have:=h.pos;exact⟨Int.eq_of_mul_eq_mul_right (by omega) q,rfl⟩
def rN(t b:Int):Int:=if b<0 then t / (-(dv t b))else t / dv t b
def rD(t b:Int):Int:=if b<0 then b / (-(dv t b))else b / dv t b
theorem TF{t b:Int}:rN t b*(if b<0 then -(dv t b)else dv t b)=t:=by
 unfold rN;split
 ·exact k6 (wB.mpr (xR t b))
 ·exact k6 (xR t b)
theorem TH{t b:Int}:rD t b*(if b<0 then -(dv t b)else dv t b)=b:=by
 unfold rD;split
 ·exact k6 (wB.mpr (tN t b))
 ·exact k6 (tN t b)
theorem zvl{t b:Int}(h:b≠0):rN t b*b=rD t b*t:=by
 have e1:=TF (t:=t) (b:=b);have e2:=TH (t:=t) (b:=b);generalize(if b<0 then -(dv t b)else dv t b)=c at e1 e2
 calc rN t b*b=rN t b*(rD t b*c):=by rw[e2]
  _=rD t b*(rN t b*c):=by rw[<-Int.mul_assoc,<-Int.mul_assoc,uw (rN t b)]
  _=rD t b*t:=by rw[e1]
theorem TL{t b:Int}(h:b≠0):Fr (rN t b) (rD t b):=by
 have hp:=DT (a:=t) h;refine⟨?_,?_⟩
 ·unfold rD;by_cases hb:b<0
  ·rw[if_pos hb,Cu];obtain⟨k,hk⟩:=tN t b;have:b / dv t b=k:=yy (by omega) hk;rw[this];rcases ou k 0 with q|q
   ·omega
   ·have:=gB (iu hp) q;omega
  ·rw[if_neg hb];obtain⟨k,hk⟩:=tN t b;have:b / dv t b=k:=yy (by omega) hk;rw[this];rcases ou 0 k with q|q
   ·exact q
   ·have:=tw (a:=-(dv t b)) (b:=k) (by omega) q;rw[Int.neg_mul]at this;omega
 ·have q:=Se (a:=t) (b:=b) (by omega);unfold rN rD;by_cases hb:b<0
  ·rw[if_pos hb,if_pos hb,Cu,Cu,ZO,ZP];exact q
  ·rw[if_neg hb,if_neg hb];exact q
def Sz(n:Nat)(x:Int):Prop:=x.natAbs<2^n
theorem Sz.mono{m n:Nat}{x:Int}(h:Sz m x)(hm:m<=n):Sz n x:=aQ h (qz (by decide) hm)
theorem Sz.mul{m n:Nat}{x y:Int}(h:Sz m x)(k:Sz n y):Sz (m+n) (x*y):=by
 unfold Sz at*;rw[Int.natAbs_mul,Nat.pow_add];by_cases hy:y.natAbs=0
 ·rw[hy,Nat.mul_zero];exact Nat.mul_pos (xJ m) (xJ n)
 ·exact Nat.mul_lt_mul_of_lt_of_lt h k
theorem Sz.add{n:Nat}{x y:Int}(h:Sz n x)(k:Sz n y):Sz (n+1) (x+y):=by unfold Sz at*;rw[Nat.pow_succ];omega
theorem Sz.neg{n:Nat}{x:Int}(h:Sz n x):Sz n (-x):=by unfold Sz at*;omega
theorem Sz.le{n:Nat}{x y:Int}(h:Sz n y)(k:x.natAbs<=y.natAbs):Sz n x:=FY k h
theorem Sz.zero(n:Nat):Sz n 0:=xJ n
theorem Sz.dvd{n:Nat}{x y:Int}(h:Sz n y)(d:x∣y)(hy:y≠0):Sz n x:=by refine h.le ?_;exact Nat.le_of_dvd (by omega) (pK.mpr d)
end Sw
namespace Sw
theorem Sz.lit{x:Int}(h:x.natAbs<1606938044258990275541962092341162602522202993782792835301376):Sz 5000 x:=by
 have e:(2:Nat)^200=1606938044258990275541962092341162602522202993782792835301376:=by decide
 exact aQ (by rw[e];exact h) (qz (by decide) (by decide:200<=5000))
end Sw
namespace Sw
theorem Sz.r60{x:Int}(h1:-1000000000000000000000000000000000000000000000000000000000000<x)(h2:x<1000000000000000000000000000000000000000000000000000000000000):Sz 200 x:=by
 have e:(2:Nat)^200=1606938044258990275541962092341162602522202993782792835301376:=by decide
 unfold Sz;rw[e];omega
end Sw
namespace Sw
theorem Sz.jI{x:Int}(h1:-100000000000000000000<x)(h2:x<100000000000000000000):Sz 70 x:=by
 have e:(2:Nat)^70=1180591620717411303424:=by decide
 unfold Sz;rw[e];omega
theorem Sz.one(n:Nat):Sz (n+1) 1:=by unfold Sz;exact aQ (by decide:FG 1<2^1) (qz (by decide) (by omega))
end Sw
namespace L2
open PySem PySem.Spec PyProof.Rows
theorem Yh{n:Nat}{x:Int}(h:Sw.Sz n x):Builtin.Int.intBits x<=n:=by
 unfold Builtin.Int.intBits;split
 ·exact bW _
 ·rename_i hx
  have VX:x≠0:=by simpa using hx
  have:x.natAbs.log2<n:=(Nat.log2_lt (by omega)).mpr h;omega
def G1(i j:Int):Prop:=Sw.Sz 5000 i/\Sw.Sz 5000 j
def G0(i j:Int):Prop:=0<j/\Sw.Sz 5000 j
def K0(i j:Int):Prop:=j≠0/\Sw.Sz 5000 j
theorem YF{i j:Int}(h0:j≠0)(h:Sw.Sz 5000 j):Builtin.divisionGoesByPylong i j=false:=by refine PyProof.noPylong_of_log2 ?_;have:j.natAbs.log2<5000:=(Nat.log2_lt (by omega)).mpr h;omega
section
variable{X:Cx}
theorem rL:oH X (binaryOp .Mult) (rI G1 fun i j=>.int (i*j)):=Kw fun _ _ _ _ _ _ _ hc q=>
 mul_int q (IntMulOk.of_bits (bO (Yh hc.1) (by decide)) (bO (Yh hc.2) (by decide)))
theorem Af:oH X (binaryOp .FloorDiv) (rI G0 fun i j=>.int (i / j)):=Kw fun i j _ _ _ _ _ hc q=>by have h1:(0:Int)<j:=hc.1;exact floordiv_int (by omega) (by rw[Int.fdiv_eq_ediv_of_nonneg i (by omega)];exact q) (.inl (YF (by omega) hc.2))
theorem Ze:oH X (binaryOp .FloorDiv) (rI K0 fun i j=>.int (i.fdiv j)):=Kw fun _ _ _ _ _ _ _ hc q=>floordiv_int hc.1 q (.inl (YF hc.1 hc.2))
def Lc:V->Option Value
 | .ty n=>some (.type n)
 | .ref a=>some (.ref a)
 |_=>none
theorem zqy:lT X (.builtin "isinstance") (fun xs H Q=>∃x c t cv b,xs=[x,c]/\Lc c=some cv/\qD X.K H x t/\jf X.K t cv=some b/\Q (.bl b) H):=by
 intro ah s σ H xs us Q I r h;obtain⟨x,c,t,cv,b,rfl,hc,ty,e,q⟩:=h;obtain⟨u,v,rfl,rx,rc⟩:=b8.two r;have ec:v=cv:=by
  cases c with
  |ty n=>cases(show v=Value.type n from rc);exact ak hc
  |ref a=>cases(show v=Value.ref a from rc);exact ak hc
  |_=>cases hc
 subst ec;exact zvd I rx ty e fun tk=>⟨.bl b,H,I.tok _,rfl,q⟩
structure rM(P:Program)(w:World)(K:aa)(mg:Str->Option Value)(base:Heap)(CX:vy)(k:Nat)(x:Str)(ps:List Str)(sp:Sp):Prop where
 ex:∃(f:Addr)(fd:FuncData),rO P w K mg base CX k f fd ps sp/\Binds K fd ps []/\br K (.ref f)=true/\mg x=some (.ref f)
structure qC(K:aa)(mg:Str->Option Value)(x:Str)(st:Stmt)(ps:List Str):Prop where
 ex:∃(f:Addr)(fd:FuncData),Iw K x x st f fd/\Binds K fd ps []/\mg x=some (.ref f)
end
end L2
namespace L2
theorem YG{c:TT}{tb:TS}{D:Ends}{σ:St}{H:Hp}(Pv:St->Hp->Prop)(μ:St->Hp->Nat)(h0:Pv σ H)(hs:∀σ H,Pv σ H->∃b:Bool,(∀Q:Bool->Hp->Prop,Q b H->c σ H Q)/\(b=true->tb {D with nx:=fun σ' H'=>Pv σ' H'/\μ σ' H' < μ σ H,ct:=fun σ' H'=>Pv σ' H'/\μ σ' H' < μ σ H,bk:=D.nx} σ H)/\(b=false->D.nx σ H)):UX c tb D σ H:=by
  refine⟨fun m σ H=>m=μ σ H/\Pv σ H,⟨_,rfl,h0⟩,?_⟩;rintro m σ H ⟨rfl,p⟩;obtain⟨b,hc,h1,h2⟩:=hs σ H p;refine hc _ ?_;cases b with
  |true=>exact⟨_,fun σ' H' ⟨p',l⟩=>⟨_,l,rfl,p'⟩,h1 rfl⟩
  |false=>exact h2 rfl
end L2
namespace L2
open PySem PySem.Spec PyProof.Rows
theorem OX{X:Cx}{x:Str}{n:Int}{pos:Pos}(hg:Gl X x)(hm:∃t,X.mg x=some (.int n t))(hd:(x ==("__debug__":Str))=false:=by decide):PE X (.Name x pos) (tC (.int n)):=by obtain⟨t,hm⟩:=hm;exact O8 hg hm ⟨t,rfl⟩ hd
def B0(K:aa):Sp:=fun vs H Q _=>∃(a:Addr)(ns:List Int),vs=[.ref a]/\j1 K H a (ns.map V.int)/\ns.length<=63/\∀H',Q (.bl true) H'
def A5(g:Int->Int):Sp:=fun vs H Q _=>∃a,vs=[.int a]/\Q (.int (g a)) H
def yd(g:Int->Int->Int):Sp:=fun vs H Q _=>∃a b,vs=[.int a,.int b]/\Q (.int (g a b)) H
def sS(ns:List Int)(k:Int):Int:=(ns[k.toNat]?).getD 0
inductive A4(K:aa)(vs:List V)(H:Hp)(Q:VK)(E:XK):Prop|mk (a ns k:_) (h1:vs=[.ref a,.int k]) (h2:j1 K H a (ns.map V.int)) (h3:0<=k) (h4:Q (.int (sS ns k)) H):A4 K vs H Q E
theorem zue{ns:List Int}{k:Int}(h0:0<=k)(h:k<ns.length):Fb (ns.map V.int) k=some (V.int (sS ns k)):=by
 have e:((k.toNat:Nat):Int)=k:=by omega
 have hl:k.toNat<ns.length:=by omega
 have q:(ns.map V.int)[k.toNat]?=some (V.int (sS ns k)):=by rw[aK];unfold sS;rw[aU hl];rfl
 have:=KO q;rw[e]at this;exact this
theorem zqz{ns:List Int}{k:Int}(h0:0<=k)(h:¬k<ns.length):sS ns k=0:=by unfold sS;rw[fT (by omega)];rfl
def ye:Sp:=fun vs H Q _=>∃n,vs=[.int n]/\Q (.bl true) H
theorem zra{K:aa}:jf K (.type "int") (.type "int")=some true:=by rfl
theorem zph{K:aa}:jf K (.type "int") (.type "bool")=some false:=by first|rfl|decide
end L2
namespace L2
theorem bM{t u:TS}{D:Ends}{σ:St}{H:Hp}(h:∀R:St->Hp->Prop,(∀σ H,u D σ H->R σ H)->t {D with nx:=R} σ H):dG t u D σ H:=h (u D) fun _ _ x=>x
end L2
namespace L2
open PySem PySem.Spec PyProof.Rows
theorem zvm{K:aa}{H:Hp}{a:Addr}{ns:List Int}{k:Int}{Q:VK}{E:XK}(hS:j1 K H a (ns.map V.int))(h0:0<=k)(q:Q (.int (sS ns k)) H):A4 K [.ref a,.int k] H Q E:=⟨a,ns,k,rfl,hS,h0,q⟩
end L2
namespace L2
theorem wG{a b:Int}(h1:a.natAbs<1606938044258990275541962092341162602522202993782792835301376)(h2:b.natAbs<1606938044258990275541962092341162602522202993782792835301376):G1 a b:=⟨Sw.Sz.lit h1,Sw.Sz.lit h2⟩
theorem wF{a b:Int}(h0:0<b)(h2:b.natAbs<1606938044258990275541962092341162602522202993782792835301376):G0 a b:=⟨h0,Sw.Sz.lit h2⟩
end L2
namespace L2
open PySem
theorem uK{n:Nat}(h:n<=1000):n<=sizeLine:=bO h (by decide)
theorem eX{n:Nat}(h:n<1000):n<sizeLine:=aQ h (by decide)
theorem jc{K:aa}{H:Hp}{p:Addr}{xs:List V}{i:Int}{v:V}{Q:VK}(hT:uF K H p xs)(h:Fb xs i=some v)(q:Q v H):JC K (.ref p) (.int i) H Q:=⟨p,xs,i,v,rfl,rfl,hT,h,q⟩
theorem NL{K:aa}{H:Hp}{p:Addr}{xs:List V}{i:Int}{v:V}{Q:VK}(hT:j1 K H p xs)(h:Fb xs i=some v)(q:Q v H):CW K (.ref p) (.int i) H Q:=⟨p,xs,i,v,rfl,rfl,hT,h,q⟩
end L2
namespace L2
open PySem PySem.Spec PyProof.Rows
theorem YH{K:aa}:jf K (.type "tuple") (.type "tuple")=some true:=by rfl
end L2
namespace L2
theorem Q8{c A B:Prop}[Decidable c](hc:¬c)(h:B):if c then A else B:=by rw[if_neg hc];exact h
end L2
namespace L2
end L2
namespace L2
open PySem PySem.Spec PyProof.Rows
mutual
inductive vE(K:aa)(H:Hp):V->PyData->Prop
 |b7:vE K H .b7 .none
 |bl (b:Bool):vE K H (.bl b) (.bool b)
 |int (i:Int):vE K H (.int i) (.int i)
 |str (x:Str):vE K H (.str x) (.str x)
 |tup {a:Addr} {xs:List V} {ds:List PyData}:uF K H a xs->jY K H xs ds->vE K H (.ref a) (.tuple ds)
 |lst {a:Addr} {xs:List V} {ds:List PyData}:j1 K H a xs->jY K H xs ds->vE K H (.ref a) (.list ds)
inductive jY(K:aa)(H:Hp):List V->List PyData->Prop
 |nil:jY K H [] []
 |cons {x:V} {d:PyData} {xs:List V} {ds:List PyData}:vE K H x d->jY K H xs ds->jY K H (x::xs) (d::ds)
end
section
variable{X:Cx}{ah:List (Addr×Obj)}{σ:St}{H:Hp}{s:Shared}
mutual
theorem Ut(I:Inv X ah σ H s):∀{x:V}{d:PyData}{u:Value},vE X.K H x d->RelV x u->∃as,Reads s.heap u d as
 |_,_,u,.b7,r=>by cases(show u=Value.none from r);exact⟨_,.none⟩
 |_,_,u,.bl b,r=>by cases(show u=Value.bool b from r);exact⟨_,.bool b⟩
 |_,_,u,.int i,r=>by obtain⟨t,rfl⟩:=(show ∃t,u=Value.int i t from r);exact⟨_,.int i t⟩
 |_,_,u,.str x,r=>by obtain⟨t,rfl⟩:=(show ∃t,u=Value.str x t from r);exact⟨_,.str x t⟩
 |_,_,u,.tup (a:=a) q h,r=>by
  cases(show u=Value.ref a from r);obtain⟨c7,rv,⟨o,e,c,n,d⟩,hz⟩:=I.tuple q
  obtain⟨as,ra⟩:=Uo I h rv;exact⟨as,reads_tuple_at e c d (by simpa using ra)⟩
 |_,_,u,.lst (a:=a) q h,r=>by
  cases(show u=Value.ref a from r);obtain⟨c7,rv,⟨o,n,e,c,_,d⟩,hz⟩:=I.list q
  obtain⟨as,ra⟩:=Uo I h rv;exact⟨_,reads_list_at e c d (by simpa using ra)⟩
theorem Uo(I:Inv X ah σ H s):∀{xs:List V}{ds:List PyData}{us:List Value},jY X.K H xs ds->b8 xs us->∃as,ReadsAll s.heap us ds as
 |_,_,_,.nil,.nil=>⟨_,.nil⟩
 |_,_,_,.cons d h,.cons r t=>by obtain⟨as,q⟩:=Ut I d r;obtain⟨bs,p⟩:=Uo I h t;exact⟨_,.cons q p⟩
end
end
section
variable{X:Cx}
end
theorem fZ{H:Hp}{a:Addr}{o:HO}(h:H a=none):bI H (aH H a o):=fun b u e=>by rw[dj (kW e h)];exact e
def Ite (K:aa) (a:Addr):It :=
  ⟨fun i H=>∃ xs x,j1 K H a xs/\xs[i]? = some x,
   fun i H y H'=>∃ p x,y = .ref p/\H p=none/\(∀ xs,j1 K H a xs->xs[i]? = some x)/\H'=aH H p (.tup [.int i,x]),
   fun i H=>∃ xs,j1 K H a xs/\xs.length<=i⟩
section
variable{X:Cx}
def Ea(K:aa)(ta:TA):TI:=fun σ H R=>ta σ H fun vs H1=>∃a,vs=[.ref a]/\(∃xs,j1 K H1 a xs)/\R (Ite K a) H1
end
section
variable{prog:Program}{w:World}{A:Around}{R:Result->Shared->Prop}{s:Shared}
theorem Wx{wJ eM iter:Expr}{vB:List Expr}{scope:Scope}{pos:Pos}{it G9:Value}{env:Env}(I:Nat->Shared->Prop)(sJ:∀n s,I n s->wpAny (model prog w) A (pyNext it) (fun r s₁=>match r with
      |none=>R (.ok .next) s₁
      |some v=>wpAny (model prog w) A (letOwnedTupleGo eM it v) (fun _ Wq=>wpAny (model prog w) A (assign eM env v) (fun _ s₂=>
          wpAny (model prog w) A (forIn vB true fun c r=>if r=true then do let ok <-isTrue c env (eval c env);pure (mQ ok)else pure (mQ r)) (fun ok s₃=>
            if ok=true then wpAny (model prog w) A (eval wJ env) (fun x s₄=>
              wpAny (model prog w) A (call (.builtin "list.append") [G9,x]) (fun _ s₅=>∃m,m<n/\I m s₅) (notedBy (model prog w) A env fun e s'=>R (.error e) s') s₄) (notedBy (model prog w) A env fun e s'=>R (.error e) s') s₃
            else ∃m,m<n/\I m s₃) (notedBy (model prog w) A env fun e s'=>R (.error e) s') s₂) (notedBy (model prog w) A env fun e s'=>R (.error e) s') Wq) (notedBy (model prog w) A env fun e s'=>R (.error e) s') s₁) (notedBy (model prog w) A env fun e s'=>R (.error e) s') s)(n:Nat)(h:I n s):
    codeAny (model prog w) A (.compLoop (.ListComp wJ [⟨eM,iter,vB,0⟩] scope pos) 0 it G9 env) R s:=by
  refine codeAny_loop rfl I (fun n s hI=>?_) n h;show wpAny _ A ((compTurn (.ListComp wJ [⟨eM,iter,vB,0⟩] scope pos) 0 it G9 env).onRaise (fun x=>do noteFrame x env;theTreesLotGoes x)) _ _ s;refine wpAny_noted ?_;rw[compTurn_list];refine wpAny_bind (wpAny_standAt (wpAny_bind (wpAny_mono (sJ n s hI) (fun r s₁ h₁=>?_) fun _ _ h'=>h')));cases r with
  |none=>exact wpAny_pure h₁
  |some v=>
    refine wpAny_bind (wpAny_mono h₁ (fun _ Wq h₁'=>?_) fun _ _ h'=>h');refine wpAny_bind (wpAny_mono h₁' (fun _ s₂ h₂=>wpAny_bind (wpAny_mono h₂ (fun ok s₃ h₃=>?_) fun _ _ h'=>h')) fun _ _ h'=>h');cases ok with
    |false=>exact wpAny_pure ⟨rfl,h₃⟩
    |true=>
      exact wpAny_bind (wpAny_bind (wpAny_mono h₃ (fun x s₄ h₄=>wpAny_bind (wpAny_mono h₄ (fun _ s₅ h₅=>wpAny_pure (wpAny_pure ⟨rfl,h₅⟩)) fun _ _ h'=>h')) fun _ _ h'=>h'))
end
def sM(X:Cx)(scope:Scope)(cl:List (Str×Addr))(N:List Str)(fp:List Addr)(s:Shared)(H:Hp):Cx:=
 {X with N:=N,s₀:=s,H₀:=H,env:=compEnvC scope cl s.heap.objs.size X.env,outer:=X.stack,stack:=X.stack,ex:=fp,fn:=fun _=>false,pn:=[],xe:=fun _ _=>False}
def xB(X:Cx)(sc:Scope):List (Str×Nat)->Prop
 |[]=>True
 |p::r=>(X.N[p.2]?=some p.1/\sc.names.lookup p.1=some .cell/\X.env.kindOf p.1=some .cell)/\xB X sc r
theorem xB.mem{X:Cx}{sc:Scope}:∀{l:List (Str×Nat)},xB X sc l->∀p∈l,X.N[p.2]?=some p.1/\sc.names.lookup p.1=some .cell/\X.env.kindOf p.1=some .cell
 |[],_,p,hp=>nomatch hp
 |q::r,h,p,hp=>by
  rcases ao.mp hp with e|hp
  ·rw[e];exact h.1
  ·exact xB.mem h.2 p hp
def Cy(X:Cx)(vB:List Expr)(t:TT):Prop:=
 ∀(ah:List (Addr×Obj))(s:Shared)(σ:St)(H:Hp)(Q:Bool->Hp->Prop),Inv X ah σ H s->t σ H Q->
  wpAny (model X.prog X.w) X.A (forIn vB true fun c r=>if r=true then do let ok <-isTrue c X.env (eval c X.env);pure (mQ ok)else pure (mQ r)) (TP X ah σ Q) X.xe s
def Bb:TT:=fun _ H Q=>Q true H
theorem OY{X:Cx}:Cy X [] Bb:=fun _ _ _ H _ I h=>wpAny_tests_nil ⟨H,I,h⟩
theorem Ij{X:Cx}{c:Expr}{t:TT}(hc:PT X c t):Cy X [c] t:=fun ah s σ H Q I h=>wpAny_tests_one (hc ah s σ H Q I h)
def wZ (nt:Nat) (fr:List (Str×Nat)) (wi:TI) (g:TG) (tc:TT) (te:TE):TE:=fun σ H Q=>wi σ H fun J H1=>∀ D,H1 D=none->∃ W:Nat->Nat->St->Hp->Prop,
 (∃ m,W 0 m (jx nt none++fr.map fun p=>(σ[p.2]?).join) (aH H1 D (.lst [])))/\∀ i m τ H',W i m τ H' ->
  (J.stop i H'/\Q (.ref D) H')\/(J.go i H'/\∃ N:St->Hp->Prop,(∀ τ' FE,N τ' FE->∃ m',m' < m/\W (i+1) m' τ' FE) /\
   ∀ x H2,J.Ih i H' x H2->g x τ H2 fun τ2 H3=>tc τ2 H3 fun b H4=>if b=true then te τ2 H4 fun y H5=>∃ ys,H5 D=some (.lst ys)/\ys.length<sizeLine/\N τ2 (aH H5 D (.lst (ys++[y]))) else N τ2 H4)
section
variable{X:Cx}
theorem Zf{scope:Scope}{cl:List (Str×Addr)}{ts:List Str}{fr:List (Str×Nat)}{fp:List Addr}{ah:List (Addr×Obj)}{σ:St}{H:Hp}{s:Shared}{h':Heap}{m:Str->Option Value}{t':Nat}(I:Inv X ah σ H s)(kF:scope.kind= .function)(BC:∀x c,cl.lookup x=some c->X.env.cells.lookup x=some c)(vS:∀x,((relabel scope X.env).names.lookup x=some .cell\/(relabel scope X.env).names.lookup x=some .free)->∃c,cl.lookup x=some c)(Ga:xB X (relabel scope X.env) fr)(Qz:∀b∈fp,rP X ah H b/\b<s.heap.objs.size)(hn:h'.Ns s.heap.objs.size m)(hk:∀b o,s.heap.get? b=some o->h'.get? b=some o):
    Inv (sM X scope cl (ts++fr.map (·.1)) fp s H) [] (jx ts.length none++fr.map fun p=>(σ[p.2]?).join) H {s with heap:=h',toks:=t'}:=by
  have ze:∀c v,s.heap.IsCell c v->h'.IsCell c v:=fun c v⟨o,ho,hd⟩=>⟨o,hk c o ho,hd⟩;refine⟨⟨I.ok.mod,kF,I.ok.glob,I.ok.blt,aq _,fun x y c h1 h2=>I.ok.inj x y c (BC x c h1) (BC y c h2),vS,fun x c h=>(by cases h),I.ok.hd,I.ok.frames,.inl rfl,fun b hb=>?_,I.bs,bO I.ok.Dp I.sz,fun b o e hb=>?_,fun b hb z=>?_,I.stack,I.yi⟩,
    rfl,I.bare,Un.kept hk,⟨m,hn,fun i x v e1 e2 e3=>?_⟩,fun x c e=>?_,I.eB.fresh (aq _),fun x c e=>I.kD x c (BC x c e),fun p hp=>absurd (show p∈([]:List (Addr×Obj))from hp) (by simp),I.eB.kept hk,?_⟩
  · obtain⟨f,lt⟩:=Qz b hb;exact⟨bq lt,fun x c e=>f.2.2.2.2.1 x c (BC x c e)⟩
  · obtain⟨f,lt⟩:=Qz b hb;rcases f.2.2.2.1 with z|z
    · exact I.ok.zN b o e z
    · exact absurd (aQ (Heap.lt_size e) (bO I.ok.Dp z)) (fN _)
  · obtain⟨f,lt⟩:=Qz b hb;rcases ao.mp (I.sF b z)with y|y
    · exact f.2.1 y
    · exact f.2.2.1 y
  · have fK:(jx ts.length (none:Option V)).length=ts.length:=by simp
    by_cases hi:i<ts.length
    · rw[iw (by rw[fK];exact hi),Av,if_pos hi]at e2;cases e2
    · rw[fS (by rw[fK];omega),fK,aK]at e2;have P8:(ts++fr.map (·.1))[i]?=some x:=e1;rw[fS (by omega),aK]at P8;cases ep:fr[i-ts.length]? with
      |none=>rw[ep]at e2;cases e2
      |some p=>
        rw[ep]at P8 e2;have ex:p.1=x:=ak P8;have ev:(σ[p.2]?).join=some v:=ak e2;obtain⟨a1,a2,a3⟩:=Ga.mem p (aV ep);have ev':σ[p.2]?=some (some v):=by
          cases q:σ[p.2]? with
          |none=>rw[q]at ev;cases ev
          |some o=>rw[q]at ev;cases o with
            |none=>cases ev
            |some v'=>cases ev;rfl
        obtain⟨m',N9,hl'⟩:=I.loc;obtain⟨u,ru,lk⟩:=hl' p.2 p.1 v a1 ev' (.inr (.inl a3));subst ex;refine⟨u,ru,?_⟩;rcases lk with⟨z,_⟩ |⟨_,c,ec,z⟩
        · rw[z]at a3;cases a3
        · obtain⟨c',Vf⟩:=vS p.1 (.inl a2);have ecc:c'=c:=ak ((BC _ _ Vf).symm.trans ec);exact .inr ⟨.inl a2,c',Vf,(by rw[ecc];exact ze _ _ z)⟩
  · obtain⟨v,z⟩:=I.cell x c (BC x c e);exact⟨v,ze _ _ z⟩
  · show _=(ts++fr.map (·.1)).length;simp
theorem Sf{wJ eM iter:Expr}{vB:List Expr}{scope:Scope}{pos:Pos}{cl:List (Str×Addr)}{ts:List Str}{fr:List (Str×Nat)}{wi:TI}{g:TG}{tc:TT}{te:TE}(qH:X.calm=true)(uJ:closureFor scope X.env=pure cl)(pA:∀y∈scope.names,y.2≠.cell)(kF:scope.kind= .function)(pR:∀y∈scope.names,y.2= .local->scope.names.lookup y.1=some .local)(BC:∀x c,cl.lookup x=some c->X.env.cells.lookup x=some c)(vS:∀x,((relabel scope X.env).names.lookup x=some .cell\/(relabel scope X.env).names.lookup x=some .free)->∃c,cl.lookup x=some c)(Ga:xB X (relabel scope X.env) fr)(hi:PI X eM iter wi)(hg:∀fp s H,PG (sM X scope cl (ts++fr.map (·.1)) fp s H) eM g)(hc:∀fp s H,Cy (sM X scope cl (ts++fr.map (·.1)) fp s H) vB tc)(he:∀fp s H,PE (sM X scope cl (ts++fr.map (·.1)) fp s H) wJ te)(hs:∀x,foldedSetIterable iter X.env x=pure x:=by intro _;rfl):
    PE X (.ListComp wJ [⟨eM,iter,vB,0⟩] scope pos) (wZ ts.length fr wi g tc te):=by
  intro ah s σ H Q I h;rw[eval_ListComp];refine wpAny_comprehension_free (use:=none) rfl hs uJ kF pR (eJ (hi ah s σ H _ I h) fun xv s1 h1=>eJ h1 fun Oo s2 h2=>?_);obtain⟨it,fp,tn,J,H2,rfl,I2,T,JM,f2,hR⟩:=h2;have D0:H2 s2.heap.objs.size=none:=I2.eB.fresh (aq _);obtain⟨W,⟨m0,w0⟩,sJ⟩:=hR s2.heap.objs.size D0;refine wpAny_newObj_type (wpAny_newFunctionEnv pA (by intro y hy;simp at hy) (fun h₁ AQ AS=>?_) kF);dsimp only at AQ AS⊢;have I3:Inv X ah σ (aH H2 s2.heap.objs.size (.lst [])) {s2 with heap:=s2.heap.push {cls:=.type "list",dict:=none,data:=.seq ([]:List Value).toArray}}:=
    I2.laid (t':=s2.toks) (fun _ _ q=>Heap.get?_push_of_some _ q) (aq _) ⟨bW _,[],0,.nil,Heap.get?_push_size _ rfl⟩;have LP:∀b o,s2.heap.get? b=some o->(s2.heap.push {cls:=.type "list",dict:=none,data:=.seq ([]:List Value).toArray}).get? b=some o:=fun b o q=>Heap.get?_push_of_some _ q;have Ky:(s2.heap.push {cls:=.type "list",dict:=none,data:=.seq ([]:List Value).toArray}).objs.size=s2.heap.objs.size+1:=Heap.size_push ..;generalize s2.heap.push {cls:=.type "list",dict:=none,data:=.seq ([]:List Value).toArray}=l7 at AQ AS I3 LP Ky⊢;have kp:∀b o,l7.get? b=some o->h₁.get? b=some o:=fun b o e=>AS.extBut b o (bq (Heap.lt_size e)) (Heap.get?_push_of_some _ e);have CG:∀b∈fp,b<s2.heap.objs.size:=fun b hb=>by
    obtain⟨o,e,_⟩:=T.obj _ _ JM b hb;exact Heap.lt_size e
  have BB:∀b∈fp,(aH H2 s2.heap.objs.size (.lst [])) b=none:=fun b hb=>by rw[dj (bq (CG b hb))];exact(f2 b hb).1
  have f3:∀b∈fp,rP X ah (aH H2 s2.heap.objs.size (.lst [])) b/\b<l7.objs.size:=fun b hb=>⟨⟨BB b hb,(f2 b hb).2⟩,by rw[Ky];exact gk (CG b hb)⟩;have I4:=Zf (ts:=ts) (t':=s2.toks+([]:List (Str×Value)).length) I3 kF BC vS Ga f3 AQ kp;have MY:tn 0 h₁:=T.keep _ _ _ JM fun b hb o e=>kp b o (LP b o e);have loop:codeAny (model X.prog X.w) X.A (.compLoop (.ListComp wJ [⟨eM,iter,vB,0⟩] scope pos) 0 (.ref it) (.ref s2.heap.objs.size) (compEnvC scope cl l7.objs.size X.env))
      (compPost (model X.prog X.w) X.A X.xe none (EP X ah σ Q) (.ref s2.heap.objs.size) l7.objs.size) {s2 with heap:=h₁,toks:=s2.toks+([]:List (Str×Value)).length}:=by
    refine Wx (fun n s'=>∃i τ H',Inv (sM X scope cl (ts++fr.map (·.1)) fp {s2 with heap:=l7} (aH H2 s2.heap.objs.size (.lst []))) [] τ H' s'/\tn i s'.heap/\(∀b∈fp,H' b=none)/\W i n τ H') ?_ m0 ⟨0,_,_,I4,MY,BB,w0⟩;rintro n s5 ⟨i,τ,H5,I5,z8,DV,w5⟩;have mO:∀{H':Hp},(∀b∈fp,H' b=none)->∀b∈fp,rP (sM X scope cl (ts++fr.map (·.1)) fp {s2 with heap:=l7} (aH H2 s2.heap.objs.size (.lst []))) [] H' b:=
      fun hn b hb=>⟨hn b hb,(I5.ok.F5 b hb).1,I5.ok.xS b hb,.inl hb,(I5.ok.F5 b hb).2,fun p hp=>absurd (show p∈([]:List (Addr×Obj))from hp) (by simp)⟩;rcases sJ i n τ H5 w5 with⟨stop,qn⟩ |⟨go,Nn,hN,step⟩
    · refine eJ (T.done (sM X scope cl (ts++fr.map (·.1)) fp {s2 with heap:=l7} (aH H2 s2.heap.objs.size (.lst []))) rfl rfl rfl qH i [] s5 τ H5 _ I5 (mO DV) z8 stop) fun r s6⟨hr,I6⟩=>?_;subst hr;obtain⟨m,hn,_⟩:=I6.loc;refine⟨m,hn,fun h' uh=>⟨.ref s2.heap.objs.size,H5,?_,rfl,qn⟩⟩;have Du:∀b o,l7.get? b=some o->b≠l7.objs.size:=fun b o e=>bq (Heap.lt_size e);have Gg:Heap.SameBut l7.objs.size s6.heap h':=uh;refine I3.Bt (s':={s6 with heap:=h'}) (ch:=fp) I6.os ⟨fun b o e n hb hx=>?_,fun b o e n hb hx=>?_,I6.base.free,fun b o e hx=>?_,I6.base.rA,I6.base.mV,I6.base.rj⟩ (fun b ob e=>?_) I6.bare (fun b hb=>?_)
      · exact(Gg.2 b (Du b o e)).trans (I6.base.keep b o e n hb hx)
      · obtain⟨sl,q⟩:=I6.base.slot b o e n hb hx;exact⟨sl,(Gg.2 b (Du b o e)).trans q⟩
      · obtain⟨o',q⟩:=I6.base.there b o e hx;exact⟨o',(Gg.2 b (Du b o e)).trans q⟩
      · refine(I6.eB b ob e).iM (fun c v hc q=>(Gg.2 c ?_).trans q) (fun _ q=>q) fun _ _ q=>q;intro z;have fz:H5 l7.objs.size=none:=I6.free;rcases hc with y|y
        · rw[<-y,z,fz]at e;cases e
        · rw[z,fz]at y;cases y
      · exact⟨(f2 b hb).2.2.2.1,(f2 b hb).2.1,(f2 b hb).2.2.2.2.1,(f2 b hb).2.2.2.2.2⟩
    · refine eJ (T.item (sM X scope cl (ts++fr.map (·.1)) fp {s2 with heap:=l7} (aH H2 s2.heap.objs.size (.lst []))) rfl rfl rfl qH i [] s5 τ H5 _ I5 (mO DV) z8 go) fun r s6⟨u,hr,h6⟩=>?_;subst hr;refine eJ h6 fun _ s7⟨x,H7,I7,r7,y7,JN,Qh⟩=>?_;have PB:=I7.pinned (mO Qh) (T.obj _ _ JN);refine wpAny_mono (hg fp _ _ _ s7 τ H7 x u _ PB r7 (step x H7 y7)) (fun _ s8⟨τ8,H8,I8,q8⟩=>?_) fun _ _ z=>bE z;have again:∀{τ9:St}{H9:Hp}{s9:Shared},Inv (sM X scope cl (ts++fr.map (·.1)) fp {s2 with heap:=l7} (aH H2 s2.heap.objs.size (.lst []))) ([]++Io fp s7.heap) τ9 H9 s9->Nn τ9 H9->
          ∃m,m<n/\∃i τ H',Inv (sM X scope cl (ts++fr.map (·.1)) fp {s2 with heap:=l7} (aH H2 s2.heap.objs.size (.lst []))) [] τ H' s9/\tn i s9.heap/\(∀b∈fp,H' b=none)/\W i m τ H':=fun{τ9 H9 s9} I9 n9=>by
        obtain⟨m',hm,w9⟩:=hN τ9 H9 n9;refine⟨m',hm,i+1,τ9,H9,I9.i7,T.keep _ _ _ JN fun b hb o e=>(I9.pin (b,o) (aI _ (aI _ (Fv hb e)))).1,fun b hb=>?_,w9⟩;obtain⟨o,e,d⟩:=T.obj _ _ JN b hb;exact(I9.pin (b,o) (aI _ (aI _ (Fv hb e)))).2.1
      refine wpAny_mono (hc fp _ _ _ s8 τ8 H8 _ I8 q8) (fun ok s9⟨H9,I9,q9⟩=>?_) fun _ _ z=>bE z;cases ok with
      |false=>exact again I9 q9
      |true=>
        refine wpAny_mono (he fp _ _ _ s9 τ8 H9 _ I9 q9) (fun y RM⟨v,Pw,Py,rv,ys,hD,hl,qN⟩=>?_) fun _ _ z=>bE z;refine wpAny_mono (Ii (X:=sM X scope cl (ts++fr.map (·.1)) fp {s2 with heap:=l7} (aH H2 s2.heap.objs.size (.lst []))) _ RM τ8 Pw (.ref s2.heap.objs.size) [v] (.ref s2.heap.objs.size) [y] (fun _ H=>Nn τ8 H) Py rfl (.cons rv .nil) ⟨_,ys,v,rfl,rfl,hD,hl,qN⟩) (fun _ s11⟨_,H11,Pz,_,Rv⟩=>again Pz Rv) fun _ _ z=>bE z
  exact codeAny_compStart_list loop (T.self X.A 0 _ _ _ MY loop)
end
section
variable{X:Cx}{tg:Expr}
theorem DA(K:aa)(h:X.K=K):Kc X (CW K):=h▸Sb
theorem jb(K:aa)(h:X.K=K):Kc X (JC K):=h▸Tq
theorem Zg(K:aa)(h:X.K=K):NT X (JE K):=h▸Sc
def JD(K:aa):List V->Hp->VK->Prop:=fun xs H Q=>∃p ys,xs=[.ref p]/\(j1 K H p ys\/uF K H p ys)/\Q (.int ys.length) H
theorem EX(K:aa)(h:X.K=K):lT X (.builtin "len") (JD K):=h▸zpb
def Mq(K:aa):List V->Hp->VK->Prop:=fun xs H Q=>∃x c t cv b,xs=[x,c]/\Lc c=some cv/\qD K H x t/\jf K t cv=some b/\Q (.bl b) H
theorem OO(K:aa)(h:X.K=K):lT X (.builtin "isinstance") (Mq K):=h▸zqy
theorem NE(K:aa)(h:X.K=K){es:List Expr}{k:Nat}{pos:Pos}{t:G8}{n:Nat}(hc:X.calm=true)(hq:K7 X es t)(hn:(assignEach es X.env).length=n:=by rfl)(Dt:(assignEach es X.env).findIdx? (·.1)=none:=by rfl):PG X (.Tuple es k pos) (CH K n t):=h▸Ti hc hq hn Dt
theorem Ag(K:aa)(h:X.K=K){l:Expr}{tl:TE}(hl:PE X l tl):PI X tg l (zz K tl):=h▸R4 hl
theorem Sh(K:aa)(h:X.K=K){l:Expr}{tl:TE}(hl:PE X l tl):PI X tg l (Ed K tl):=h▸Tn hl
end
def Cr(env:Env):List (Str×Addr)->Prop
 |[]=>True
 |p::r=>env.cells.lookup p.1=some p.2/\Cr env r
theorem Cr.get{env:Env}:∀{cl:List (Str×Addr)},Cr env cl->∀x c,cl.lookup x=some c->env.cells.lookup x=some c
 |[],_,x,c,e=>by cases e
 |p::r,h,x,c,e=>by
  obtain⟨k,a⟩:=p;rw[List.lookup_cons]at e;by_cases q:x=k
  ·subst q;rw[beq_self_eq_true]at e;cases e
   exact h.1
  ·rw[beq_eq_false_iff_ne.mpr q]at e;exact Cr.get h.2 x c e
def Bu(ns:List (Str×NameKind))(cl:List (Str×Addr)):Bool:=ns.all fun y=>match y.2 with
 | .cell=>(cl.lookup y.1).isSome
 | .free=>(cl.lookup y.1).isSome
 |_=>true
theorem YI{ns:List (Str×NameKind)}{cl:List (Str×Addr)}(h:Bu ns cl=true)(x:Str)(q:ns.lookup x=some .cell\/ns.lookup x=some .free):∃c,cl.lookup x=some c:=by
 unfold Bu at h;rw[jQ]at h;rcases q with q|q
 ·have:=h _ (fD q);exact iG.mp this
 ·have:=h _ (fD q);exact iG.mp this
theorem sY{X:Cx}{wJ eM iter:Expr}{vB:List Expr}{scope:Scope}{pos:Pos}{cl:List (Str×Addr)}(ts:List Str)(fr:List (Str×Nat)){wi:TI}{g:TG}{tc:TT}{te:TE}(qH:X.calm=true)(uJ:closureFor scope X.env=pure cl)(pA:∀y∈scope.names,y.2≠.cell)(kF:scope.kind= .function)(pR:∀y∈scope.names,y.2= .local->scope.names.lookup y.1=some .local)(BC:Cr X.env cl)(vS:Bu (relabel scope X.env).names cl=true)(Ga:xB X (relabel scope X.env) fr)(hi:PI X eM iter wi)(hg:∀fp s H,PG (sM X scope cl (ts++fr.map (·.1)) fp s H) eM g)(hc:∀fp s H,Cy (sM X scope cl (ts++fr.map (·.1)) fp s H) vB tc)(he:∀fp s H,PE (sM X scope cl (ts++fr.map (·.1)) fp s H) wJ te)(hs:∀x,foldedSetIterable iter X.env x=pure x:=by intro _;rfl):
    PE X (.ListComp wJ [⟨eM,iter,vB,0⟩] scope pos) (wZ ts.length fr wi g tc te):=
  Sf qH uJ pA kF pR BC.get (fun x q=>YI vS x q) Ga hi hg hc he hs
def RE(K:aa):List V->Hp->VK->Prop:=fun xs H Q=>∃(p:Addr)(ns:List Int),xs=[.ref p]/\j1 K H p (ns.map V.int)/\Q (.int ns.sum) H
def RA(K:aa):List V->Hp->VK->Prop:=fun xs H Q=>∃(p:Addr)(bs:List Bool),xs=[.ref p]/\j1 K H p (bs.map V.bl)/\Q (.bl (bs.all id)) H
theorem zxw{bs:List Bool}:∀{us:List Value},b8 (bs.map V.bl) us->us=bs.map Value.bool:=by
 induction bs with
 |nil=>intro us r;cases r;rfl
 |cons b r ih=>
  intro us h;cases h with
  |cons h1 h2=>rw[show _=Value.bool b from h1,ih h2];rfl
theorem zvn{bs:List Bool}(f:Nat->Bool)(h:∀i,i<bs.length->f i=bs.getD i false):(lR bs.length).all f=bs.all id:=by
 rw[fk,jQ,jQ];constructor
 ·intro q b hb;obtain⟨i,hi,e⟩:=List.getElem_of_mem hb;have:=q i (jw.mpr hi);rw[h i hi]at this;rw[<-e]
  simpa [dR,hi]using this
 ·intro q i hi;have hi:=jw.mp hi;rw[h i hi];have:=q bs[i] (nv hi)
  simpa [dR,hi]using this
section
variable{X:Cx}
theorem Np(K:aa)(h:X.K=K)(hc:X.calm=true):lT X (.builtin "sum") (RE K):=by
 subst h;intro ah s σ H xs us Q I r h;obtain⟨p,ns,rfl,hq,q⟩:=h;obtain⟨u,rfl,ru⟩:=vals1 r;cases(show u=Value.ref p from ru)
 obtain⟨c7,rv,hp,hz⟩:=I.list hq;have hi:=zuc rv;obtain⟨zs,e⟩:=hi.allInts.items;have hl:=hp.isList;rw[e]at hl;refine sum_intListG (I.ok.hd hc) hl fun h' tk t' hk=>⟨.int ns.sum,H,I.kept (t':=tk) hk,⟨t',?_⟩,q⟩;rw[preSum_eq,jy (by simp)];have:=hi.numsOf;rw[show c7=c7.toArray.toList from rfl,e,nums_intItems]at this;rw[<-this]
theorem zuf{ah:List (Addr×Obj)}{s:Shared}{σ:St}{H:Hp}{p:Addr}{bs:List Bool}{Q:Value->Shared->Prop}(I:Inv X ah σ H s)(hc:X.calm=true)(hq:j1 X.K H p (bs.map V.bl))(h:∀s₂:Shared,(∀(h':Heap)(tk:Nat),(∀b o,b∉ [s.heap.objs.size]->s₂.heap.get? b=some o->h'.get? b=some o)->Inv X ah σ H {s₂ with heap:=h',toks:=tk})->
      (s₂.heap.IsListIter s.heap.objs.size p 0/\s₂.heap.IsList p (bs.map Value.bool).toArray)->p≠s.heap.objs.size->Q (.ref s.heap.objs.size) s₂)(E:Value->Shared->Prop):
    wpAny (model X.prog X.w) X.A.in1 (pyIter (.ref p)) Q E s:=by
  obtain⟨c7,rv,hp,hz⟩:=I.list hq;rw[zxw rv]at hp;have hl:=hp.isList;have jT:p<s.heap.objs.size:=by obtain⟨_,e,_⟩:=id hl;exact Heap.lt_size e
  refine wpAny_pyIter_list hl (h _ (fun h' tk hk=>I.kept (t':=tk) fun b o e=>?_) ⟨⟨_,Heap.get?_push_size _ rfl,rfl,rfl⟩,hl.push _⟩ (bq jT));exact hk b o (by simp[bq (Heap.lt_size e)]) (Heap.get?_push_of_some _ e)
theorem zrb{A:Around}{bs:List Bool}:TruthOf X.prog X.w A (fun i v=>(bs.map Value.bool).toArray[i]?=some v) (fun i=>bs.getD i false):=by
 intro i v s Q E hP hQ;have e:bs[i]?.map Value.bool=some v:=by simpa using hP
 cases q:bs[i]? with
 |none=>rw[q]at e;cases e
 |some b=>
  rw[q]at e;cases e
  dsimp only at hQ;rw[dR,q]at hQ;exact wpAny_truthy_bool hQ
theorem zvo(K:aa)(h:X.K=K)(hc:X.calm=true):lT X (.builtin "all") (RA K):=by
 subst h;intro ah s σ H xs us Q I r h;obtain⟨p,bs,rfl,hq,q⟩:=h;obtain⟨u,rfl,ru⟩:=vals1 r;cases(show u=Value.ref p from ru)
 refine call_all_walk (zuf I hc hq (fun s₂ J st BF=>⟨_,_,_,_,_,_,_,rfl,Walks.list (A:=X.A.in1) (I.ok.hd hc) _ p BF _,st,zrb,fun h' tk hk=>⟨.bl _,H,J h' tk hk,?_,q⟩⟩) _);show Value.bool _=Value.bool _;congr 1;rw[aX,ae];exact zvn _ fun i hi=>rfl
end
def pe (J:It) (g:TG) (tc:TT) (te:TE) (D:Addr) (τ:St) (H:Hp) (Q:VK):Prop :=
 ∃ W:Nat->Nat->St->Hp->Prop,(∃ m,W 0 m τ H)/\∀ i m τ H',W i m τ H' ->
  (J.stop i H'/\Q (.ref D) H')\/(J.go i H'/\∃ N:St->Hp->Prop,(∀ τ' FE,N τ' FE->∃ m',m' < m/\W (i+1) m' τ' FE) /\
   ∀ x H2,J.Ih i H' x H2->g x τ H2 fun τ2 H3=>tc τ2 H3 fun b H4=>if b=true then te τ2 H4 fun y H5=>∃ ys,H5 D=some (.lst ys)/\ys.length<sizeLine/\N τ2 (aH H5 D (.lst (ys++[y]))) else N τ2 H4)
theorem vm{nt:Nat}{fr:List (Str×Nat)}{wi:TI}{g:TG}{tc:TT}{te:TE}{σ:St}{H:Hp}{Q:VK}:
    wZ nt fr wi g tc te σ H Q=wi σ H fun J H1=>∀D,H1 D=none->pe J g tc te D (jx nt none++fr.map fun p=>(σ[p.2]?).join) (aH H1 D (.lst [])) Q:=rfl
theorem KG{K:aa}{a:Addr}{xs:List V}{g:TG}{tc:TT}{te:TE}{D:Addr}{τ:St}{H:Hp}{Q:VK}(Pv:Nat->St->Hp->Prop)(h0:Pv 0 τ H)(hl:∀i τ H,i<=xs.length->Pv i τ H->j1 K H a xs)(hs:∀i x τ H,xs[i]?=some x->Pv i τ H->g x τ H fun τ2 H3=>tc τ2 H3 fun b H4=>if b=true then te τ2 H4 fun y H5=>∃ys,H5 D=some (.lst ys)/\ys.length<sizeLine/\Pv (i+1) τ2 (aH H5 D (.lst (ys++[y])))else Pv (i+1) τ2 H4)(hd:∀τ H,Pv xs.length τ H->Q (.ref D) H):
    pe (FH K a) g tc te D τ H Q:=by
  refine⟨fun i m τ H=>m=xs.length-i/\i<=xs.length/\Pv i τ H,⟨xs.length,by simp,bW _,h0⟩,?_⟩;rintro i m τ H ⟨rfl,hi,p⟩;have q:=hl i τ H hi p;by_cases jT:i<xs.length
  · refine .inr ⟨⟨xs,xs[i],q,by simp[jT]⟩,Pv (i+1),fun τ' H' p'=>⟨xs.length-(i+1),by omega,rfl,jT,p'⟩,fun x H2 z=>?_⟩;obtain⟨rfl,hx⟩:=z;exact hs i x τ H2 (hx xs q) p
  · have e:i=xs.length:=by omega
    subst e;exact .inl ⟨⟨xs,q,aq _⟩,hd τ H p⟩
theorem OR{α:Type}{xs:List α}{i:Nat}{x:α}(h:xs[i]?=some x):xs.take (i+1)=xs.take i++[x]:=by rw[uc,h];rfl
theorem YJ{K:aa}{a:Addr}{xs:List V}{g:TG}{tc:TT}{te:TE}{D:Addr}{v0:Option V}{caps:St}{H:Hp}{Q:VK}(F:V->Option V)(hD:H D=none)(hS:j1 K H a xs)(fK:xs.length<=1000)(hs:∀x∈xs,∀(v:Option V)(H':Hp)(C:V->St->Hp->Prop)(N:St->Hp->Prop),bI H H'->(∀y,F x=some y->C y (some x::caps) H')->(F x=none->N (some x::caps) H')->
      g x (v::caps) H' fun τ2 H3=>tc τ2 H3 fun b H4=>if b=true then te τ2 H4 fun y H5=>C y τ2 H5 else N τ2 H4)(hd:Q (.ref D) (aH H D (.lst (xs.filterMap F)))):
    pe (FH K a) g tc te D (v0::caps) (aH H D (.lst [])) Q:=by
  refine KG (xs:=xs) (fun i τ H'=>(∃v,τ=v::caps)/\H'=aH H D (.lst ((xs.take i).filterMap F))) ⟨⟨_,rfl⟩,by simp⟩ (fun i τ H' _⟨_,e⟩=>by rw[e];exact(fZ hD).seq hS) ?_ ?_
  · rintro i x τ H' hx ⟨⟨v,rfl⟩,rfl⟩;have hi:i<xs.length:=(aD.mp hx).1;refine hs x (aV hx) v _ (fun y τ2 H5=>∃ys,H5 D=some (.lst ys)/\ys.length<sizeLine/\(∃v,τ2=v::caps)/\aH H5 D (.lst (ys++[y]))=aH H D (.lst ((xs.take (i+1)).filterMap F)))
      (fun τ2 H4=>(∃v,τ2=v::caps)/\H4=aH H D (.lst ((xs.take (i+1)).filterMap F))) (fZ hD) (fun y e=>?_) fun e=>?_
    · refine⟨_,bR,eX ?_,⟨_,rfl⟩,?_⟩
      · have:=List.length_filterMap_le F (xs.take i);rw[bV]at this;omega
      · rw[EZ,OR hx,Cv];simp[e]
    · refine⟨⟨_,rfl⟩,?_⟩;rw[OR hx,Cv];simp[e]
  · rintro τ H' ⟨_,rfl⟩;rw[bC];exact hd
abbrev Q4:=Int×Int×Int×Int
def q4(q:Q4):List V:=[.int q.1,.int q.2.1,.int q.2.2.1,.int q.2.2.2]
theorem zvp(ns:List Int)(lo hi:Option Int):∃ms:List Int,qE (ns.map V.int) lo hi=ms.map V.int/\ms.length<=ns.length:=by
 refine⟨(ns.drop (HT.wS (ns.map V.int).length 0 lo)).take (HT.wS (ns.map V.int).length (ns.map V.int).length hi-HT.wS (ns.map V.int).length 0 lo),?_,?_⟩
 ·unfold qE;rw[List.map_take,List.map_drop]
 ·rw[bV,vz];omega
section
variable{X:Cx}
end
theorem Ip{K:aa}{H:Hp}{p:Addr}{ys:List V}{Q:VK}(h:j1 K H p ys)(q:Q (.int ys.length) H):JD K [.ref p] H Q:=⟨p,ys,rfl,.inl h,q⟩
theorem ZQ{K:aa}{H:Hp}{p:Addr}{ys:List V}{Q:VK}(h:uF K H p ys)(q:Q (.int ys.length) H):JD K [.ref p] H Q:=⟨p,ys,rfl,.inr h,q⟩
theorem zze{K:aa}{H:Hp}{p:Addr}{xs:List V}{lo hi:Option Int}{Q:VK}(h:j1 K H p xs)(q:∀l,H l=none->Q (.ref l) (aH H l (.lst (qE xs lo hi)))):JE K (.ref p) lo hi H Q:=⟨p,xs,rfl,h,q⟩
section
variable{prog:Program}{w:World}{A:Around}{R:Result->Shared->Prop}
def TM(ns:List Int)(j:Nat)(AE:Array Value):Prop:=(j=0/\AE= #[])\/∃m t,AE= #[.int m t,.int m t]/\m∈ns.take j/\∀n∈ns.take j,n<=m
def zzf(ns:List Int)(d v:Value):Prop:=(ns=[]/\v=d)\/∃m t,v= .int m t/\m∈ns/\∀n∈ns,n<=m
theorem Zh{ns:List Int}{c7:List Value}(r:b8 (ns.map V.int) c7){j:Nat}{v:Value}(h:c7.toArray[j]?=some v):∃n t,ns[j]?=some n/\v= .int n t:=by
 have hj:j<c7.length:=by
  have:=(ly.mp h).1
  simpa using this
 have hl:=r.length;rw[ae]at hl;have e:(ns.map V.int)[j]?=some (V.int ns[j]):=by simp[hl▸hj]
 obtain⟨u,hu,t,ru⟩:=r.get e;have:c7[j]?=some v:=by simpa using h
 rw[this]at hu;cases hu
 exact⟨ns[j],t,by simp[hl▸hj],ru⟩
theorem zxx{l it S:Addr}{ns:List Int}{c7:List Value}{d:Value}(hh:A.handled=none)(QF:l≠it)(F7:S≠it)(Lo:S≠l)(rv:b8 (ns.map V.int) c7):
    ∀(k j:Nat)(s:Shared)(AE:Array Value)(c:Nat),c7.length-j=k->j<=c7.length->s.heap.IsListIter it l j->s.heap.IsList l c7.toArray->TM ns j AE->
    s.heap.get? S=some {cls:=.type "list",dict:=none,data:=.seq AE c,slots:=#[]}->
    (∀v h' tk,zzf ns d v->(∀b o,b≠it->b≠S->s.heap.get? b=some o->h'.get? b=some o)->R (.ok (.ret v)) {s with heap:=h',toks:=tk})->
    codeAny (model prog w) A (.builtin "max.loop" ⟨[.ref it,.none,.ref S],[("default",d)]⟩) R s:=by
  have fK:ns.length=c7.length:=by have:=rv.length;rwa [ae]at this
  have nm:(toString "max" ++toString ".loop":String)="max.loop":=by decide
  intro k
  induction k with
  |zero=>
    intro j s AE c hk hj CJ Gb hb uI fin;have ej:j=c7.length:=by omega
    refine codeAny_builtin F.entry_max_loop ?_;rw[Around.under_plainId F.plain_max_loop _];show wpAny _ A.in1 (seqItems? (.ref S) >>=_) _ _ s;refine wpAny_bind (wpAny_seqItems uI rfl ?_);show wpAny _ A.in1 (tryCatch (pyNext (.ref it)) _ >>=_) _ _ s;refine wpAny_bind (wpAny_tryCatch (wpAny_pyNext_list_end (A:=A.in1) hh CJ Gb (by simp[ej]) fun h' ek=>?_));have AM:=ek S _ F7 uI;rcases hb with⟨e0,rfl⟩ |⟨m,t,rfl,hm,kE⟩
    · refine wpAny_bind (wpAny_rule (wpAny_pure ?_));refine fin d h' s.toks (.inl ⟨Aw.mp (by omega),rfl⟩) fun b o n1 _ e=>ek b o n1 e
    · show wpAny _ A.in1 (updateSeq S (fun _=>#[]) >>=_) _ _ _;refine wpAny_bind (wpAny_updateSeq AM rfl (wpAny_bind (wpAny_letGo (wpAny_pure ?_))));rw[jy (by omega)]at hm kE;exact fin _ _ s.toks (.inr ⟨m,t,rfl,hm,kE⟩) fun b o n1 n2 e=>(Heap.get?_update_other _ _ (d8 n2)).trans (ek b o n1 e)
  |succ k ih=>
    intro j s AE c hk hj CJ Gb hb uI fin;have jT:j<c7.length:=by omega
    refine codeAny_builtin F.entry_max_loop ?_;rw[Around.under_plainId F.plain_max_loop _];show wpAny _ A.in1 (seqItems? (.ref S) >>=_) _ _ s;refine wpAny_bind (wpAny_seqItems uI rfl ?_);show wpAny _ A.in1 (tryCatch (pyNext (.ref it)) _ >>=_) _ _ s;have hv:c7.toArray[j]?=some c7[j]:=by simp[jT]
    refine wpAny_bind (wpAny_tryCatch (wpAny_pyNext_list_item CJ Gb hv fun h' xV uh=>?_));obtain⟨n,t,en,ev⟩:=Zh rv hv;rw[ev];have AM:=uh.extBut S _ F7 uI;have AO:h'.IsList l c7.toArray:=Gb.extBut uh.extBut QF;have step:∀(m:Int)(tt:Tok)(s2:Shared)(c2:Nat),s2.heap.IsListIter it l (j+1)->s2.heap.IsList l c7.toArray->s2.heap.get? S=some {cls:=.type "list",dict:=none,data:=.seq #[.int m tt,.int m tt] c2,slots:=#[]}->
        m∈ns.take (j+1)->(∀z∈ns.take (j+1),z<=m)->(∀b o,b≠it->b≠S->s.heap.get? b=some o->s2.heap.get? b=some o)->s2.gens=s.gens->s2.drawn=s.drawn->s2.os=s.os->
        codeAny (model prog w) A (.builtin "max.loop" ⟨[.ref it,.none,.ref S],[("default",d)]⟩) R s2:=fun m tt s2 c2 i1 i2 i3 i4 i5 i6 g1 g2 g3=>by
      refine ih (j+1) s2 _ c2 (by omega) jT i1 i2 (.inr ⟨m,tt,rfl,i4,i5⟩) i3 fun v Qm JT r1 r2=>?_;have:=fin v Qm JT r1 fun b o n1 n2 e=>r2 b o n1 n2 (i6 b o n1 n2 e);obtain⟨q1,q2,q3,q4,q5⟩:=s2;obtain⟨p1,p2,p3,p4,p5⟩:=s;cases g1;cases g2;cases g3
      exact this
    have l6:=OR en;have nY:∀(g:Obj->Obj) b o,b≠it->b≠S->s.heap.get? b=some o->(h'.update S g).get? b=some o:=fun g b o n1 n2 e=>(Heap.get?_update_other _ _ (d8 n2)).trans (uh.extBut b o n1 e);rcases hb with⟨e0,rfl⟩ |⟨m,t0,rfl,hm,kE⟩
    · show wpAny _ A.in1 (updateSeq S (fun _=>_) >>=_) _ _ _;refine wpAny_bind (wpAny_updateSeq AM rfl ?_);rw[nm];refine wpAny_pure ⟨plainId_quiet F.plain_max_loop _,step n t _ _ (xV.at fun o e=>(Heap.get?_update_other _ _ F7).trans e) (AO.at fun o e=>(Heap.get?_update_other _ _ Lo).trans e) (Heap.get?_update_self _ AM rfl) ?_ ?_ (nY _) rfl rfl rfl⟩
      · rw[l6];simp
      · rw[l6,e0];simp
    · show wpAny _ A.in1 (tryCatch (holding [.int n t,.int n t] (richCompare .Gt (.int n t) (.int m t0) >>=_)) _ >>=_) _ _ _;refine wpAny_bind (wpAny_tryCatch (wpAny_holding (wpAny_bind (richCompare_gives (op:=.Gt) (typeIs_int _ _ t) (typeIs_int _ _ t0) F.slot_int_gt F.entry_int_gt (F.args_int_gt_2 _ _) (gives_int_gt _ _ t t0) (fun x=>nomatch x) ?_))));refine wpAny_bind (wpAny_holding (wpAny_truthy_bool (wpAny_bind (wpAny_letGo (wpAny_pure ?_)))));by_cases Lw:n > m
      · simp only[Lw,decide_true,if_true];refine wpAny_bind (wpAny_updateSeq AM rfl (wpAny_bind (wpAny_letGo ?_)));rw[nm];refine wpAny_pure ⟨plainId_quiet F.plain_max_loop _,step n t _ _ (xV.at fun o e=>(Heap.get?_update_other _ _ F7).trans e) (AO.at fun o e=>(Heap.get?_update_other _ _ Lo).trans e) (Heap.get?_update_self _ AM rfl) ?_ ?_ (nY _) rfl rfl rfl⟩
        · rw[l6];simp
        · rw[l6];intro z hz;rcases ay.mp hz with hz|hz
          · have:=kE z hz;omega
          · have:z=n:=by simpa using hz
            omega
      · simp only[Lw,decide_false,fQ,if_false];refine wpAny_bind (wpAny_letGo ?_);rw[nm];refine wpAny_pure ⟨plainId_quiet F.plain_max_loop _,step m t0 _ c xV AO AM ?_ ?_ (fun b o n1 _ e=>uh.extBut b o n1 e) rfl rfl rfl⟩
        · rw[l6];exact eZ _ hm
        · rw[l6];intro z hz;rcases ay.mp hz with hz|hz
          · exact kE z hz
          · have:z=n:=by simpa using hz
            omega
theorem zvr(a d:Value):argsOk "max" ⟨[a],[("default",d)]⟩:=by unfold argsOk;kernel_rfl
theorem zvs{E:Value->Shared->Prop}{s:Shared}{l:Addr}{ns:List Int}{c7:List Value}{d:Value}{Q:Value->Shared->Prop}(hh:A.handled=none)(hl:s.heap.IsList l c7.toArray)(rv:b8 (ns.map V.int) c7)(h:∀v h' tk,zzf ns d v->(∀b o,s.heap.get? b=some o->h'.get? b=some o)->Q v {s with heap:=h',toks:=tk}):
    wpAny (model prog w) A (call (.builtin "max") [.ref l] [("default",d)]) Q E s:=by
  have nm:(toString "max" ++toString ".loop":String)="max.loop":=by decide
  refine wpAny_call (codeAny_call_builtin F.plain_max F.entry_max ?_);have ca:checkBuiltinCall "max" ⟨[.ref l],[("default",d)]⟩=pure ():=by
    simp only[checkBuiltinCall,F.kind_max];cases Je:Manifest.signature? "max"with
    |none=>rfl
    |some sig=>
      have ha:=zvr (.ref l) d;simp only[argsOk,Je]at ha;exact ha
  rw[ca];refine wpAny_pure ?_;show wpAny _ A.in1 (Builtin.Builtins.bindParams "max" ["key","default"] 0 ⟨[],[("default",d)]⟩ >>=_) _ _ s;refine wpAny_bind (wpAny_of_eq (show Builtin.Builtins.bindParams "max" ["key","default"] 0 ⟨[],[("default",d)]⟩=pure [none,some d]from rfl) ?_);refine wpAny_bind (wpAny_pure ?_);have jT:l<s.heap.objs.size:=by obtain⟨_,e,_⟩:=id hl;exact Heap.lt_size e
  refine wpAny_bind (wpAny_pyIter_list hl ?_);refine wpAny_bind (wpAny_newObj_type ?_);rw[nm];have kp:∀(x y:Obj) b o,s.heap.get? b=some o->((s.heap.push x).push y).get? b=some o:=fun x y b o e=>Heap.get?_push_of_some _ (Heap.get?_push_of_some _ e);refine wpAny_pure ⟨plainId_quiet F.plain_max_loop _,?_⟩;refine zxx (it:=s.heap.objs.size) (S:=(s.heap.push _).objs.size) hh (bq jT) (by rw[Heap.size_push];exact II _) (by rw[Heap.size_push];exact oG (gk jT)) rv c7.length 0 _ #[] 0 rfl (bW _)
    ⟨_,Heap.get?_push_of_some _ (Heap.get?_push_size _ rfl),rfl,rfl⟩ (hl.at fun o e=>kp _ _ _ _ e) (.inl ⟨rfl,rfl⟩) (Heap.get?_push_size _ rfl) fun v h' tk r1 r2=>?_;refine h v h' tk r1 fun b o e=>r2 b o (bq (Heap.lt_size e)) (bq ?_) (kp _ _ _ _ e);rw[Heap.size_push];exact gk (Heap.lt_size e)
end
def HY(K:aa)(t:TA)(td:TE):TE:=fun σ H Q=>t σ H fun xs H1=>td σ H1 fun y H2=>∃(p:Addr)(ns:List Int)(d:Int),xs=[.ref p]/\y= .int d/\j1 K H2 p (ns.map V.int)/\
 ∀m,(ns=[]->m=d)->(ns≠[]->m∈ns/\∀n∈ns,n<=m)->Q (.int m) H2
theorem Si{X:Cx}(K:aa)(hK:X.K=K)(hc:X.calm=true){l d:Expr}{t:TA}{td:TE}{p pos Gn:Pos}(hg:Gl X "max")(hm:X.mg "max"=none)(hl:PA X [l] t)(hd:PE X d td)(he:starEach [l] X.env=[(false,eval l X.env)]:=by rfl):
    PE X (.Call (.Name "max" p) [l] [⟨some "default",d,Gn⟩] pos) (HY K t td):=by
  subst hK;intro ah s σ H Q I h;refine wpAny_Call_Name_kw (J4 I hg hm boot_max ?_);refine callWith_kw (he:=by rw[he];rfl) (hplain:=by rw[he];rfl) ?_;refine eJ (hl pos ah s σ H _ I h) fun us s1⟨xs,H1,I1,r1,q1⟩=>?_;refine kws_cons (eJ (hd ah s1 σ H1 _ I1 q1) fun y s2⟨yv,H2,I2,r2,q2⟩=>kws_nil ?_);obtain⟨a,ns,dd,rfl,rfl,hq,fin⟩:=q2;obtain⟨u,rfl,ru⟩:=vals1 r1;cases(show u=Value.ref a from ru)
  obtain⟨t2,rfl⟩:=(show ∃t,y=Value.int dd t from r2);obtain⟨c7,rv,hp,hz⟩:=I2.list hq;refine zvs (I2.ok.hd hc) hp.isList rv fun v h' tk r k=>?_;rcases r with⟨e,rfl⟩ |⟨m,t3,rfl,e1,e2⟩
  · exact⟨.int dd,H2,I2.kept (t':=tk) k,⟨_,rfl⟩,fin dd (fun _=>rfl) fun z=>absurd e z⟩
  · exact⟨.int m,H2,I2.kept (t':=tk) k,⟨_,rfl⟩,fin m (fun z=>by rw[z]at e1;cases e1) fun _=>⟨e1,e2⟩⟩
def XTr(B:Heap)(e:Addr)(h:Heap)(vs:Array Value):Option Value->Prop
 |none=>vs[1]?=some Value.none
 |some f=>∃T oT ts,vs[1]?=some (.ref T)/\B.get? T=none/\T≠e/\h.get? T=some oT/\oT.data= .fields ts/\ts[3]?=some f
structure Bq(B:Heap)(e:Addr)(cls:Value)(iH:Option Addr)(fl:Option Value)(h:Heap):Prop where
 iM:B.StaysIn h
 new:B.get? e=none
 ex:∃oe vs,h.get? e=some oe/\oe.cls=cls/\oe.dict=iH/\oe.data= .fields vs/\1<vs.size/\XTr B e h vs fl
structure Bp(h h':Heap):Prop where
 sl:∀b o,h.get? b=some o->(∀vs,o.data≠.fields vs)->∃sl,h'.get? b=some {o with slots:=sl}
 th:∀b o,h.get? b=some o->∃o',h'.get? b=some o'
theorem Bp.trans{h h1 h2:Heap}(a:Bp h h1)(b:Bp h1 h2):Bp h h2:=by
 refine⟨fun c o e n=>?_,fun c o e=>?_⟩
 ·obtain⟨s1,e1⟩:=a.sl c o e n;obtain⟨s2,e2⟩:=b.sl c _ e1 n;exact⟨s2,e2⟩
 ·obtain⟨o1,e1⟩:=a.th c o e;exact b.th c o1 e1
theorem Bp.mH{h h' B:Heap}{l:List Env}(u:Bp h h')(f:h.FunFrames B l):h'.FunFrames B l:=f.of_keeps fun b o e n=>by obtain⟨sl,q⟩:=u.sl b o e n;exact⟨_,q,rfl⟩
section
variable{M:Model}{A:Around}{E:Value->Shared->Prop}{s:Shared}{B:Heap}{env:Env}{outer:List Env}{L e:Addr}{cls:Value}{iH:Option Addr}
theorem Zi {fl:Option Value} {head:Value} {b1:Bool} {Q:Unit->Shared->Prop} (fr:A.frames=some (env :: outer)) (ff:s.heap.FunFrames B (env :: outer)) (hf:env.frame=some L) (x:Bq B e cls iH fl s.heap)
    (h:∀ h',Bq B e cls iH (some (rawInt L)) h'->Bp s.heap h'->Q () { s with heap:=h' }) :
    wpAny M A (do let a <- frameOf env; let pl <- entryPlaceOf L b1; let b <- EntryCells.newEntry head a .none (rawInt L) .none pl; setField (.ref e) 1 b) Q E s:=by
  obtain ⟨iM,new,oe,vs,Fj,Mc,Me,CU,Jt,_⟩:=x
  have nf:e ∉ (env :: outer).filterMap (·.frame):=fun z=>by
    obtain ⟨_,o,q,n⟩:=ff.mem z
    rw [Fj] at q
    cases q
    exact n vs CU
  refine wpAny_bind (wpAny_frameOf_fun fr ff hf fun h1 sl=>wpAny_bind (wpAny_entryPlaceOf fun pl ip=>?_))
  have e1:h1.get? e=some oe:=(sl.2.1 e nf).trans Fj
  have Wp:B.StaysIn h1:=fun b o q=>(sl.2.1 b fun z=>by rw [(ff.mem z).1] at q; cases q).trans (iM b o q)
  unfold EntryCells.newEntry newFields
  refine wpAny_bind (wpAny_newObj_type ?_ (ip.sizeOk5 _ _ _ _ _))
  generalize hT:({ cls:=.type "traceback", dict:=none,data:=.fields ([head,.ref L,.none,rawInt L,.none]++(if pl.isEmpty then jx 6 Value.none else pl)).toArray }:Obj)=oT
  have e2:(h1.push oT).get? e=some oe:=Heap.get?_push_of_some _ e1
  have ne:h1.objs.size≠e:=oG (Heap.lt_size e1)
  refine wpAny_setField e2 CU Jt (h _ ⟨fun b o q=>?_,new,_,_,Heap.get?_update_self _ e2 (Obj.isFreed_of_fields (Obj.data_mapFields CU _)),(Obj.cls_mapFields _ _).trans Mc,?_,Obj.data_mapFields CU _,by simpa using Jt,h1.objs.size,oT,_,by simp [Jt],Wp.fresh,ne,?_,by rw [<- hT],?_⟩ ⟨fun b o q n=>?_,fun b o q=>?_⟩)
  · rw [Heap.get?_update_other _ _ fun z=>by rw [<- z,new] at q; cases q]
    exact Heap.get?_push_of_some _ (Wp b o q)
  · rw [<- Me]; cases oe with | mk c d da sl=>cases da <;> rfl
  · rw [Heap.get?_update_other _ _ (d8 ne)]
    exact Heap.get?_push_size _ (by rw [<- hT]; rfl)
  · rcases ip with rfl | ⟨_,_,_,_,_,_,_,rfl⟩ <;> simp
  · obtain ⟨s1,q1⟩:=sl.2.2 b o q
    refine ⟨s1,?_⟩
    rw [Heap.get?_update_other _ _ fun z=>by rw [<- z,Fj] at q; cases q; exact n vs CU]
    exact Heap.get?_push_of_some _ q1
  · by_cases z:b=e
    · rw [z]; exact ⟨_,Heap.get?_update_self _ e2 (Obj.isFreed_of_fields (Obj.data_mapFields CU _))⟩
    · obtain ⟨s1,q1⟩:=sl.2.2 b o q
      exact ⟨_,(Heap.get?_update_other _ _ (d8 z)).trans (Heap.get?_push_of_some _ q1)⟩
theorem UH{f:Value}{Q:Unit->Shared->Prop}(x:Bq B e cls iH (some f) s.heap)(h:∀h',Bq B e cls iH (some .none) h'->Bp s.heap h'->Q () {s with heap:=h'}):wpAny M A (setFlight (.ref e) none) Q E s:=by
 obtain⟨iM,new,oe,vs,Fj,Mc,Me,CU,Jt,T,oT,ts,t1,t2,t3,t4,t5,t6⟩:=x;unfold setFlight;refine wpAny_bind (wpAny_field Fj CU t1 ?_);rw[if_pos (show(Value.ref T !=Value.none)=true by simp)];have h3:3<ts.size:=(ly.mp t6).1;have Gx:∀(g:Obj->Obj) b,b≠T->(s.heap.update T g).get? b=s.heap.get? b:=fun g b z=>Heap.get?_update_other _ _ (d8 z);refine wpAny_setField t4 t5 h3 (h _ ⟨fun b o q=>?_,new,oe,vs,by rw[Gx _ _ (d8 t3)];exact Fj,Mc,Me,CU,Jt,T,_,_,t1,t2,t3,Heap.get?_update_self _ t4 (Obj.isFreed_of_fields (Obj.data_mapFields t5 _)),Obj.data_mapFields t5 _,by simp[h3]⟩ ⟨fun b o q n=>⟨o.slots,?_⟩,fun b o q=>?_⟩)
 ·rw[Gx _ _ fun z=>by rw[z,t2]at q;cases q];exact iM b o q
 ·rw[Gx _ _ fun z=>by rw[z,t4]at q;cases q;exact n ts t5];exact q
 ·by_cases z:b=T
  ·rw[z];exact⟨_,Heap.get?_update_self _ t4 (Obj.isFreed_of_fields (Obj.data_mapFields t5 _))⟩
  ·exact⟨o,(Gx _ _ z).trans q⟩
theorem ZR{fl:Option Value}{Q:Unit->Shared->Prop}(fr:A.frames=some (env::outer))(ff:s.heap.FunFrames B (env::outer))(hf:env.frame=some L)(x:Bq B e cls iH fl s.heap)(Ja:fl=none\/fl=some .none)(h:∀h',Bq B e cls iH (some (rawInt L)) h'->Bp s.heap h'->Q () {s with heap:=h'}):wpAny M A (noteFrame (.ref e) env) Q E s:=by
  have x0:=x;obtain⟨iM,new,oe,vs,Fj,Mc,Me,CU,Jt,tr⟩:=x;unfold noteFrame;simp only[hf];rcases Ja with rfl|rfl
  · refine wpAny_bind (wpAny_field Fj CU tr ?_);rw[if_neg (by decide)];exact Zi fr ff hf x0 h
  · obtain⟨T,oT,ts,t1,t2,t3,t4,t5,t6⟩:=tr;refine wpAny_bind (wpAny_field Fj CU t1 ?_);rw[if_pos (show(Value.ref T !=Value.none)=true by simp)];refine wpAny_bind (wpAny_field t4 t5 t6 ?_);rw[if_neg (show ¬((Value.none ==rawInt L)=true)by simp[rawInt])];have h3:3<ts.size:=(ly.mp t6).1;have Gx:∀(g:Obj->Obj) b,b≠T->(s.heap.update T g).get? b=s.heap.get? b:=fun g b z=>Heap.get?_update_other _ _ (d8 z);have up:∀g,Bp s.heap (s.heap.update T (Obj.mapFields g)):=fun g=>⟨fun b o q n=>⟨o.slots,by
      rw[Gx _ _ fun z=>by rw[z,t4]at q;cases q;exact n ts t5];exact q⟩,fun b o q=>by
      by_cases z:b=T
      · rw[z];exact⟨_,Heap.get?_update_self _ t4 (Obj.isFreed_of_fields (Obj.data_mapFields t5 _))⟩
      · exact⟨o,(Gx _ _ z).trans q⟩⟩
    refine wpAny_bind (wpAny_setField t4 t5 h3 ?_);refine Zi (fl:=some .none) fr ((up _).mH ff) hf ⟨fun b o q=>?_,new,oe,vs,by rw[Gx _ _ (d8 t3)];exact Fj,Mc,Me,CU,Jt,T,_,_,t1,t2,t3,Heap.get?_update_self _ t4 (Obj.isFreed_of_fields (Obj.data_mapFields t5 _)),Obj.data_mapFields t5 _,by simp[h3]⟩ fun h' a b=>h h' a ((up _).trans b);rw[Gx _ _ fun z=>by rw[z,t2]at q;cases q];exact iM b o q
theorem Zj{fl:Option Value}{Q:Unit->Shared->Prop}(fr:A.frames=some (env::outer))(ff:s.heap.FunFrames B (env::outer))(hf:env.frame=some L)(x:Bq B e cls iH fl s.heap)(Ja:fl=none\/fl=some .none)(h:∀h',Bq B e cls iH (some .none) h'->Bp s.heap h'->Q () {s with heap:=h'}):wpAny M A (leaving env (.ref e)) Q E s:=by
  unfold leaving;exact wpAny_bind (ZR fr ff hf x Ja fun h1 x1 u1=>UH (s:={s with heap:=h1}) x1 fun h2 x2 u2=>h h2 x2 (u1.trans u2))
end
abbrev yE:List Value:=[.type "ValueError",.type "Exception",.type "BaseException",.type "object"]
structure XC(K:aa)(C:Addr):Prop where
 hd:je K C=true
 ga:aR K (.ref C) "__getattribute__"=some (some (.builtin "BaseException.__getattribute__"))
 gn:aR K (.ref C) "__getattr__"=some none
 sa:aR K (.ref C) "__setattr__"=some (some (.builtin "object.__setattr__"))
 cl:aR K (.ref C) "__class__"=some (some (.builtin "object.__class__"))
 kg:jg K (.builtin "object.__class__") "__get__"=some (some (.builtin "getset_descriptor.__get__"))
 kt:uD K (.builtin "object.__class__")=some true
 be:lX K C (.type "BaseException")=some true
 ob:lX K C (.type "object")=some true
 ex:∃nm q N bs bm vR sn sub ab Dq dd k0 k1 k2 k3 k5,K.lookup C=some (excClassObj nm q C N bs bm vR sn sub ab Dq dd k0 k1 k2 k3 k5 "ValueError.__new__")/\vP K yE bm=true
theorem XC.plain{K:aa}{C:Addr}(q:dN K C yE "ValueError.__new__"=true):
    ∃nm q N bs bm vR sn sub ab Dq dd k0 k1 k2 k3 k5,K.lookup C=some (excClassObj nm q C N bs bm vR sn sub ab Dq dd k0 k1 k2 k3 k5 "ValueError.__new__")/\vP K yE bm=true/\PySem.W.nsOkIn K N=true/\mU K N "__init__"=some none:=by
  unfold dN at q;split at q
  · rename_i dd cd sl ho
    split at q
    · rename_i C' bm k0 k1 k2 k3 n k5 hm hs
      simp only[fM,beq_iff_eq,ua]at q;obtain⟨⟨⟨⟨⟨rfl,rfl⟩,d1⟩,ht⟩,eB⟩,VL⟩:=q;obtain⟨nm,bs,mro,ns,qn,hd,sn,sub,ab,Dq,del⟩:=cd;dsimp only at hm d1 eB VL;subst hm d1;obtain⟨l⟩:=sl;simp only at hs;subst hs;exact⟨nm,qn,ns,bs,bm,hd,sn,sub,ab,Dq,dd,k0,k1,k2,k3,k5,ho,ht,eB,VL⟩
    · cases q
  · cases q
section
variable{prog:Program}{w:World}{A:Around}{E:Value->Shared->Prop}{s:Shared}{K:aa}{x C:Addr}{ox:Obj}{od:Option Obj}
theorem TN{us:List Value}{Q:Value->Shared->Prop}(X:K.In s.heap)(q:dN K C yE "ValueError.__new__"=true)(hl:us.length<=sizeLine)(h:∀h' e,Heap.MadeExcOf s.heap h' e (.ref C) us->Q (.ref e) {s with heap:=h'}):wpAny (model prog w) A (call (.ref C) us) Q E s:=by
  obtain⟨nm,qn,N,bs,bm,vR,sn,sub,ab,Dq,dd,k0,k1,k2,k3,k5,lk,tl,nk,ni⟩:=XC.plain q;obtain⟨hp,g,d,t,os⟩:=s;exact wpAny_call_exc_subU vO rfl vO (qA X tl) (X _ _ lk) (.of_isNs (PySem.W.isNs_of_in X nk)) (PySem.W.nsMap_none_of_in X nk ni) (fun h' e m=>h h' e m) hl
theorem TQ{env:Env}{y:Sem Value}{Q:Flow->Shared->Prop}(hh:A.handled=none)(h:wpAny (model prog w) A y (fun v s1=>∃C e oe vs,XC K C/\v= .ref e/\K.In s1.heap/\s1.heap.get? e=some oe/\oe.cls= .ref C/\oe.data= .fields vs/\vs[1]?=some Value.none/\E (.ref e) s1) E s):
    wpAny (model prog w) A (raiseStmt env (some y) none) Q E s:=by
  unfold raiseStmt;refine wpAny_bind (wpAny_mono h (fun v s1 z=>?_) fun _ _ z=>z);obtain⟨C,e,oe,vs,c,rfl,X,e1,e2,e3,e4,fin⟩:=z;obtain⟨nm,qn,N,bs,bm,vR,sn,sub,ab,Dq,dd,k0,k1,k2,k3,k5,lk,tl⟩:=c.ex;obtain⟨hp,g,d,t,os⟩:=s1;have cl:=X _ _ lk;have Qt:(Value.ref C::bm).contains (.type "BaseException")=true:=by rw[E3,(qA X tl).hasType (show yE.contains (.type "BaseException")=true from rfl),Bool.or_true]
  obtain⟨oc,od,oda,uZ⟩:=oe;dsimp only at e2 e3;subst e2 e3;have fl:∀{α:Type}{QQ:Value->Shared->Prop},QQ .none ⟨hp,g,d,t,os⟩->wpAny (model prog w) A (field (.ref e) 1) QQ E ⟨hp,g,d,t,os⟩:=fun{_ _} z=>wpAny_field e1 rfl e4 z
  repeat (first|(with_reducible refine wpAny_isSubtype_exc cl ?_;rw[Qt]) |with_reducible refine wpAny_loadPart_at e1 ?_|with_reducible refine wpAny_loadPart_at cl ?_|with_reducible refine wpAny_field e1 rfl e4 ?_|wp_step)
  exact wpAny_raiseNew_none hh fin
end
def PY(e C:Addr)(iH:Option Addr)(fr:Bool)(h:Heap):Prop:=∃oe vs,h.get? e=some oe/\oe.cls= .ref C/\oe.dict=iH/\oe.data= .fields vs/\1<vs.size/\(fr=true->vs[1]?=some Value.none)
def j2(e C:Addr)(iH:Option Addr)(fr:Bool):HO:=.ext (PY e C iH fr)
section
variable{P:Program}{w:World}{H:Hp}{h:Heap}
theorem UI{e C:Addr}{iH:Option Addr}{fr:Bool}(x:PY e C iH fr h):fJ P w H h e (j2 e C iH fr):=by
 refine⟨x,?_,fun h1 h2 y k=>?_⟩
 ·obtain⟨oe,vs,e1,_⟩:=x;exact⟨oe,e1⟩
 ·obtain⟨oe,vs,e1,r⟩:=y;exact⟨oe,vs,k _ e1,r⟩
theorem fJ.there{a:Addr}{o:HO}(x:fJ P w H h a o):∃ob,h.get? a=some ob:=by
 cases o with
 |lst xs=>obtain⟨_,_,_,_,e⟩:=x;exact⟨_,e⟩
 |tup xs=>obtain⟨_,_,_,_,e,_⟩:=x;exact⟨_,e⟩
 |dK kvs=>obtain⟨_,_,_,_,o,_,_,e,_⟩:=x;exact⟨_,e⟩
 |dT kvs=>obtain⟨_,_,_,_,o,_,_,e,_⟩:=x;exact⟨_,e⟩
 |set S n=>obtain⟨o,_,_,_,e,_⟩:=x;exact⟨_,e⟩
 |ins C dx fs=>obtain⟨_,_,_,e,_⟩:=x;exact⟨_,e⟩
 |own y=>exact x
 |xd fs=>obtain⟨_,⟨_,_,_,e,_⟩,_⟩:=x;exact⟨_,e⟩
 |Ox lo hi=>obtain⟨_,_,_,e⟩:=x;exact⟨_,e⟩
 |jm ob u=>obtain⟨e,_⟩:=x;exact⟨_,e⟩
 |Ie ps=>exact⟨_,show h.get? a=some _ from x⟩
 |met f y=>exact⟨_,show h.get? a=some _ from x⟩
 |ext φ=>exact x.2.1
theorem lV.exc(x:lV P w H h){e C:Addr}{iH:Option Addr}{fr:Bool}(q:H e=some (j2 e C iH fr)):PY e C iH fr h:=(show fJ P w H h e (j2 e C iH fr)from x e _ q).1
end
structure Pu(P:Program)(w:World)(B:Heap)(l:List Env)(e C:Addr)(iH:Option Addr)(H:Hp)(h:Heap):Prop where
 at_:∃fl,(fl=none\/fl=some Value.none)/\Bq B e (.ref C) iH fl h
 ff:h.FunFrames B l
 eB:lV P w H h
 he:H e=some (j2 e C iH false)
 F1:∀a o,H a=some o->a≠e->∃ob,B.get? a=some ob
def eW(P:Program)(w:World):vy:=fun outer H s E e s'=>∃B ea C iH H',e= .ref ea/\s'.os=s.os/\AllBare s'.gens/\Pu P w B outer ea C iH H' s'.heap/\Un (ug outer) [] H H' s.heap s'.heap/\
 (∀b o,s.heap.get? b=some o->H b=none->b∉ug outer->B.get? b=some o)/\E (.ref ea) iH H'
theorem Zk{P:Program}{w:World}{B:Heap}{e C:Addr}{iH:Option Addr}{fl:Option Value}{H:Hp}{h h':Heap}(x:lV P w H h)(he:H e=some (j2 e C iH false))(F1:∀a o,H a=some o->a≠e->∃ob,B.get? a=some ob)(st:B.StaysIn h)(y:Bq B e (.ref C) iH fl h'):lV P w H h':=fun a o q=>by
  by_cases z:a=e
  · subst z;rw[he]at q;cases q
    obtain⟨oe,vs,e1,e2,e3,e4,e5,_⟩:=y.ex;exact UI ⟨oe,vs,e1,e2,e3,e4,e5,fun z=>by cases z⟩
  · refine(x a o q).iM (fun b u hb g=>?_) (fun _ q=>q) fun _ _ q=>q;have F8:∃o',H b=some o'/\b≠e:=by
      rcases hb with rfl|hb
      · exact⟨_,q,z⟩
      · refine⟨_,hb,fun y=>?_⟩;rw[y,he]at hb;cases hb
    obtain⟨o',h1,h2⟩:=F8;obtain⟨ob,h3⟩:=F1 b o' h1 h2;have h4:=st b ob h3;rw[g]at h4;cases h4
    exact y.iM b _ h3
section
variable{X:Cx}{ah:List (Addr×Obj)}{σ:St}{H H':Hp}{s:Shared}{h':Heap}
theorem Inv.out(I:Inv X ah σ H s)(hex:X.ex=[])(u:Un (ug X.stack) [] H H' s.heap h'):Un X.fs [] X.H₀ H' X.s₀.heap h':=by
 have nl:∀b o,X.s₀.heap.get? b=some o->b≠X.env.locals:=fun b o q z=>absurd (aQ (Heap.lt_size q) (by rw[z];exact I.ok.above)) (fN _);have nx:∀b:Addr,b∉X.ex:=fun b=>by rw[hex];simp
 have ns:∀b o,X.s₀.heap.get? b=some o->b∉X.fs->b∉ug X.stack:=fun b o q n z=>by
  rcases ao.mp (I.sF b z)with y|y
  ·exact nl b o q y
  ·exact n y
 refine⟨fun b o q n hb _=>u.keep b o (I.base.keep b o q n hb (nx b)) (I.base.free b o q n (nx b)) (ns b o q hb) (by simp),fun b o q n hb _=>?_,fun b o q n _=>?_,fun b o q _=>?_,fun b xs q=>u.rA b xs (I.base.rA b xs q),fun b o v q=>u.mV b o v (I.base.mV b o v q),fun b ps q=>?_⟩
 ·obtain⟨sl,e⟩:=I.base.slot b o q n hb (nx b);have fr:=I.base.free b o q n (nx b);by_cases hs:b∈ug X.stack
  ·obtain⟨RN,e2⟩:=u.slot b _ e fr hs (by simp);exact⟨RN,e2⟩
  ·exact⟨sl,u.keep b _ e fr hs (by simp)⟩
 ·obtain⟨o1,e⟩:=I.base.there b o q (nx b);exact u.free b o1 e (I.base.free b o q n (nx b)) (by simp)
 ·obtain⟨o1,e⟩:=I.base.there b o q (nx b);exact u.there b o1 e (by simp)
 ·obtain⟨m1,e1⟩:=I.base.rj b ps q;obtain⟨m2,e2⟩:=u.rj b _ e1;exact⟨m1++m2,by rw[e2,DF]⟩
def Kf(X:Cx)(e:Addr)(h:Heap):Heap:=E7 h (e::ug X.stack)
theorem Inv.Lg(I:Inv X ah σ H s){e C:Addr}{iH:Option Addr}(he:H e=some (j2 e C iH true)):
    Bq (Kf X e s.heap) e (.ref C) iH none s.heap/\s.heap.FunFrames (Kf X e s.heap) X.stack/\(∀b o,s.heap.get? b=some o->b≠e->b∉ug X.stack->(Kf X e s.heap).get? b=some o):=by
  obtain⟨oe,vs,e1,e2,e3,e4,e5,e6⟩:=I.eB.exc he;refine⟨⟨fun b o q=>Cz _ q,AB _ (.head _),oe,vs,e1,e2,e3,e4,e5,e6 rfl⟩,PySem.W.funFrames_hide I.stack fun env hm a ha=>.tail _ (eU.mpr ⟨env,hm,ha⟩),fun b o q n1 n2=>Bo _ q fun z=>?_⟩;rcases ao.mp z with y|y
  · exact n1 y
  · exact n2 y
theorem Inv.Lh(I:Inv X ah σ H s){e C:Addr}{iH:Option Addr}{fl:Option Value}(he:H e=some (j2 e C iH true))(x:Bq (Kf X e s.heap) e (.ref C) iH fl h')(u:Bp s.heap h'):
    Un (ug X.stack) [] H (aH H e (j2 e C iH false)) s.heap h'/\lV X.prog X.w (aH H e (j2 e C iH false)) h'/\∀a o,aH H e (j2 e C iH false) a=some o->a≠e->∃ob,(Kf X e s.heap).get? a=some ob:=by
  obtain⟨x0,ff,big⟩:=I.Lg he;have F1:∀a o,aH H e (j2 e C iH false) a=some o->a≠e->∃ob,(Kf X e s.heap).get? a=some ob:=fun a o q n=>by rw[dj n]at q;obtain⟨ob,g⟩:=(I.eB a o q).there;exact⟨ob,big a ob g n fun z=>by rw[I.yi a z]at q;cases q⟩
  have ne:∀b,H b=none->b≠e:=fun b n z=>by rw[z,he]at n;cases n
  refine⟨⟨fun b o q n hb _=>x.iM b o (big b o q (ne b n) hb),fun b o q n hb _=>?_,fun b o q n _=>by rw[dj (ne b n)];exact n,fun b o q _=>u.th b o q,fun b xs q=>?_,fun b o v q=>?_,fun b ps q=>⟨#[],?_⟩⟩,?_,F1⟩
  · obtain⟨_,o1,g,nf⟩:=ff.mem (show b∈X.stack.filterMap (·.frame)from hb);rw[q]at g;cases g
    exact u.sl b o q nf
  · rw[dj fun z=>by rw[z,he]at q;cases q];exact q
  · rw[dj fun z=>by rw[z,he]at q;cases q];exact q
  · rw[dj fun z=>by rw[z,he]at q;cases q];simpa using q
  · have h0:lV X.prog X.w (aH H e (j2 e C iH false)) s.heap:=fun a o q=>by
      by_cases z:a=e
      · subst z;rw[bR]at q;cases q
        obtain⟨oe,vs,e1,e2,e3,e4,e5,_⟩:=I.eB.exc he;exact UI ⟨oe,vs,e1,e2,e3,e4,e5,fun z=>by cases z⟩
      · rw[dj z]at q;refine(I.eB a o q).iM (fun _ _ _ g=>g) (fun b g=>?_) fun b xs g=>?_
        · rw[dj fun z=>by rw[z,he]at g;cases g];exact g
        · rw[dj fun z=>by rw[z,he]at g;cases g];exact g
    exact Zk h0 bR F1 x0.iM x
end
abbrev XH:=Value->Option Addr->St->Hp->Prop
def E1(CX:vy)(X:Cx)(Ek:XH):Prop:=∀(ah:List (Addr×Obj))(σ:St)(H:Hp)(s:Shared)(e:Value)(s':Shared),Inv X ah σ H s->CX X.stack H s (fun v d H'=>Ek v d σ H') e s'->X.xe e s'
def ZS(X:Cx)(Ek:XH):Prop:=∀(ah:List (Addr×Obj))(σ:St)(H:Hp)(s:Shared)(e C:Addr)(iH:Option Addr),Inv X ah σ H s->H e=some (j2 e C iH true)->Ek (.ref e) iH σ (aH H e (j2 e C iH false))->X.xe (.ref e) s
abbrev EX0:XH:=fun _ _ _ _=>False
theorem aT{P:Program}{w:World}{X:Cx}:E1 (eW P w) X EX0:=fun _ _ _ _ _ _ _⟨_,_,_,_,_,_,_,_,_,_,_,h⟩=>h.elim
section
variable{X:Cx}{ah:List (Addr×Obj)}{σ:St}{H H':Hp}{s s':Shared}{B h':Heap}{e C:Addr}{iH:Option Addr}{fl:Option Value}
theorem zzg(F:Pu X.prog X.w B X.stack e C iH H' s'.heap)(un:Un (ug X.stack) [] H H' s.heap s'.heap)(cv:∀b o,s.heap.get? b=some o->H b=none->b∉ug X.stack->B.get? b=some o)(x:Bq B e (.ref C) iH fl h')(u:Bp s'.heap h'):Un (ug X.stack) [] H H' s.heap h'/\lV X.prog X.w H' h':=by
  obtain⟨Kh,_,x0⟩:=F.at_;refine⟨⟨fun b o q n hb _=>x.iM b o (cv b o q n hb),fun b o q n hb _=>?_,un.free,fun b o q hx=>?_,un.rA,un.mV,un.rj⟩,Zk F.eB F.he F.F1 x0.iM x⟩
  · obtain⟨sl,e1⟩:=un.slot b o q n hb (by simp);obtain⟨_,o1,g,nf⟩:=F.ff.mem (show b∈X.stack.filterMap (·.frame)from hb);rw[e1]at g;cases g
    obtain⟨RN,e2⟩:=u.sl b _ e1 nf;exact⟨RN,e2⟩
  · obtain⟨o1,e1⟩:=un.there b o q hx;exact u.th b o1 e1
theorem ZT(I:Inv X ah σ H s)(F:Pu X.prog X.w B X.stack e C iH H' s'.heap)(Kq:s'.os=s.os)(hb:AllBare s'.gens)(un:Un (ug X.stack) [] H H' s.heap s'.heap)(cv:∀b o,s.heap.get? b=some o->H b=none->b∉ug X.stack->B.get? b=some o)(x:Bq B e (.ref C) iH fl h')(u:Bp s'.heap h'):Inv X ah σ H' {s' with heap:=h'}:=by
  obtain⟨u2,ok⟩:=zzg F un cv x u;exact I.Bt (s':={s' with heap:=h'}) (ch:=[]) Kq u2 ok hb (fun b z=>absurd z (by simp))
end
section
variable{P:Program}{w:World}{K:aa}{mg:Str->Option Value}{base:Heap}{N:List Str}{dQ:Str}{sc:Scope}{f:Addr}{cd:Value}{A:Around}{outer:List Env}{s₀:Shared}{H₀:Hp}{E:XK}
theorem yK:ZS (oQ (eW P w) P w K mg base N dQ sc f cd A outer s₀ H₀ E) (fun v d _ H=>E v d H):=by
 intro ah σ H s e C iH I he hE;obtain⟨x,ff,big⟩:=I.Lg he;refine Zj (outer:=outer) (L:=s₀.heap.objs.size) I.ok.frames ff rfl x (.inl rfl) fun h' x' u=>?_;obtain⟨un,ok,F1⟩:=I.Lh he x' u;refine⟨_,e,C,iH,_,rfl,I.os,I.bare,⟨⟨_,.inr rfl,x'⟩,(u.mH ff).2.2,ok,bR,F1⟩,I.out rfl un,fun b o q n hb=>?_,hE⟩;have fr:=I.base.free b o q n (by show b∉([]:List Addr);simp);refine big b o (I.base.keep b o q n hb (by show b∉([]:List Addr);simp)) (fun z=>by rw[z,he]at fr;cases fr) fun z=>?_;rcases ao.mp (I.sF b z)with y|y
 ·exact absurd (aQ (Heap.lt_size q) (by rw[y];exact I.ok.above)) (fN _)
 ·exact hb y
theorem bL:E1 (eW P w) (oQ (eW P w) P w K mg base N dQ sc f cd A outer s₀ H₀ E) (fun v d _ H=>E v d H):=by
 intro ah σ H s e s' I q;obtain⟨B,ea,C,iH,H',rfl,Kq,hb,F,un,cv,hE⟩:=q;obtain⟨Kh,Ja,x0⟩:=F.at_;refine Zj (outer:=outer) (L:=s₀.heap.objs.size) I.ok.frames F.ff rfl x0 Ja fun h' x' u=>?_;obtain⟨u2,ok⟩:=zzg (X:=oQ (eW P w) P w K mg base N dQ sc f cd A outer s₀ H₀ E) F un cv x' u;refine⟨B,ea,C,iH,H',rfl,Kq.trans I.os,hb,⟨⟨_,.inr rfl,x'⟩,(u.mH F.ff).2.2,ok,F.he,F.F1⟩,I.out rfl u2,fun b o q n hb=>?_,hE⟩;refine cv b o (I.base.keep b o q n hb (by show b∉([]:List Addr);simp)) (I.base.free b o q n (by show b∉([]:List Addr);simp)) fun z=>?_;rcases ao.mp (I.sF b z)with y|y
 ·exact absurd (aQ (Heap.lt_size q) (by rw[y];exact I.ok.above)) (fN _)
 ·exact hb y
end
def w6(P:Program)(w:World)(X:Cx)(ah:List (Addr×Obj))(Hk:XH):Cx:=
 {X with pn:=X.pn++ah,xe:=fun e s'=>∃σ H s,Inv X ah σ H s/\eW P w X.stack H s (fun v d H'=>Hk v d σ H') e s'}
section
variable{P:Program}{w:World}{X:Cx}{ah BP:List (Addr×Obj)}{Hk:XH}{σ:St}{H:Hp}{s:Shared}
theorem vp(I:Inv (w6 P w X ah Hk) BP σ H s):Inv X ah σ H s:=by have o:=I.ok;exact⟨⟨o.mod,o.kind,o.glob,o.blt,o.above,o.inj,o.has,o.Hl,o.hd,o.frames,o.JO,o.F5,o.bs,o.Dp,o.zN,o.xS,o.mH,o.Fc⟩,I.os,I.bare,I.base,I.loc,I.cell,I.free,I.kD,fun p hp=>I.pin p (eZ _ hp),I.eB,I.len⟩
theorem LM(I:Inv X ah σ H s):Inv (w6 P w X ah Hk) [] σ H s:=by have o:=I.ok;exact⟨⟨o.mod,o.kind,o.glob,o.blt,o.above,o.inj,o.has,o.Hl,o.hd,o.frames,o.JO,o.F5,o.bs,o.Dp,o.zN,o.xS,o.mH,o.Fc⟩,I.os,I.bare,I.base,I.loc,I.cell,I.free,I.kD,fun p hp=>I.pin p (by simpa [w6]using hp),I.eB,I.len⟩
theorem Mh:E1 (eW P w) (w6 P w X ah Hk) Hk:=fun _ σ H s _ _ I q=>⟨σ,H,s,vp I,q⟩
end
def z9(X:Cx)(e:Addr):Cx:={X with A:=X.A.mark (some (.ref e)),calm:=false,xe:=fun _ _=>False}
section
variable{X:Cx}{ah:List (Addr×Obj)}{σ:St}{H:Hp}{s:Shared}{e:Addr}
theorem Hu(I:Inv X ah σ H s):Inv (z9 X e) ah σ H s:=by have o:=I.ok;exact⟨⟨o.mod,o.kind,o.glob,o.blt,o.above,o.inj,o.has,o.Hl,(fun z=>by cases z),o.frames,o.JO,o.F5,o.bs,o.Dp,o.zN,o.xS,o.mH,o.Fc⟩,I.os,I.bare,I.base,I.loc,I.cell,I.free,I.kD,I.pin,I.eB,I.len⟩
theorem xh(o:X.Ok)(I:Inv (z9 X e) ah σ H s):Inv X ah σ H s:=
 ⟨o,I.os,I.bare,I.base,I.loc,I.cell,I.free,I.kD,I.pin,I.eB,I.len⟩
end
def yj(sp:Sp)(Ek:XH)(t:TA):TE:=fun σ H Q=>t σ H fun vs H1=>sp vs H1 Q (fun v d H'=>Ek v d σ H')
section
variable{X:Cx}{CX:vy}{k:Nat}{x:Str}{ps:List Str}{sp:Sp}{Ek:XH}{p pos:Pos}{e:Expr}{es:List Expr}{t:TA}
theorem ja(D:rM X.prog X.w X.K X.mg X.base CX k x ps sp)(hr:gM k X.A)(hg:Gl X x)(hx:E1 CX X Ek)(ha:PA X (e::es) t)(AN:(x ==("__debug__":Str))=false:=by decide)(he:starEach (e::es) X.env=(false,eval e X.env)::starEach es X.env:=by rfl)(Ak:(backTo pos (starEach es X.env)).any (·.1)=false:=by rfl):
    PE X (.Call (.Name x p) (e::es) [] pos) (yj sp Ek t):=by
  obtain⟨f,fd,F,hb,hk,hm⟩:=D.ex;intro ah s σ H Q I h;refine wpAny_Call_Name_kw (JZ I hg hm ?_ AN);refine iL (h₀:=X.base) I.ok.mod.Gm hk (eJ (ha pos ah s σ H _ I h) fun us s1⟨vs,H1,I1,r,q⟩=>⟨I1.oj,?_⟩) he Ak;have hl:(us++[]).length=ps.length:=by rw[bw,<-r.length];exact F.len _ _ _ _ q
  have N7:=hb s1 us I1.oj hl;rw[bw]at N7;refine wpAny_call (codeAny_mono (F.run X.A X.stack s1 H1 ⟨us,[]⟩ us vs Q _ hr I1.IS N7 r q) fun r s' hq=>?_);cases r with
  |error e=>exact hx ah σ H1 s1 e s' I1 hq
  |ok fl=>
    cases fl with
    |ret u=>exact I1.after hq
    |next=>exact bE hq
    |brk=>exact bE hq
    |cont=>exact bE hq
end
theorem qC.okN{P:Program}{w:World}{K:aa}{mg:Str->Option Value}{base:Heap}{CX:vy}{x:Str}{st:Stmt}{N ps:List Str}{k:Nat}{sp:Sp}(F:qC K mg x st ps)(S:aB N ps (dX st))(len:∀vs H Q E,sp vs H Q E->vs.length=ps.length)(jC:∀(f:Addr)(b9:Value)(A:Around)(outer:List Env)(s:Shared)(H:Hp)(vs:List V)(Q:VK)(E:XK),gM k (A.deeper (envOfC x (dX st) s.heap.objs.size f b9))->sp vs H Q E->
      ∃t,ud (oQ CX P w K mg base N x (dX st) f b9 A outer s H E).Dv (rK st) t/\t {nx:=fun _ H'=>Q .b7 H',rt:=Q} (start N vs) H):rM P w K mg base CX (k+1) x ps sp:=by
  obtain⟨f,fd,F,b,m⟩:=F.ex;obtain⟨oc,od,kV,oR,pm,an,b9,ct,uZ,rfl,lk,tO⟩:=F.ex;exact⟨f,_,sU lk tO S len fun A outer s H vs Q E hr rH=>by obtain⟨t,h,q⟩:=jC f b9 A outer s H vs Q E hr rH;exact⟨t,h.Dv,q⟩,b,F.kp,m⟩
theorem qC.pB{P:Program}{w:World}{K:aa}{mg:Str->Option Value}{base:Heap}{x:Str}{st:Stmt}{N ps:List Str}{k:Nat}{sp:Sp}(F:qC K mg x st ps)(S:aB N ps (dX st))(len:∀vs H Q E,sp vs H Q E->vs.length=ps.length)(jC:∀(f:Addr)(b9:Value)(A:Around)(outer:List Env)(s:Shared)(H:Hp)(vs:List V)(Q:VK)(E:XK),gM k (A.deeper (envOfC x (dX st) s.heap.objs.size f b9))->sp vs H Q E->
      ∃t,ud (oQ (eW P w) P w K mg base N x (dX st) f b9 A outer s H E) (rK st) t/\t {nx:=fun _ H'=>Q .b7 H',rt:=Q} (start N vs) H):rM P w K mg base (eW P w) (k+1) x ps sp:=by
  obtain⟨f,fd,F,b,m⟩:=F.ex;obtain⟨oc,od,kV,oR,pm,an,b9,ct,uZ,rfl,lk,tO⟩:=F.ex;exact⟨f,_,sU lk tO S len fun A outer s H vs Q E hr rH=>jC f b9 A outer s H vs Q E hr rH,b,F.kp,m⟩
theorem ZU{P:Program}{w:World}{H:Hp}{h:Heap}{a:Addr}(x:lV P w H h)(e:h.get? a=none):H a=none:=by
 cases q:H a with
 |none=>rfl
 |some o=>
  obtain⟨ob,g⟩:=(x a o q).there;rw[e]at g;cases g
theorem Inv.LR {X:Cx} {ah:List (Addr×Obj)} {σ:St} {H:Hp} {s:Shared} {h':Heap} {a:Addr} {o:HO} {t':Nat} (I:Inv X ah σ H s) (k:∀ b u,s.heap.get? b=some u->h'.get? b=some u) (hn:s.heap.get? a=none) (new:fJ X.prog X.w (aH H a o) h' a o) :
    Inv X ah σ (aH H a o) { s with heap:=h',toks:=t' }:=by
  have fr:=ZU I.eB hn
  refine I.un (t':=t') ⟨fun b ob q _ _ _=>k b ob q,fun b ob q _ _ _=>⟨ob.slots,k b ob q⟩,fun b ob q n _=>?_,fun b ob q _=>⟨ob,k b ob q⟩,fun b xs q=>?_,fun b ob v q=>?_,fun b ps q=>⟨#[],?_⟩⟩ fun b ob q=>?_
  · rw [dj fun z=>by rw [z,hn] at q; cases q]; exact n
  · rw [dj (kW q fr)]; exact q
  · rw [dj (kW q fr)]; exact q
  · rw [dj (kW q fr)]; simpa using q
  · by_cases z:b=a
    · subst z
      rw [bR] at q
      cases q
      exact new
    · rw [dj z] at q
      exact (I.eB b ob q).iM (fun c u _ g=>k c u g) (fun c g=>by rw [dj (kW g fr)]; exact g) fun c xs g=>by rw [dj (kW g fr)]; exact g
def GK(C:Addr)(t:TA):TE:=fun σ H Q=>t σ H fun vs H1=>vs.length<=1000/\∀e,H1 e=none->Q (.ref e) (aH H1 e (j2 e C none true))
def yt(K:aa)(Ek:XH)(te:TE):TS:=fun _ σ H=>te σ H fun v H1=>∃e C iH,v= .ref e/\H1 e=some (j2 e C iH true)/\XC K C/\Ek (.ref e) iH σ (aH H1 e (j2 e C iH false))
section
variable{X:Cx}{C:Addr}{x:Str}{p pos:Pos}{e:Expr}{es:List Expr}{t:TA}
theorem yL(q:dN X.K C yE "ValueError.__new__"=true)(kp:br X.K (.ref C)=true)(hg:Gl X x)(hm:X.mg x=some (.ref C))(ha:PA X (e::es) t)(AN:(x ==("__debug__":Str))=false:=by decide)(he:starEach (e::es) X.env=(false,eval e X.env)::starEach es X.env:=by rfl)(Ak:(backTo pos (starEach es X.env)).any (·.1)=false:=by rfl):
    PE X (.Call (.Name x p) (e::es) [] pos) (GK C t):=by
  intro ah s σ H Q I h;refine wpAny_Call_Name_kw (JZ I hg hm ?_ AN);refine iL (h₀:=X.base) I.ok.mod.Gm kp (eJ (ha pos ah s σ H _ I h) fun us s1⟨vs,H1,I1,r,hl,q1⟩=>⟨I1.oj,?_⟩) he Ak;refine TN I1.oj q (by rw[oA,<-r.length];exact uK hl) fun h' ea m=>?_;obtain⟨tt,g1,g2,g3⟩:=m.there;exact⟨.ref ea,_,I1.LR (t':=s1.toks) m.keeps m.new (UI ⟨_,_,g1,rfl,rfl,rfl,aQ (by decide) (aq 6),fun _=>rfl⟩),rfl,q1 ea (ZU I1.eB m.new)⟩
theorem yJ{Ek:XH}{te:TE}(K:aa)(hK:X.K=K)(hc:X.calm=true)(hx:ZS X Ek)(he:PE X e te):PS X (.Raise (some e) none pos) (yt K Ek te):=by
 subst hK;intro ah s σ H D I h;rw[arm_exec_Raise];refine wpAny_bind (wpAny_standAt ?_);show wpAny _ _ (raiseStmt X.env (some (do let v <-eval e X.env;standAt pos;pure v)) none) _ _ _;refine TQ (K:=X.K) (I.ok.hd hc) (wpAny_bind (eJ (he ah s σ H _ I h) fun u s1⟨v,H1,I1,r,ea,C,iH,hv,hh,c,q⟩=>wpAny_bind (wpAny_standAt (wpAny_pure ?_))));subst hv;cases(show u=Value.ref ea from r)
 obtain⟨oe,vs,e1,e2,e3,e4,e5,e6⟩:=I1.eB.exc hh;exact⟨C,ea,oe,vs,c,rfl,I1.oj,e1,e2,e4,e6 rfl,hx ah σ H1 s1 ea C iH I1 hh q⟩
end
section
variable{prog:Program}{w:World}{A:Around}{E:Value->Shared->Prop}{s:Shared}{K:aa}{e C C':Addr}
theorem TR{oe:Obj}{b:Bool}{Q:Bool->Shared->Prop}(X:K.In s.heap)(c:XC K C')(he:s.heap.get? e=some oe)(hc:oe.cls= .ref C)(hs:xN K (.ref C) (.ref C')=some b)(h:Q b s):wpAny (model prog w) A (excMatches (.ref e) (.ref C')) Q E s:=by
 obtain⟨nm,qn,N,bs,bm,vR,sn,sub,ab,Dq,dd,k0,k1,k2,k3,k5,lk,tl⟩:=c.ex;obtain⟨hp,g,d,t,os⟩:=s;have cl:=X _ _ lk;have Qt:(Value.ref C'::bm).contains (.type "BaseException")=true:=by rw[E3,(qA X tl).hasType (show yE.contains (.type "BaseException")=true from rfl),Bool.or_true]
 have LS:=PySem.W.looks_subIn (M:=model prog w) X hs;have f:=tc_notTuple;unfold excMatches
 repeat (first|(with_reducible refine wpAny_loadPart_at he ?_;rw[hc]) |with_reducible refine wpAny_loadPart_at cl ?_|(with_reducible refine wpAny_isSubtype_exc cl ?_;rw[Qt]) |(with_reducible refine LS.at ?_) |wp_step)
 cases b with
 |true=>wp_walk;exact h
 |false=>wp_walk;exact h
end
def D6(K:aa)(C':Addr)(th:Addr->TS)(D:Ends):XH:=fun v d σ H=>∃e C,v= .ref e/\H e=some (j2 e C d false)/\xN K (.ref C) (.ref C')=some true/\th e D σ H
def GI(K:aa)(C':Addr)(tb:XH->TS)(th:TS):TS:=fun D σ H=>tb (D6 K C' (fun _=>th) D) D σ H
def Ba(K:aa)(C':Addr)(i:Nat)(tb:XH->TS)(th:TS):TS:=fun D σ H=>
 tb (D6 K C' (fun e D σ H=>th {nx:=fun σ H=>D.nx (σ.set i none) H,rt:=D.rt,bk:=fun σ H=>D.bk (σ.set i none) H,ct:=fun σ H=>D.ct (σ.set i none) H} (σ.set i (some (.ref e))) H) D) D σ H
section
variable{P:Program}{w:World}{X:Cx}{C':Addr}{x:Str}{np LB pos:Pos}{body ER:List Stmt}{b0:Stmt}{tb:XH->TS}{th:TS}
theorem SP.vp{ah:List (Addr×Obj)}{Hk:XH}{D:Ends}{f:Flow}{s':Shared}(h:SP (w6 P w X ah Hk) [] D f s'):SP X ah D f s':=by
 cases f with
 |next=>obtain⟨σ,H,I,q⟩:=h;exact⟨σ,H,L2.vp I,q⟩
 |brk=>obtain⟨σ,H,I,q⟩:=h;exact⟨σ,H,L2.vp I,q⟩
 |cont=>obtain⟨σ,H,I,q⟩:=h;exact⟨σ,H,L2.vp I,q⟩
 |ret u=>obtain⟨v,σ,H,I,r,q⟩:=h;exact⟨v,σ,H,L2.vp I,r,q⟩
theorem SP.xh{ah:List (Addr×Obj)}{e:Addr}{D:Ends}{f:Flow}{s':Shared}(o:X.Ok)(h:SP (z9 X e) ah D f s'):SP X ah D f s':=by
 cases f with
 |next=>obtain⟨σ,H,I,q⟩:=h;exact⟨σ,H,L2.xh o I,q⟩
 |brk=>obtain⟨σ,H,I,q⟩:=h;exact⟨σ,H,L2.xh o I,q⟩
 |cont=>obtain⟨σ,H,I,q⟩:=h;exact⟨σ,H,L2.xh o I,q⟩
 |ret u=>obtain⟨v,σ,H,I,r,q⟩:=h;exact⟨v,σ,H,L2.xh o I,r,q⟩
theorem TU(hP:X.prog=P)(hw:X.w=w)(K:aa)(hK:X.K=K)(Dt:X.stack=X.env::X.outer)(hf:X.env.frame=some X.env.locals)(c:XC K C')(hg:Gl X x)(hm:X.mg x=some (.ref C'))(hb:∀ah Hk,ud (w6 P w X ah Hk) body (tb Hk))(hs:∀e,ud (z9 X e) (b0::ER) th)(AN:(x ==("__debug__":Str))=false:=by decide):
    PS X (.Try body [.ExceptHandler (some (.Name x np)) none (b0::ER) LB] [] [] pos) (GI K C' tb th):=by
  subst hP hw hK;intro ah s σ H D I h;refine wpAny_Try_except (wpAny_mono (hb ah _ [] s σ H D (LM I) h) (fun f s1 z=>?_) fun ev s1 z=>?_)
  · have z:=SP.vp z;cases f with
    |next=>obtain⟨σ1,H1,I1,q⟩:=z;exact wpAny_execs_nil ⟨σ1,H1,I1,q⟩
    |brk=>exact z
    |cont=>exact z
    |ret u=>exact z
  · obtain⟨σ1,H1,s2,J,B,ea,C,iH,H',rfl,Kq,Vz,F,un,cv,e2,C2,hv,he2,Q0,q⟩:=z;cases hv
    have eC:C2=C/\True:=by
      obtain⟨oe,vs,g1,g2,_⟩:=F.eB.exc he2;obtain⟨oe',vs',Vl,Vm,_⟩:=F.eB.exc F.he;rw[g1]at Vl;cases Vl
      rw[g2]at Vm;exact⟨Value.ref.inj Vm,trivial⟩
    obtain⟨rfl,_⟩:=eC;obtain⟨Kh,Ja,x0⟩:=F.at_;refine ZR (outer:=X.outer) (by rw[<-Dt];exact J.ok.frames) (by rw[<-Dt];exact F.ff) hf x0 Ja fun h1 x1 u1=>?_;refine UH (s:={s1 with heap:=h1}) x1 fun h2 x2 u2=>?_;have J2:=ZT J F Kq Vz un cv x2 (u1.trans u2);refine wpAny_handleBy_cons (codeAny_handlers_test (JZ (X:=z9 X ea) (Hu J2) hg hm ?_ AN)) (by intro z;cases z);obtain⟨oe,vs,g1,g2,_⟩:=x2.ex;refine TR J2.oj c g1 g2 Q0 (codeAny_handlers_suite ?_);refine UH (s:={s1 with heap:=h2}) x2 fun h3 x3 u3=>?_;have J3:=ZT J F Kq Vz un cv x3 ((u1.trans u2).trans u3);exact wpAny_mono (hs ea ah _ σ1 H' D (Hu J3) q) (fun f s4 z=>SP.xh J3.ok z) fun _ _ z=>bE z
end
section
variable{X:Cx}
end
section
variable{K:aa}{C C':Addr}
theorem zxy(q:dN K C yE "ValueError.__new__"=true):∃nm q N bs bm vR sn sub ab Dq dd k0 k1 k2 k3 k5,K.lookup C=some (excClassObj nm q C N bs bm vR sn sub ab Dq dd k0 k1 k2 k3 k5 "ValueError.__new__")/\vP K yE bm=true:=by obtain⟨nm,q,N,bs,bm,vR,sn,sub,ab,Dq,dd,k0,k1,k2,k3,k5,l,t,_⟩:=XC.plain q;exact⟨nm,q,N,bs,bm,vR,sn,sub,ab,Dq,dd,k0,k1,k2,k3,k5,l,t⟩
end
section
variable{α:Type}{enc:α->List V}{H H':Hp}{ps:List Addr}{qs:List α}
end
abbrev F2:=Int×Int
def f2(q:F2):List V:=[.int q.1,.int q.2]
end L2
namespace Sw
open L2
def Fi(q:F2):F2:=(rN q.1 q.2,rD q.1 q.2)
theorem Jr{q:F2}(h:q.2≠0):Fr (Fi q).1 (Fi q).2:=TL h
theorem CT{q:F2}(h:q.2≠0):(Fi q).1*q.2=(Fi q).2*q.1:=zvl h
end Sw
namespace L2
open PySem PySem.Spec PyProof.Rows
theorem KW{H:Hp}{l:Addr}{xs:List V}{y:V}{Q:VK}(h:H l=some (.lst xs))(hz:xs.length<1000)(q:Q .b7 (aH H l (.lst (xs++[y])))):ZN (.ref l) [y] H Q:=⟨l,xs,y,rfl,rfl,h,eX hz,q⟩
theorem GY{K:aa}{H:Hp}{l:Addr}{xs:List V}(h:H l=some (.lst xs)):OM K "list" (.ref l) H:=.inl ⟨rfl,_,.of h⟩
def A7(sp:Sp)(t:TA):TE:=fun σ H Q=>t σ H fun vs H1=>sp vs H1 Q E0
section
variable{P:Program}{w:World}{X:Cx}{k:Nat}{x:Str}{ps:List Str}{sp:Sp}{p pos:Pos}{e:Expr}{es:List Expr}{t:TA}
end
section
variable{X:Cx}{o value:Expr}{f:Str}{pos tY:Pos}{ta tv:TE}
end
def EW(C:Addr)(sp:Sp)(t:TA):TE:=fun σ H Q=>t σ H fun vs H1=>vs.length<=1000/\∀e,H1 e=none->sp (.ref e::vs) (aH H1 e (j2 e C none true)) (fun v H2=>v= .b7/\Q (.ref e) H2) E0
section
variable{X:Cx}
end
end L2
namespace Sw
open L2
def jj(i:Nat)(b:Int)(q:Q4):Prop:=i<60/\0<=q.1/\q.1<=1000000000000/\0<=q.2.1/\q.2.1<=11/\1<=q.2.2.1/\q.2.2.1<=1000000/\1<=q.2.2.2/\q.2.2.2<=1000000/\b<=q.1
instance (i:Nat)(b:Int)(q:Q4):Decidable (jj i b q):=by unfold jj;infer_instance
end Sw
namespace L2
open PySem PySem.Spec PyProof.Rows
def lA(K:aa)(fd:FuncData)(ps:List Str)(cu:List V):Prop:=∃ds,b8 cu ds/\Binds K fd ps ds
theorem lA.nil{K:aa}{fd:FuncData}{ps:List Str}(h:Binds K fd ps []):lA K fd ps []:=⟨[],.nil,h⟩
structure FD(K:aa)(x dQ:Str)(st:Stmt)(f:Addr)(fd:FuncData):Prop where
 ex:∃(oc:Value)(od:Option Addr)(dV kV oR pm:Value)(an:Option Addr)(b9 ct:Value)(uZ:Array (Option Value)),
  fd=bK x dQ (xn st) (rK st) (dX st) dV kV oR pm an b9 ct/\K.lookup f=some ⟨oc,od,.func fd,uZ⟩/\dM K b9 dQ=true
theorem NF{K:aa}{x dQ:Str}{st:Stmt}{f:Addr}{oc:Value}{od an:Option Addr}{uZ:Array (Option Value)}{dV kV oR pm b9 ct:Value}(l:K.lookup f=some ⟨oc,od,.func (bK x dQ (xn st) (rK st) (dX st) dV kV oR pm an b9 ct),uZ⟩)(c:dM K b9 dQ=true):FD K x dQ st f (bK x dQ (xn st) (rK st) (dX st) dV kV oR pm an b9 ct):=⟨⟨oc,od,dV,kV,oR,pm,an,b9,ct,uZ,rfl,l,c⟩⟩
theorem Yi{K:aa}{fd:FuncData}{ps:List Str}{ds:List Value}{T:Addr}{oc:Value}{od:Option Addr}{n:Nat}{uZ:Array (Option Value)}{items:Array Value}(hd:fd.defaults= .ref T)(lk:K.lookup T=some ⟨oc,od,.seq items n,uZ⟩)(h:∀us:List Value,(us++ds).length=ps.length->∃k:Option (Array Value)->Sem (List (Str×Value)),bindArgs fd ⟨us,[]⟩=seqItems? fd.defaults >>=k/\k (some items)=pure (ps.zip (us++ds))):Binds K fd ps ds:=fun s us kx hl=>by
  obtain⟨k,h1,h2⟩:=h us hl;exact BindsTo.of_defaults hd (kx _ _ lk) rfl h1 h2
structure bN(P:Program)(w:World)(K:aa)(mg:Str->Option Value)(base:Heap)(CX:vy)(k:Nat)(C:Addr)(m:Str)(ps:List Str)(pP:List (List V))(sp:Sp):Prop where
 ex:∃(f:Addr)(fd:FuncData),rO P w K mg base CX k f fd ps sp/\IF K C m f/\∀cu∈pP,lA K fd ps cu
structure FW(P:Program)(w:World)(K:aa)(mg:Str->Option Value)(base:Heap)(CX:vy)(k:Nat)(C:Addr)(ps:List Str)(pP:List (List V))(sp:Sp):Prop where
 ex:∃(f:Addr)(fd:FuncData),rO P w K mg base CX k f fd ps sp/\Mk K C f/\∀cu∈pP,lA K fd ps cu
structure dY(K:aa)(C:Addr)(m dQ:Str)(st:Stmt)(ps:List Str)(pP:List (List V)):Prop where
 ex:∃(f:Addr)(fd:FuncData),FD K m dQ st f fd/\IF K C m f/\∀cu∈pP,lA K fd ps cu
structure tM(K:aa)(C:Addr)(dQ:Str)(st:Stmt)(ps:List Str)(pP:List (List V)):Prop where
 ex:∃(f:Addr)(fd:FuncData),FD K "__init__" dQ st f fd/\Mk K C f/\∀cu∈pP,lA K fd ps cu
section
variable{P:Program}{w:World}{K:aa}{mg:Str->Option Value}{base:Heap}{CX:vy}{C:Addr}{m dQ:Str}{st:Stmt}{N ps:List Str}{pP:List (List V)}{k:Nat}{sp:Sp}
theorem dY.okN(F:dY K C m dQ st ps pP)(S:aB N ps (dX st))(len:∀vs H Q E,sp vs H Q E->vs.length=ps.length)(jC:∀(f:Addr)(b9:Value)(A:Around)(outer:List Env)(s:Shared)(H:Hp)(vs:List V)(Q:VK)(E:XK),gM k (A.deeper (envOfC dQ (dX st) s.heap.objs.size f b9))->sp vs H Q E->
      ∃t,ud (oQ CX P w K mg base N dQ (dX st) f b9 A outer s H E).Dv (rK st) t/\t {nx:=fun _ H'=>Q .b7 H',rt:=Q} (start N vs) H):bN P w K mg base CX (k+1) C m ps pP sp:=by
  obtain⟨f,fd,F,me,b⟩:=F.ex;obtain⟨oc,od,dV,kV,oR,pm,an,b9,ct,uZ,rfl,lk,tO⟩:=F.ex;exact⟨f,_,sU lk tO S len fun A outer s H vs Q E hr rH=>by obtain⟨t,h,q⟩:=jC f b9 A outer s H vs Q E hr rH;exact⟨t,h.Dv,q⟩,me,b⟩
theorem dY.pB(F:dY K C m dQ st ps pP)(S:aB N ps (dX st))(len:∀vs H Q E,sp vs H Q E->vs.length=ps.length)(jC:∀(f:Addr)(b9:Value)(A:Around)(outer:List Env)(s:Shared)(H:Hp)(vs:List V)(Q:VK)(E:XK),gM k (A.deeper (envOfC dQ (dX st) s.heap.objs.size f b9))->sp vs H Q E->
      ∃t,ud (oQ (eW P w) P w K mg base N dQ (dX st) f b9 A outer s H E) (rK st) t/\t {nx:=fun _ H'=>Q .b7 H',rt:=Q} (start N vs) H):bN P w K mg base (eW P w) (k+1) C m ps pP sp:=by
  obtain⟨f,fd,F,me,b⟩:=F.ex;obtain⟨oc,od,dV,kV,oR,pm,an,b9,ct,uZ,rfl,lk,tO⟩:=F.ex;exact⟨f,_,sU lk tO S len fun A outer s H vs Q E hr rH=>jC f b9 A outer s H vs Q E hr rH,me,b⟩
theorem tM.okN(F:tM K C dQ st ps pP)(S:aB N ps (dX st))(len:∀vs H Q E,sp vs H Q E->vs.length=ps.length)(jC:∀(f:Addr)(b9:Value)(A:Around)(outer:List Env)(s:Shared)(H:Hp)(vs:List V)(Q:VK)(E:XK),gM k (A.deeper (envOfC dQ (dX st) s.heap.objs.size f b9))->sp vs H Q E->
      ∃t,ud (oQ CX P w K mg base N dQ (dX st) f b9 A outer s H E).Dv (rK st) t/\t {nx:=fun _ H'=>Q .b7 H',rt:=Q} (start N vs) H):FW P w K mg base CX (k+1) C ps pP sp:=by
  obtain⟨f,fd,F,me,b⟩:=F.ex;obtain⟨oc,od,dV,kV,oR,pm,an,b9,ct,uZ,rfl,lk,tO⟩:=F.ex;exact⟨f,_,sU lk tO S len fun A outer s H vs Q E hr rH=>by obtain⟨t,h,q⟩:=jC f b9 A outer s H vs Q E hr rH;exact⟨t,h.Dv,q⟩,me,b⟩
theorem tM.pB(F:tM K C dQ st ps pP)(S:aB N ps (dX st))(len:∀vs H Q E,sp vs H Q E->vs.length=ps.length)(jC:∀(f:Addr)(b9:Value)(A:Around)(outer:List Env)(s:Shared)(H:Hp)(vs:List V)(Q:VK)(E:XK),gM k (A.deeper (envOfC dQ (dX st) s.heap.objs.size f b9))->sp vs H Q E->
      ∃t,ud (oQ (eW P w) P w K mg base N dQ (dX st) f b9 A outer s H E) (rK st) t/\t {nx:=fun _ H'=>Q .b7 H',rt:=Q} (start N vs) H):FW P w K mg base (eW P w) (k+1) C ps pP sp:=by
  obtain⟨f,fd,F,me,b⟩:=F.ex;obtain⟨oc,od,dV,kV,oR,pm,an,b9,ct,uZ,rfl,lk,tO⟩:=F.ex;exact⟨f,_,sU lk tO S len fun A outer s H vs Q E hr rH=>jC f b9 A outer s H vs Q E hr rH,me,b⟩
end
def Pn(C:Addr)(m:Str)(sp:Sp)(cu:List V)(Ek:XH)(ta:TE)(t:TA):TE:=fun σ H Q=>ta σ H fun x H1=>∃a dx fs,x= .ref a/\H1 a=some (.ins C dx fs)/\fs.lookup m=none/\
 t σ H1 fun vs H2=>sp (x::(vs++cu)) H2 Q (fun v d H'=>Ek v d σ H')
def vo(C:Addr)(sp:Sp)(cu:List V)(Ek:XH)(t:TA):TE:=fun σ H Q=>t σ H fun vs H1=>∀x dx,H1 x=none->H1 dx=none->dx≠x->
 sp (.ref x::(vs++cu)) (aH (aH H1 dx (.own x)) x (.ins C dx [])) (fun v H2=>v= .b7/\Q (.ref x) H2) (fun v d H'=>Ek v d σ H')
section
variable{X:Cx}{CX:vy}{k:Nat}{f C:Addr}{fd:FuncData}{ps:List Str}{sp:Sp}{cu:List V}{pP:List (List V)}{Ek:XH}{x m:Str}{p pos gC:Pos}{e o:Expr}{es:List Expr}{ta:TE}{t:TA}
theorem UJ{ah:List (Addr×Obj)}{σ:St}{H:Hp}{s:Shared}{Q:VK}{us:List Value}{vs:List V}(F:rO X.prog X.w X.K X.mg X.base CX k f fd ps sp)(hr:gM k X.A)(hb:lA X.K fd ps cu)(hx:E1 CX X Ek)(I:Inv X ah σ H s)(r:b8 vs us)(h:sp (vs++cu) H Q (fun v d H'=>Ek v d σ H')):wpAny (model X.prog X.w) X.A (call (.ref f) us) (EP X ah σ Q) X.xe s:=by
  obtain⟨ds,hd,hb⟩:=hb;have r2:b8 (vs++cu) (us++ds):=r.append hd;have hl:(us++ds).length=ps.length:=by rw[<-r2.length];exact F.len _ _ _ _ h
  refine wpAny_call (codeAny_mono (F.run X.A X.stack s H ⟨us,[]⟩ (us++ds) (vs++cu) Q _ hr I.IS (hb s us I.oj hl) r2 h) fun r s' hq=>?_);cases r with
  |error e=>exact hx ah σ H s e s' I hq
  |ok fl=>
    cases fl with
    |ret u=>exact I.after hq
    |next=>exact bE hq
    |brk=>exact bE hq
    |cont=>exact bE hq
theorem gh{pl:Sem Bool}(D:bN X.prog X.w X.K X.mg X.base CX k C m ps pP sp)(Fd:cu∈pP)(c:xw X.K C)(hr:gM k X.A)(hx:E1 CX X Ek)(he:PE X o ta)(ha:PA X (e::es) t)(Dt:starEach (e::es) X.env=(false,eval e X.env)::starEach es X.env:=by rfl)(Ak:(backTo pos (starEach es X.env)).any (·.1)=false:=by rfl)(ht:eval (.Call (.Attribute o m gC) (e::es) [] pos) X.env=(do
      let ov <-eval o X.env
      standAt gC.atName
      let(f,first) <-holding [ov] (getMethod ov m pl)
      callWith pos f first (backTo pos (starEach (e::es) X.env)) (backToKw pos (keywordEach [] X.env))):=by rfl):
    PE X (.Call (.Attribute o m gC) (e::es) [] pos) (Pn C m sp cu Ek ta t):=by
  obtain⟨f,fd,F,hm,hb⟩:=D.ex;intro ah s σ H Q I h;refine nE (pl:=pl) (eJ (he ah s σ H _ I h) fun u s1⟨x,H1,I1,rx,a,dx,fs,ex,ea,l,q⟩=>?_) ht;subst ex;obtain rfl:u=Value.ref a:=rx;refine Yg I1 ea c hm l ?_;refine iL (first:=[.ref a]) (h₀:=X.base) I.ok.mod.Gm hm.kp (eJ (ha pos ah s1 σ H1 _ I1 q) fun us s2⟨vs,H2,I2,r,q2⟩=>⟨I2.oj,?_⟩) Dt Ak;exact UJ (us:=.ref a::us) (vs:=.ref a::vs) F hr (hb _ Fd) hx I2 (.cons rfl r) q2
theorem xm{pl:Sem Bool}(D:bN X.prog X.w X.K X.mg X.base CX k C m ps pP sp)(Fd:cu∈pP)(c:xw X.K C)(hr:gM k X.A)(hx:E1 CX X Ek)(he:PE X o ta)(ht:eval (.Call (.Attribute o m gC) [] [] pos) X.env=(do
      let ov <-eval o X.env
      standAt gC.atName
      let(f,first) <-holding [ov] (getMethod ov m pl)
      callWith pos f first (backTo pos (starEach [] X.env)) (backToKw pos (keywordEach [] X.env))):=by rfl):
    PE X (.Call (.Attribute o m gC) [] [] pos) (Pn C m sp cu Ek ta Dc):=by
  obtain⟨f,fd,F,hm,hb⟩:=D.ex;intro ah s σ H Q I h;refine nE (pl:=pl) (eJ (he ah s σ H _ I h) fun u s1⟨x,H1,I1,rx,a,dx,fs,ex,ea,l,q⟩=>?_) ht;subst ex;obtain rfl:u=Value.ref a:=rx;refine Yg I1 ea c hm l ?_;exact Bm (first:=[.ref a]) I1.oj hm.kp (UJ (us:=[.ref a]) (vs:=[.ref a]) F hr (hb _ Fd) hx I1 (.cons rfl .nil) q)
theorem YK{ah:List (Addr×Obj)}{σ:St}{H:Hp}{s:Shared}{Q:VK}{us:List Value}{vs:List V}(M:Mk X.K C f)(F:rO X.prog X.w X.K X.mg X.base CX k f fd ps sp)(hr:gM (k+1) X.A)(hb:lA X.K fd ps cu)(hx:E1 CX X Ek)(I:Inv X ah σ H s)(r:b8 vs us)(h:∀x dx,H x=none->H dx=none->dx≠x->sp (.ref x::(vs++cu)) (aH (aH H dx (.own x)) x (.ins C dx [])) (fun v H2=>v= .b7/\Q (.ref x) H2) (fun v d H'=>Ek v d σ H')):
    wpAny (model X.prog X.w) X.A (call (.ref C) us) (EP X ah σ Q) X.xe s:=by
  obtain⟨ds,hd,hb⟩:=hb;have hq:=h (s.heap.objs.size+1) s.heap.objs.size (I.eB.fresh (iq _)) (I.eB.fresh (aq _)) (bq (vM _));have I2:=Inv.made (C:=C) I;have r2:b8 (V.ref (s.heap.objs.size+1)::(vs++cu)) (Value.ref (s.heap.objs.size+1)::(us++ds)):=.cons rfl (r.append hd);have hl:(Value.ref (s.heap.objs.size+1)::us++ds).length=ps.length:=by have e:=r2.length;rw[F.len _ _ _ _ hq]at e;exact e.symm
  refine wpAny_call (zxs (f:=f) I.oj M.makes M.init (beq_iff_eq.mp M.fn) (codeAny_mono (F.run _ X.stack _ _ ⟨Value.ref (s.heap.objs.size+1)::us,[]⟩ (Value.ref (s.heap.objs.size+1)::(us++ds)) _ _ _ (hr.make C us [])
    (I2.IS.make C us []) (hb _ (Value.ref (s.heap.objs.size+1)::us) I2.oj hl) r2 hq) fun r s' LD=>?_));cases r with
  |error e=>exact hx ah σ _ _ e s' I2 LD
  |ok fl=>
    cases fl with
    |ret u=>
      obtain⟨v,H',I3,rv,ev,q3⟩:=I2.after LD;subst ev;exact⟨rv,⟨V.ref (s.heap.objs.size+1),H',I3,rfl,q3⟩⟩
    |next=>exact bE LD
    |brk=>exact bE LD
    |cont=>exact bE LD
theorem Nt(D:FW X.prog X.w X.K X.mg X.base CX k C ps pP sp)(Fd:cu∈pP)(hr:gM (k+1) X.A)(hx:E1 CX X Ek)(hg:Gl X x)(hm:X.mg x=some (.ref C))(ha:PA X (e::es) t)(AN:(x ==("__debug__":Str))=false:=by decide)(he:starEach (e::es) X.env=(false,eval e X.env)::starEach es X.env:=by rfl)(Ak:(backTo pos (starEach es X.env)).any (·.1)=false:=by rfl):
    PE X (.Call (.Name x p) (e::es) [] pos) (vo C sp cu Ek t):=by
  obtain⟨f,fd,F,M,hb⟩:=D.ex;intro ah s σ H Q I h;refine wpAny_Call_Name_kw (JZ I hg hm ?_ AN);refine iL (h₀:=X.base) I.ok.mod.Gm M.kp (eJ (ha pos ah s σ H _ I h) fun us s1⟨vs,H1,I1,r,q⟩=>⟨I1.oj,?_⟩) he Ak;exact YK M F hr (hb _ Fd) hx I1 r q
theorem YL(D:FW X.prog X.w X.K X.mg X.base CX k C ps pP sp)(Fd:cu∈pP)(hr:gM (k+1) X.A)(hx:E1 CX X Ek)(hg:Gl X x)(hm:X.mg x=some (.ref C))(AN:(x ==("__debug__":Str))=false:=by decide):PE X (.Call (.Name x p) [] [] pos) (vo C sp cu Ek Dc):=by
  obtain⟨f,fd,F,M,hb⟩:=D.ex;intro ah s σ H Q I h;refine wpAny_Call_Name_kw (JZ I hg hm ?_ AN);exact Bm I.oj M.kp (YK (us:=[]) M F hr (hb _ Fd) hx I .nil h)
end
section
variable{X:Cx}
end
def PF(lo c:Int)(n:Nat):It:=⟨fun i _=>i<n,fun i H x H'=>H'=H/\x= .int (lo+i*c),fun i _=>n<=i⟩
structure K9(i j c:Int)(n:Nat):Prop where
 nz:c≠0
 np:Builtin.divisionGoesByPylong (j-i) c=false
 sm:Builtin.Range.small i j c=true
 eq:(n:Int)=Builtin.Range.rangeSize i j c
def Ec(ta:TA):TI:=fun σ H R=>ta σ H fun vs H1=>∃i j c n,vs=[.int i,.int j,.int c]/\K9 i j c n/\R (PF i c n) H1
section
variable{X:Cx}{tg:Expr}
end
theorem DB{wi:TI}{g:TG}{tb:TS}{D:Ends}{σ:St}{H:Hp}(h:∀Z:It->Hp->Prop,(∀J H1,(∃W:Nat->Nat->St->Hp->Prop,(∃m,W 0 m σ H1)/\∀i m σ H,W i m σ H->
 (J.stop i H/\D.nx σ H)\/(J.go i H/\∃N:St->Hp->Prop,(∀σ' H',N σ' H'->∃m',m' < m/\W (i+1) m' σ' H')/\∀x H',J.Ih i H x H'->g x σ H' fun σ2 H2=>tb {D with nx:=N,ct:=N,bk:=D.nx} σ2 H2))->Z J H1)->wi σ H Z):M5 wi g tb D σ H:=h _ fun _ _ x=>x
section
variable{X:Cx}
end
end L2
namespace Sw
theorem cy{d:Int}(h:d≠0):(d:Rat)≠0:=by intro z;exact h (xO.mp (by rw[z];rfl))
theorem jq{d:Int}(h:0<d):(0:Rat)<(d:Rat):=by have:((0:Int):Rat)<(d:Rat):=jB.mpr h;exact this
theorem Et(q:Rat):(q.num:Rat) / ((q.den:Int):Rat)=q:=by rw[<-Rat.divInt_eq_div];exact Rat.num_divInt_den q
theorem iI(q:Rat):0<(q.den:Int):=by have:=q.den_nz;omega
theorem eT(q:Rat):(q.den:Int)≠0:=by have:=q.den_nz;omega
theorem pC(q:Rat):(q.num:Rat)=q*((q.den:Int):Rat):=by have h:=Et q;have d:=cy (eT q);grind
theorem BS(q:Rat):dv q.num q.den=1:=by unfold dv;have:=q.reduced;unfold DK at this;show((Nat.gcd q.num.natAbs (q.den:Int).natAbs:Nat):Int)=1;rw[tD,this];rfl
theorem Rw(q:Rat):Fr q.num q.den:=⟨iI q,BS q⟩
theorem Qi{n d:Int}(f:Fr n d):((n:Rat) / (d:Rat)).num=n/\((((n:Rat) / (d:Rat)).den:Nat):Int)=d:=by
 have hd:d≠0:=by have:=f.pos;omega
 refine Fr.uniq (Rw _) f ?_;have h:=pC ((n:Rat) / (d:Rat));generalize hq:(n:Rat) / (d:Rat)=q at h⊢;have e:(n:Rat)=q*d:=by have:=cy hd;grind
 have:((q.num*d:Int):Rat)=((n*(q.den:Int):Int):Rat):=by rw[aG,aG];grind
 exact xO.mp this
theorem BR{q:Rat}{n d:Int}(hd:d≠0)(h:q=(n:Rat) / (d:Rat)):q.num*d=(q.den:Int)*n:=by
 have h1:=cy hd;have:((q.num*d:Int):Rat)=(((q.den:Int)*n:Int):Rat):=by rw[aG,aG,pC];grind
 exact xO.mp this
theorem Mp{a b:Rat}:a.num*(b.den:Int)<b.num*(a.den:Int)↔a<b:=(Rat.lt_iff a b).symm
structure eY(z:Nat)(q:Rat):Prop where
 n:Sz z q.num
 d:Sz z (q.den:Int)
theorem eY.mono{m n:Nat}{q:Rat}(h:eY m q)(k:m<=n):eY n q:=⟨h.n.mono k,h.d.mono k⟩
theorem zxz{n d x:Int}(h:dv n d=1)(q:n∣d*x):n∣x:=Pc (by rw[Sd];exact h) q
theorem eY.of {z:Nat} {q:Rat} {n d:Int} (hd:d≠0) (h:q=(n:Rat) / (d:Rat)) (s1:Sz z n) (s2:Sz z d):eY z q:=by
 have c:=BR hd h
 refine ⟨?_,?_⟩
 ·by_cases hn:n = 0
  ·subst hn
   rw [Int.mul_zero] at c
   have:q.num = 0:=by
    rcases Int.mul_eq_zero.mp c with z | z
    ·exact z
    ·exact absurd z hd
   rw [this]; exact Sz.zero z
  ·exact s1.dvd (zxz (BS q) ⟨d,c.symm⟩) hn
 ·exact s2.dvd (Pc (BS q) ⟨n,c⟩) hd
theorem eY.int{z:Nat}{n:Int}(h:Sz (z+1) n):eY (z+1) (n:Rat):=⟨by rw[Rat.num_intCast];exact h,by rw[Rat.den_intCast];exact Sz.one z⟩
theorem Hg(a b:Rat):((a.num*(b.den:Int)+b.num*(a.den:Int):Int):Rat) / (((a.den:Int)*(b.den:Int):Int):Rat)=a+b:=by rw[gg,aG,aG,aG,pC a,pC b];have h1:=cy (eT a);have h2:=cy (eT b);grind
theorem Hv(a b:Rat):((a.num*b.num:Int):Rat) / (((a.den:Int)*(b.den:Int):Int):Rat)=a*b:=by rw[aG,aG,pC a,pC b];have h1:=cy (eT a);have h2:=cy (eT b);grind
theorem eY.add{m n:Nat}{a b:Rat}(h:eY m a)(k:eY n b):eY (m+n+1) (a+b):=by refine .of (pq (eT a) (eT b)) (Hg a b).symm ?_ ((h.d.mul k.d).mono (by omega));exact(h.n.mul k.d).add ((k.n.mul h.d).mono (by omega))
theorem eY.mul{m n:Nat}{a b:Rat}(h:eY m a)(k:eY n b):eY (m+n) (a*b):=
 .of (pq (eT a) (eT b)) (Hv a b).symm (h.n.mul k.n) (h.d.mul k.d)
end Sw
namespace L2
def fq(q:Rat):List V:=[.int q.num,.int (q.den:Int)]
theorem TV{t b:Int}(hb:b≠0):f2 (Sw.Fi (t,b))=fq ((t:Rat) / (b:Rat)):=by
 have f:=Sw.Jr (q:=(t,b)) hb;have c:=Sw.CT (q:=(t,b)) hb;have e:((Sw.Fi (t,b)).1:Rat) / ((Sw.Fi (t,b)).2:Rat)=(t:Rat) / (b:Rat):=by
  have h1:=Sw.cy hb;have h2:(((Sw.Fi (t,b)).2:Int):Rat)≠0:=Sw.cy (by have:=f.pos;omega);have c':(((Sw.Fi (t,b)).1*b:Int):Rat)=(((Sw.Fi (t,b)).2*t:Int):Rat):=by rw[c]
  rw[aG,aG]at c';grind
 have g:=Sw.Qi f;rw[e]at g;unfold f2 fq;rw[g.1,g.2]
end L2
namespace Sw
def lvl(d:Int)(r:Rat)(MB:Int)(left:Rat)(at_:Int):Rat:=min (left+r*((at_ - MB:Int):Rat)) (d:Rat)
end Sw
namespace L2
open PySem PySem.Spec PyProof.Rows
def vv(p:Addr)(H H':Hp):Prop:=∀b o,b≠p->H b=some o->H' b=some o
theorem bI.but{p:Addr}{H H':Hp}(h:bI H H'):vv p H H':=fun b o _ e=>h b o e
theorem vv.trans{p:Addr}{H H1 H2:Hp}(a:vv p H H1)(b:vv p H1 H2):vv p H H2:=fun c o n h=>b c o n (a c o n h)
theorem KP{p:Addr}{H:Hp}{o:HO}:vv p H (aH H p o):=fun b u n e=>by rw[dj n];exact e
theorem Ik:∀{fs:List (Str×V)}{f:Str}{v w:V},fs.lookup f=some w->(aE f v fs).length=fs.length
 |[],f,v,w,h=>by cases h
 |(g,x)::r,f,v,w,h=>by
  unfold aE;by_cases e:g=f
  ·rw[if_pos e];rfl
  ·rw[if_neg e];have hb:(f ==g)=false:=beq_eq_false_iff_ne.mpr fun z=>e z.symm;simp only[jd,hb]at h;show(aE f v r).length+1=r.length+1;rw[Ik h]
theorem ki:∀{fs:List (Str×V)}{f:Str}{v:V},(aE f v fs).length<=fs.length+1
 |[],f,v=>aq _
 |(g,x)::r,f,v=>by
  unfold aE;by_cases e:g=f
  ·rw[if_pos e];exact iq _
  ·rw[if_neg e];show(aE f v r).length+1<=r.length+1+1;have:=ki (fs:=r) (f:=f) (v:=v);omega
structure FB(fs:List (Str×V))(d:Int)(pr:Addr)(s:Int)(pl:Addr):Prop where
 dep:fs.lookup ("depth":Str)=some (.int d)
 rat:fs.lookup ("rate":Str)=some (.ref pr)
 sin:fs.lookup ("since":Str)=some (.int s)
 lef:fs.lookup ("left":Str)=some (.ref pl)
 no:∀m:Str,¬m="depth"->¬m="rate"->¬m="since"->¬m="left"->fs.lookup m=none
 len:fs.length<900
structure Bk(C:Addr)(H:Hp)(p:Addr)(d:Int)(r:Rat)(s:Int)(l:Rat):Prop where
 ex:∃dx fs pr pl,H p=some (.ins C dx fs)/\FB fs d pr s pl/\H pr=some (.tup (fq r))/\H pl=some (.tup (fq l))
def JB(K:aa)(f:Str)(x:V)(H:Hp)(Q:VK):Prop:=∃a C dx fs v,x= .ref a/\H a=some (.ins C dx fs)/\xw K C/\dP K C f/\fs.lookup f=some v/\Q v H
theorem yo{K:aa}{ta:TE}{f:Str}{σ:St}{H:Hp}{Q:VK}:JR K ta f σ H Q=ta σ H fun x H1=>JB K f x H1 Q:=rfl
theorem eG{K:aa}{f:Str}{a C dx:Addr}{fs:List (Str×V)}{v:V}{H:Hp}{Q:VK}(h:H a=some (.ins C dx fs))(c:xw K C)(n:dP K C f)(l:fs.lookup f=some v)(q:Q v H):JB K f (.ref a) H Q:=⟨a,C,dx,fs,v,rfl,h,c,n,l,q⟩
def Mu(K:aa)(f:Str)(y x:V)(H:Hp)(Z:Hp->Prop):Prop:=∃a C dx fs,x= .ref a/\H a=some (.ins C dx fs)/\xw K C/\dP K C f/\fs.length<1000/\Z (aH H a (.ins C dx (aE f y fs)))
theorem yb{K:aa}{ta tv:TE}{f:Str}{D:Ends}{σ:St}{H:Hp}:MA K ta tv f D σ H=tv σ H fun y H1=>ta σ H1 fun x H2=>Mu K f y x H2 (D.nx σ):=rfl
theorem pJ{K:aa}{f:Str}{y:V}{a C dx:Addr}{fs:List (Str×V)}{H:Hp}{Z:Hp->Prop}(h:H a=some (.ins C dx fs))(c:xw K C)(n:dP K C f)(l:fs.length<1000)(q:Z (aH H a (.ins C dx (aE f y fs)))):Mu K f y (.ref a) H Z:=⟨a,C,dx,fs,rfl,h,c,n,l,q⟩
def wR(C:Addr)(m:Str)(x:V)(H:Hp)(Z:Prop):Prop:=∃a dx fs,x= .ref a/\H a=some (.ins C dx fs)/\fs.lookup m=none/\Z
theorem sG{C:Addr}{m:Str}{sp:Sp}{cu:List V}{Ek:XH}{ta:TE}{t:TA}{σ:St}{H:Hp}{Q:VK}:
    Pn C m sp cu Ek ta t σ H Q=ta σ H fun x H1=>wR C m x H1 (t σ H1 fun vs H2=>sp (x::(vs++cu)) H2 Q (fun v d H'=>Ek v d σ H')):=by
  unfold Pn wR;rfl
theorem gq{C:Addr}{m:Str}{a dx:Addr}{fs:List (Str×V)}{H:Hp}{Z:Prop}(h:H a=some (.ins C dx fs))(l:fs.lookup m=none)(z:Z):wR C m (.ref a) H Z:=⟨a,dx,fs,rfl,h,l,z⟩
theorem EY{H:Hp}{x dx C:Addr}(h1:H x=none)(h2:H dx=none):bI H (aH (aH H dx (.own x)) x (.ins C dx [])):=fun b o e=>by rw[dj (kW e h1),dj (kW e h2)];exact e
theorem vv.same{x:Addr}{H H1 H':Hp}(b:vv x H1 H')(s:bI H H1)(h:H x=none):bI H H':=fun c o e=>b c o (kW e h) (s c o e)
theorem An{t:TS}{D:Ends}{σ:St}{H:Hp}(h:∀R:St->Hp->Prop,(∀σ H,D.nx σ H->R σ H)->t {D with nx:=R} σ H):t D σ H:=h D.nx fun _ _ x=>x
theorem zzh{a b:Int}{r:Rat}:(a:Rat) / ((r.den:Int):Rat)<(b:Rat)↔a<b*(r.den:Int):=by rw[qB (Sw.jq (Sw.iI r)),<-aG,jB]
theorem ZV{a b:Int}{r:Rat}:(a:Rat) / ((r.den:Int):Rat)<(b:Rat) / ((r.den:Int):Rat)↔a<b:=by have dn:=Sw.cy (Sw.eT r);rw[qB (Sw.jq (Sw.iI r)),show(b:Rat) / ((r.den:Int):Rat)*((r.den:Int):Rat)=(b:Rat)by grind,jB]
def ww(n level:Int)(r:Rat):Int:=(((n:Rat)-(level:Rat) / ((r.den:Int):Rat)) / r).ceil
theorem Mv{r:Rat}(h:0<r.num):0<r:=by
 have e:=Sw.pC r;have dp:=Sw.jq (Sw.iI r);have np:=Sw.jq h;have:=Sw.Et r;rcases E9.mp (yY.mp (iu h))with q|q
 ·exact q
 ·rw[<-q]at h;exact absurd h (by decide)
theorem ZW{n level:Int}{r:Rat}(h0:0<r.num):n*(r.den:Int)-level<=r.num*ww n level r/\r.num*(ww n level r-1)<n*(r.den:Int)-level:=by
 have dn:=Sw.cy (Sw.eT r);have rp:=Mv h0;unfold ww;generalize hx:((n:Rat)-(level:Rat) / ((r.den:Int):Rat)) / r=x;have rn:r≠0:=by grind
 have e:r*x=(n:Rat)-(level:Rat) / ((r.den:Int):Rat):=by grind
 have e1:(n:Rat)-(level:Rat) / ((r.den:Int):Rat)=((n*(r.den:Int)-level:Int):Rat) / ((r.den:Int):Rat):=by rw[xP,aG];grind
 rw[e1]at e;have e2:∀c:Int,((r.num*c:Int):Rat) / ((r.den:Int):Rat)=r*(c:Rat):=fun c=>by rw[aG,Sw.pC r];grind
 have h1:x<=(x.ceil:Rat):=DP;have h2:(x.ceil:Rat)<x+1:=Rat.ceil_lt;have h3:r*x<=r*(x.ceil:Rat):=kB h1 (by grind);have h4:r*((x.ceil-1:Int):Rat)<r*x:=by rw[Rat.mul_lt_mul_left rp,xP];have:((1:Int):Rat)=1:=rfl;grind
 refine⟨?_,?_⟩
 ·have:¬(((r.num*x.ceil:Int):Rat) / ((r.den:Int):Rat)<((n*(r.den:Int)-level:Int):Rat) / ((r.den:Int):Rat)):=by rw[e2,<-e];grind
  rw[ZV]at this;omega
 ·rw[<-e2,e,ZV]at h4;exact h4
theorem zya{n level:Int}{r:Rat}(h0:0<r.num)(h:¬n*(r.den:Int)<=level):0<ww n level r:=by
 have h1:=(ZW (n:=n) (level:=level) h0).1;rcases ou 0 (ww n level r)with q|q
 ·exact q
 ·have:=tw (a:=-r.num) (b:=ww n level r) (by omega) q;rw[Int.neg_mul]at this;omega
theorem Sj{n level:Int}{r:Rat}(h0:0<r.num)(hl:0<=level)(hn:0<=n)(h:¬n*(r.den:Int)<=level):ww n level r<=n*(r.den:Int):=by have h2:=(ZW (n:=n) (level:=level) h0).2;have h3:=zya h0 h;have:1*(ww n level r-1)<=r.num*(ww n level r-1):=eV (by omega) (by omega);omega
end L2
namespace Sw
end Sw
namespace L2
open PySem PySem.Spec PyProof.Rows
section
variable{κ:Type}[DecidableEq κ]
def gv(kvs:List (κ×V))(k:κ):Option V:=(kvs.find? fun kv=>decide (kv.1=k)).map (·.2)
def gu(kvs:List (κ×V))(k:κ)(v:V):List (κ×V):=
 if(kvs.any fun kv=>decide (kv.1=k))=true then kvs.map (fun kv=>if kv.1=k then(kv.1,v)else kv)else kvs++[(k,v)]
def Le(kvs:List (κ×V))(k:κ):List (κ×V):=kvs.filter fun kv=>decide (kv.1≠k)
theorem Co{p:κ×V}{r:List (κ×V)}{k:κ}(e:p.1=k):gv (p::r) k=some p.2:=by simp[gv,bH,e]
theorem Am{p:κ×V}{r:List (κ×V)}{k:κ}(e:¬p.1=k):gv (p::r) k=gv r k:=by simp[gv,bH,e]
theorem GS(k:κ):∀kvs:List (κ×V),(kvs.any fun kv=>decide (kv.1=k))=(gv kvs k).isSome
 |[]=>rfl
 |p::r=>by
  rw[mR];by_cases e:p.1=k
  ·simp only[Co e,decide_eq_true e,Bool.true_or,Option.isSome_some]
  ·rw[Am e,decide_eq_false e,Bool.false_or];exact GS k r
theorem Zl(k j:κ)(y:V):∀kvs:List (κ×V),gv (kvs.map fun kv=>if kv.1=k then(kv.1,y)else kv) j=(gv kvs j).map fun x=>if j=k then y else x
 |[]=>rfl
 |p::r=>by
  have ih:=Zl k j y r;rw[au];by_cases h:p.1=k
  ·rw[if_pos h];by_cases e:p.1=j
   ·rw[Co (p:=(p.1,y)) e,Co e,iK,if_pos (e.symm.trans h)]
   ·rw[Am (p:=(p.1,y)) e,Am e,ih]
  ·rw[if_neg h];by_cases e:p.1=j
   ·rw[Co (p:=p) e,Co e,iK,if_neg (fun z=>h (e.trans z))]
   ·rw[Am (p:=p) e,Am e,ih]
theorem YM(k j:κ)(y:V):∀kvs:List (κ×V),gv kvs k=none->gv (kvs++[(k,y)]) j=if j=k then some y else gv kvs j
 |[],_=>by
  by_cases e:k=j
  ·rw[if_pos e.symm];exact Co (p:=(k,y)) e
  ·rw[if_neg (fun z=>e z.symm)];exact Am (p:=(k,y)) e
 |p::r,hn=>by
  rw[gw];have hk:¬p.1=k:=fun z=>by rw[Co z]at hn;cases hn
  rw[Am hk]at hn;have ih:=YM k j y r hn;by_cases e:p.1=j
  ·rw[Co e,Co e,if_neg (fun z=>hk (e.trans z))]
  ·rw[Am e,Am e,ih]
theorem Zm(kvs:List (κ×V))(k j:κ)(y:V):gv (gu kvs k y) j=if j=k then some y else gv kvs j:=by
 unfold gu;by_cases a:(kvs.any fun kv=>decide (kv.1=k))=true
 ·rw[if_pos a,Zl];rw[GS]at a;by_cases e:j=k
  ·obtain⟨x,hx⟩:=iG.mp a;rw[if_pos e,e,hx,iK,if_pos rfl]
  ·rw[if_neg e];cases gv kvs j with
   |none=>rfl
   |some x=>rw[iK,if_neg e]
 ·rw[if_neg a];refine YM k j y kvs ?_;rw[GS]at a;cases q:gv kvs k with
  |none=>rfl
  |some x=>rw[q]at a;exact(a rfl).elim
theorem JX(kvs:List (κ×V))(k:κ)(v:V):(gu kvs k v).length<=kvs.length+1:=by
 unfold gu;split
 ·rw[ae];omega
 ·rw[bF,bj,bU];omega
theorem Zn{kvs:List (κ×V)}{k:κ}(v:V)(h:gv kvs k=none):gu kvs k v=kvs++[(k,v)]:=by unfold gu;rw[GS,h];exact if_neg (by decide)
theorem oK.l8{o:Option V}{u:Option Value}(r:oK o u):o.isSome=u.isSome:=by
 cases o with
 |none=>cases u with
  |none=>rfl
  |some _=>exact(show False from r).elim
 |some _=>cases u with
  |none=>exact(show False from r).elim
  |some _=>rfl
theorem KV.val{kvs:List (κ×V)}{vs:List (κ×Value)}(r:KV kvs vs)(k:κ):oK (gv kvs k) (valueAt vs k):=by
 unfold KV at r
 induction r with
 |nil=>exact bh
 | @cons p q ps qs h t ih=>
  obtain⟨h1,h2⟩:=h;by_cases e:p.1=k
  ·have e':q.1=k:=h1.symm.trans e;have b:valueAt (q::qs) k=some q.2:=by simp[valueAt,bH,e']
   rw[Co e,b];exact h2
  ·have e':¬q.1=k:=fun z=>e (h1.trans z);have b:valueAt (q::qs) k=valueAt qs k:=by simp[valueAt,bH,e']
   rw[Am e,b];exact ih
theorem KV.any{kvs:List (κ×V)}{vs:List (κ×Value)}(r:KV kvs vs)(k:κ):(kvs.any fun kv=>decide (kv.1=k))=vs.any fun kv=>decide (kv.1=k):=by
 unfold KV at r
 induction r with
 |nil=>rfl
 |cons h t ih=>rw[mR,mR,ih,h.1]
theorem KV.JF{kvs:List (κ×V)}{vs:List (κ×Value)}(r:KV kvs vs)(k:κ){y:V}{u:Value}(ry:RelV y u):
    KV (kvs.map fun kv=>if kv.1=k then(kv.1,y)else kv) (vs.map fun kv=>if kv.1=k then(kv.1,u)else kv):=by
  unfold KV at r⊢
  induction r with
  |nil=>exact .nil
  | @cons p q ps qs h t ih=>
    rw[au,au];refine .cons ?_ ih;obtain⟨h1,h2⟩:=h;by_cases e:p.1=k
    · rw[if_pos e,if_pos (h1.symm.trans e)];exact⟨h1,ry⟩
    · rw[if_neg e,if_neg (fun z=>e (h1.trans z))];exact⟨h1,h2⟩
theorem KV.put{kvs:List (κ×V)}{vs:List (κ×Value)}(r:KV kvs vs)(k:κ){y:V}{u:Value}(ry:RelV y u):KV (gu kvs k y) (stored vs k u):=by
 unfold gu stored;rw[r.any k];by_cases e:(vs.any fun kv=>decide (kv.1=k))=true
 ·rw[if_pos e,if_pos e];exact r.JF k ry
 ·rw[if_neg e,if_neg e];exact Paired.snoc r ⟨rfl,ry⟩
theorem KV.keys{kvs:List (κ×V)}{vs:List (κ×Value)}(r:KV kvs vs):kvs.map (·.1)=vs.map (·.1):=by
 unfold KV at r
 induction r with
 |nil=>rfl
 |cons h t ih=>rw[au,au,ih,h.1]
theorem KV.length{kvs:List (κ×V)}{vs:List (κ×Value)}(r:KV kvs vs):kvs.length=vs.length:=Paired.length r
end
theorem wM{P:Program}{w:World}{k:Key}{u:Value}(r:RelV (kV k) u):(mw P w).is k u=true:=by
 cases k with
 |inl i=>obtain⟨t,e⟩:=(show ∃t,u=Value.int i t from r);subst e;exact zqt P w i t
 |inr x=>obtain⟨t,e⟩:=(show ∃t,u=Value.str x t from r);subst e;exact zqu P w x t
theorem YN{P:Program}{w:World}:∀{ks:List Key}{us:List Value},b8 (ks.map kV) us->ItemsAre (mw P w) ks us
 |[],_,r=>by rw[jv]at r;cases r;exact .nil
 |k::ks,_,r=>by
  rw[au]at r;cases r with
  |cons h t=>exact .cons (wM h) (YN t)
abbrev KT(H:Hp):List (List Key×V)->List (List Key×Addr×Value)->Prop:=Paired fun p q=>p.1=q.1/\H q.2.1=some (.tup (p.1.map kV))/\RelV p.2 q.2.2
theorem KT.val{H:Hp}{kvs:List (List Key×V)}{xs:List (List Key×Addr×Value)}(r:KT H kvs xs)(k:List Key):oK (gv kvs k) ((atKey xs k).map (·.2)):=by
 induction r with
 |nil=>exact bh
 | @cons p q ps qs h t ih=>
  obtain⟨h1,_,h2⟩:=h;by_cases e:p.1=k
  ·have e':q.1=k:=h1.symm.trans e;have b:atKey (q::qs) k=some q.2:=by simp[atKey,bH,e']
   rw[Co e,b];exact h2
  ·have e':¬q.1=k:=fun z=>e (h1.trans z);have b:atKey (q::qs) k=atKey qs k:=by simp[atKey,bH,e']
   rw[Am e,b];exact ih
theorem KT.JF{H:Hp}{kvs:List (List Key×V)}{xs:List (List Key×Addr×Value)}(r:KT H kvs xs)(k:List Key){y:V}{u:Value}(ry:RelV y u):
    KT H (kvs.map fun kv=>if kv.1=k then(kv.1,y)else kv) (xs.map (putAt k u)):=by
  induction r with
  |nil=>exact .nil
  | @cons p q ps qs h t ih=>
    rw[au,au];refine .cons ?_ ih;obtain⟨h1,h2,h3⟩:=h;unfold putAt;by_cases e:p.1=k
    · rw[if_pos e,if_pos (h1.symm.trans e)];exact⟨h1,h2,ry⟩
    · rw[if_neg e,if_neg (fun z=>e (h1.trans z))];exact⟨h1,h2,h3⟩
theorem KT.put{H:Hp}{kvs:List (List Key×V)}{xs:List (List Key×Addr×Value)}(r:KT H kvs xs)(k:List Key){b:Addr}{y:V}{u:Value}(hb:H b=some (.tup (k.map kV)))(ry:RelV y u):
    KT H (gu kvs k y) (storedH xs k b u):=by
  have e:(kvs.any fun kv=>decide (kv.1=k))=(atKey xs k).isSome:=by rw[GS,(r.val k).l8,sR]
  unfold gu storedH;rw[e];by_cases q:(atKey xs k).isSome=true
  · rw[if_pos q,if_pos q];exact r.JF k ry
  · rw[if_neg q,if_neg q];exact Paired.snoc r ⟨rfl,hb,ry⟩
theorem KT.keeps{H H':Hp}{kvs:List (List Key×V)}{xs:List (List Key×Addr×Value)}(r:KT H kvs xs)(ht:∀b ys,H b=some (.tup ys)->H' b=some (.tup ys)):KT H' kvs xs:=
 Paired.Gq r fun _ _ z=>⟨z.1,ht _ _ z.2.1,z.2.2⟩
section
variable{P:Program}{w:World}{H:Hp}{h:Heap}{a:Addr}
theorem HE{u:HO}(ok:lV P w H h)(e:Rd H a u):fJ P w H h a u:=e.ok ok
theorem wH{kvs:List (Key×V)}(ok:lV P w H h)(e:Rd H a (.dK kvs)):kvs.length<=sizeLine/\(a ==sysModules)=false/\∃vs,KV kvs vs/\h.DictOf (mw P w) a vs:=
 show fJ P w H h a (.dK kvs)from HE ok e
theorem uH{kvs:List (Key×V)}(ok:lV P w H h)(e:H a=some (.dK kvs)):kvs.length<=sizeLine/\(a ==sysModules)=false/\∃vs,KV kvs vs/\h.DictOf (mw P w) a vs:=wH ok (.inl e)
theorem NN{ks:List Key}(ok:lV P w H h)(e:H a=some (.tup (ks.map kV))):(tupleKind (mw P w)).is h ks a:=by obtain⟨_,c7,r,o,h1,h2,n,h3⟩:=(show fJ P w H h a (.tup (ks.map kV))from ok a _ e);exact⟨o,c7.toArray,n,h1,h2,h3,by simpa using YN r⟩
theorem wI{kvs:List (List Key×V)}(ok:lV P w H h)(e:Rd H a (.dT kvs)):kvs.length<=sizeLine/\(a ==sysModules)=false/\
    ∃xs,KT H kvs xs/\h.DictOfH (tupleKind (mw P w)) a xs:=by
  obtain⟨z,y,xs,r,o,es,ep,h1,h2,h3,h4,h5⟩:=(show fJ P w H h a (.dT kvs)from HE ok e);refine⟨z,y,xs,r,o,es,ep,h1,h2,h3,h4,fun x hx=>?_,h5⟩;have all:∀{l:List (List Key×V)}{m:List (List Key×Addr×Value)},KT H l m->∀x∈m,(tupleKind (mw P w)).is h x.1 x.2.1:=by
    intro l m q
    induction q with
    |nil=>intro x hx;exact nomatch hx
    | @cons p q ps qs hq t ih=>
      intro x hx;rcases ao.mp hx with e|hx
      · subst e;exact NN ok (by rw[<-hq.1];exact hq.2.1)
      · exact ih x hx
  exact all r x hx
theorem Lf{kvs:List (List Key×V)}(ok:lV P w H h)(e:H a=some (.dT kvs)):kvs.length<=sizeLine/\(a ==sysModules)=false/\
    ∃xs,KT H kvs xs/\h.DictOfH (tupleKind (mw P w)) a xs:=wI ok (.inl e)
end
def ia(H:Hp)(a:Addr)(y:V)(r:Option V):Prop:=
 (∃kvs k,Rd H a (.dK kvs)/\y=kV k/\r=gv kvs k)\/∃kvs k b,Rd H a (.dT kvs)/\y= .ref b/\H b=some (.tup (k.map kV))/\r=gv kvs k
def lB(H:Hp)(a:Addr)(y v:V)(H':Hp):Prop:=
 (∃kvs k,H a=some (.dK kvs)/\y=kV k/\kvs.length<sizeLine/\H'=aH H a (.dK (gu kvs k v)))\/
 ∃kvs k b,H a=some (.dT kvs)/\y= .ref b/\H b=some (.tup (k.map kV))/\kvs.length<sizeLine/\H'=aH H a (.dT (gu kvs k v))
theorem ia.k{H:Hp}{a:Addr}{kvs:List (Key×V)}{k:Key}(e:H a=some (.dK kvs)):ia H a (kV k) (gv kvs k):=.inl ⟨kvs,k,.inl e,rfl,rfl⟩
theorem lB.k{H:Hp}{a:Addr}{kvs:List (Key×V)}{k:Key}{v:V}(e:H a=some (.dK kvs))(hl:kvs.length<sizeLine):lB H a (kV k) v (aH H a (.dK (gu kvs k v))):=.inl ⟨kvs,k,e,rfl,hl,rfl⟩
section
variable{X:Cx}{ah:List (Addr×Obj)}{σ:St}{H:Hp}{s:Shared}{a:Addr}{y v:V}{u r:Value}{o:Option V}{A:Around}{E:Value->Shared->Prop}
theorem Inv.big(I:Inv X ah σ H s):sysModules<s.heap.objs.size:=by have h:mainGlobals<s.heap.objs.size:=(I.mod.glob.keeps I.bk).lt;exact Nat.lt_trans (by decide) h
theorem zvz{Q:Value->Shared->Prop}(hu:A.units+1<cLine)(I:Inv X ah σ H s)(g:ia H a y (some v))(ry:RelV y u)(h:∀w' s',Inv X ah σ H s'->RelV v w'->Q w' s'):
    wpAny (model X.prog X.w) A (getItem (.ref a) u) Q E s:=by
  rcases g with⟨kvs,k,e,ey,l⟩ |⟨kvs,k,b,e,ey,eb,l⟩
  · subst ey;obtain⟨z,hd,vs,jJ,dd⟩:=wH I.eB e;obtain⟨w',hw,CY⟩:=oK.some_of (v:=v) (o:=valueAt vs k) (by rw[l];exact jJ.val k);exact wpAny_getItem_of (wM ry) dd.mapOf hw (h w' _ (I.tok _) CY)
  · subst ey;cases(show u=Value.ref b from ry)
    obtain⟨z,hd,xs,jJ,dd⟩:=wI I.eB e;obtain⟨w',hw,CY⟩:=oK.some_of (v:=v) (o:=(atKey xs k).map (·.2)) (by rw[l];exact jJ.val k);obtain⟨p,hp,Aj⟩:=Option.map_eq_some_iff.mp hw;refine wpAny_getItem_heap (tupleKind_room_in1 hu) (NN I.eB eb) dd hp ?_;rw[Aj];exact h w' _ (I.tok _) CY
theorem P7{Q:Value->Shared->Prop}(hu:A.units+1<cLine)(I:Inv X ah σ H s)(g:ia H a y o)(ry:RelV y u)(h:∀s',Inv X ah σ H s'->Q (.bool o.isSome) s'):
    wpAny (model X.prog X.w) A (compareOp .In u (.ref a)) Q E s:=by
  rcases g with⟨kvs,k,e,ey,l⟩ |⟨kvs,k,b,e,ey,eb,l⟩
  · subst ey;obtain⟨z,hd,vs,jJ,dd⟩:=wH I.eB e;refine wpAny_in_of (wM ry) hd dd.mapOf ?_;rw[<-(jJ.val k).l8,<-l];exact h _ (I.tok _)
  · subst ey;cases(show u=Value.ref b from ry)
    obtain⟨z,hd,xs,jJ,dd⟩:=wI I.eB e;refine wpAny_in_heap (tupleKind_room_in1 hu) (NN I.eB eb) hd dd ?_;have q:=(jJ.val k).l8;rw[sR]at q;rw[<-q,<-l];exact h _ (I.tok _)
theorem Sk{Q:Value->Shared->Prop}(hu:A.units+1<cLine)(I:Inv X ah σ H s)(g:ia H a y o)(ry:RelV y u)(h:∀s',Inv X ah σ H s'->Q (.bool (!o.isSome)) s'):
    wpAny (model X.prog X.w) A (compareOp .NotIn u (.ref a)) Q E s:=by
  rcases g with⟨kvs,k,e,ey,l⟩ |⟨kvs,k,b,e,ey,eb,l⟩
  · subst ey;obtain⟨z,hd,vs,jJ,dd⟩:=wH I.eB e;refine wpAny_notIn_of (wM ry) hd dd.mapOf ?_;rw[<-(jJ.val k).l8,<-l];exact h _ (I.tok _)
  · subst ey;cases(show u=Value.ref b from ry)
    obtain⟨z,hd,xs,jJ,dd⟩:=wI I.eB e;refine wpAny_notIn_heap (tupleKind_room_in1 hu) (NN I.eB eb) hd dd ?_;have q:=(jJ.val k).l8;rw[sR]at q;rw[<-q,<-l];exact h _ (I.tok _)
theorem UK{h':Heap}{t':Nat}{ob:HO}(I:Inv X ah σ H s)(mu:K5 (H a))(hs:Heap.SameBut a s.heap h')(he:∃q,h'.get? a=some q)(new:fJ X.prog X.w (aH H a ob) h' a ob):
    Inv X ah σ (aH H a ob) {s with heap:=h',toks:=t'}:=
  I.write (x:=a) (e:=a) mu (.inl rfl) (fun b q hb z=>(hs.2 b hb).trans z) he new
theorem zzi{P:Program}{w:World}{H':Hp}{h':Heap}{kvs:List (Key×V)}{vs:List (Key×Value)}(z:kvs.length<=sizeLine)(hd:(a ==sysModules)=false)(jJ:KV kvs vs)(dd:h'.DictOf (mw P w) a vs):
    fJ P w H' h' a (.dK kvs):=⟨z,hd,vs,jJ,dd⟩
theorem zwa{H':Hp}{Q:Unit->Shared->Prop}(hu:A.units+1<cLine)(I:Inv X ah σ H s)(g:lB H a y v H')(ry:RelV y u)(rv:RelV v r)(h:∀s',Inv X ah σ H' s'->Q () s'):
    wpAny (model X.prog X.w) A (setItem (.ref a) u r) Q E s:=by
  rcases g with⟨kvs,k,e,ey,l,eH⟩ |⟨kvs,k,b,e,ey,eb,l,eH⟩
  · subst ey eH;obtain⟨z,hd,vs,jJ,dd⟩:=uH I.eB e;have hz:vs.length<=sizeLine:=by rw[<-jJ.length];exact z
    have hl:(gu kvs k v).length<=sizeLine:=by have:=JX kvs k v;omega
    refine wpAny_setItem_pairs (hsz:=hz) (wM ry) dd fun h' IP hs=>h _ ?_;have he:∃q,h'.get? a=some q:=let⟨q,_,_,hq,_⟩:=IP;⟨q,hq⟩;exact UK I (by rw[e];exact bh) hs he (zzi hl hd (jJ.put k rv) IP)
  · subst ey eH;cases(show u=Value.ref b from ry)
    obtain⟨z,hd,xs,jJ,dd⟩:=Lf I.eB e;have hz:xs.length<=sizeLine:=by rw[<-Paired.length jJ];exact z
    have hl:(gu kvs k v).length<=sizeLine:=by have:=JX kvs k v;omega
    refine wpAny_setItem_heap (hsz:=hz) (tupleKind_room_in1 hu) (NN I.eB eb) dd fun h' IP hs=>h _ ?_;obtain⟨q,es,ep,hq,h2,h3,h4,_,h5⟩:=IP;refine UK I (by rw[e];exact bh) hs ⟨q,hq⟩ ⟨hl,hd,_,(jJ.put k eb rv).keeps fun c ys ec=>?_,q,es,ep,hq,h2,h3,h4,h5⟩;rw[dj (cj ec e (fun z=>nomatch z))];exact ec
end
section
variable{X:Cx}{ah:List (Addr×Obj)}{σ:St}{H:Hp}{s:Shared}{a:Addr}{kvs:List (Key×V)}{k:Key}{u:Value}{A:Around}{E:Value->Shared->Prop}
end
def K6(i:Expr):Prop:=∀ov iv,subscripted i false ov iv=operate [ov,iv] (getItem ov iv)
theorem Sl{prog:Program}{w:World}{A:Around}{E:Value->Shared->Prop}{s:Shared}{env:Env}{value slice:Expr}{pos:Pos}{T id:String}{Q:Value->Shared->Prop}(hl:typeLookup (.type T) "__getitem__"=pure (some (.builtin id)))(hs:K6 slice)(h:wpAny (model prog w) A (eval value env) (fun o s₁=>wpAny (model prog w) A (eval slice env) (fun i s₂=>s₂.TypeIs o T/\wpAny (model prog w) A (getItem o i) Q E s₂) E s₁) E s):
    wpAny (model prog w) A (eval (.Subscript value slice pos) env) Q E s:=by
  refine Subscript_ (wpAny_mono h (fun o s₁ h₁=>wpAny_mono h₁ (fun i s₂ h₂=>?_) fun _ _ x=>x) fun _ _ x=>x);obtain⟨hT,h₂⟩:=h₂;unfold subscriptTail;refine wpAny_bind ?_;rw[getitemInPython_of_ne hT.not_modules];refine wpAny_bind (wpAny_specialOf hT hl ?_);have fin:wpAny (model prog w) A (subscripted slice false o i) (fun r s₃=>wpAny (model prog w) A (letTemporaryGo value o r >>=fun _=>pure r) Q E s₃) E s₂:=by rw[hs o i];exact wpAny_operating (wpAny_mono h₂ (fun r s₃ h₃=>wpAny_bind (wpAny_letTemporaryGo (wpAny_pure h₃))) fun _ _ x=>x)
  first
    |exact wpAny_pure (wpAny_bind fin)
    |exact wpAny_bind (wpAny_pure (wpAny_bind fin))
    |exact wpAny_bind fin
theorem zrg{X:Cx}{ah:List (Addr×Obj)}{σ:St}{H:Hp}{s:Shared}{a:Addr}{y:V}{o:Option V}(I:Inv X ah σ H s)(g:ia H a y o):s.TypeIs (.ref a) "dict":=by
 rcases g with⟨kvs,k,e,_,_⟩ |⟨kvs,k,b,e,_,_,_⟩
 ·obtain⟨_,_,vs,_,dd⟩:=wH I.eB e;exact dd.typeIs
 ·obtain⟨_,_,xs,_,dd⟩:=wI I.eB e;exact dd.typeIs
def Cj(td ty:TE):TE:=fun σ H Q=>td σ H fun x H1=>ty σ H1 fun y H2=>∃a v,x= .ref a/\ia H2 a y (some v)/\Q v H2
def ET(ty td:TE):TE:=fun σ H Q=>ty σ H fun y H1=>td σ H1 fun x H2=>∃a o,x= .ref a/\ia H2 a y o/\Q (.bl o.isSome) H2
def uq(ty td:TE):TE:=fun σ H Q=>ty σ H fun y H1=>td σ H1 fun x H2=>∃a o,x= .ref a/\ia H2 a y o/\Q (.bl (!o.isSome)) H2
def zR(td ty tv:TE):TS:=fun D σ H=>tv σ H fun v H1=>td σ H1 fun x H2=>ty σ H2 fun y H3=>∃a H4,x= .ref a/\lB H3 a y v H4/\D.nx σ H4
section
variable{X:Cx}{o i e value:Expr}{pos tY Bd:Pos}{td ty tv:TE}
theorem o8(hu:X.A.units+1<cLine)(ho:PE X o td)(hi:PE X i ty)(hs:K6 i):PE X (.Subscript o i pos) (Cj td ty):=by intro ah s σ H Q I h;refine Sl PySem.F.slot_dict_getitem.lookup hs (eJ (ho ah s σ H _ I h) fun u s1⟨x,H1,I1,rx,q1⟩=>eJ (hi ah s1 σ H1 _ I1 q1) fun iv s2⟨y,H2,I2,ry,a,v,ex,g,q2⟩=>?_);subst ex;obtain rfl:u=Value.ref a:=rx;exact⟨zrg I2 g,zvz hu I2 g ry fun w' s3 I3 CY=>⟨v,H2,I3,CY,q2⟩⟩
theorem Po(hu:X.A.units+1<cLine)(hi:PE X i ty)(ho:PE X o td):PC X .In i o (ET ty td):=by intro ah s σ H Q I h;refine eJ (hi ah s σ H _ I h) fun iv s1⟨y,H1,I1,ry,q1⟩=>eJ (ho ah s1 σ H1 _ I1 q1) fun u s2⟨x,H2,I2,rx,a,ov,ex,g,q2⟩=>?_;subst ex;obtain rfl:u=Value.ref a:=rx;exact P7 hu I2 g ry fun s3 I3=>⟨.bl ov.isSome,H2,I3,rfl,q2⟩
theorem Ux(hu:X.A.units+1<cLine)(hi:PE X i ty)(ho:PE X o td):PC X .NotIn i o (uq ty td):=by intro ah s σ H Q I h;refine eJ (hi ah s σ H _ I h) fun iv s1⟨y,H1,I1,ry,q1⟩=>eJ (ho ah s1 σ H1 _ I1 q1) fun u s2⟨x,H2,I2,rx,a,ov,ex,g,q2⟩=>?_;subst ex;obtain rfl:u=Value.ref a:=rx;exact Sk hu I2 g ry fun s3 I3=>⟨.bl (!ov.isSome),H2,I3,rfl,q2⟩
theorem Ao(hu:X.A.units+1<cLine)(ho:PE X o td)(hi:PE X i ty)(hv:PE X value tv)(hs:swapsWith value (some (.Subscript o i tY)) pos.line X.env=pure false):
    PS X (.Assign [.Subscript o i tY] value pos) (zR td ty tv):=by
  intro ah s σ H D I h;refine wpAny_Assign_Subscript (eJ (hv ah s σ H _ I h) fun r s1⟨v,H1,I1,rv,q1⟩=>eJ (ho ah s1 σ H1 _ I1 q1) fun u s2⟨x,H2,I2,rx,q2⟩=>eJ (hi ah s2 σ H2 _ I2 q2) fun iv s3⟨y,H3,I3,ry,a,H4,ex,g,q3⟩=>?_) hs;subst ex;obtain rfl:u=Value.ref a:=rx;exact zwa hu I3 g ry rv fun s4 I4=>⟨σ,H4,I4,q3⟩
end
theorem Zo{P:Program}{w:World}{H:Hp}(h:Heap)(hb:sysModules<h.objs.size):fJ P w H (h.push {cls:=.type "dict",data:=.dict #[]}) h.objs.size (.dK []):=
 ⟨bW _,beq_eq_false_iff_ne.mpr (d8 (bq hb)),[],.nil,Heap.DictOf.new h⟩
def ym:TE:=fun _ H Q=>∀p,H p=none->Q (.ref p) (aH H p (.dK []))
section
variable{X:Cx}{pos:Pos}
theorem KI:PE X (.Dict [] [] pos) ym:=fun ah s σ H Q I h=>
 wpAny_Dict_empty ⟨.ref s.heap.objs.size,_,I.laid (a:=s.heap.objs.size) (o:=.dK []) (t':=s.toks) (fun _ _ q=>Heap.get?_push_of_some _ q) (aq _) (Zo s.heap I.big),rfl,h _ (I.eB.fresh (aq _))⟩
end
def sI:List (TE×TE)->St->Hp->(List (V×V)->Hp->Prop)->Prop
 |[],_,H,Q=>Q [] H
 |(tk,tv)::r,σ,H,Q=>tk σ H fun x H1=>tv σ H1 fun y H2=>sI r σ H2 fun ps H3=>Q ((x,y)::ps) H3
abbrev VV:List (V×V)->List (Value×Value)->Prop:=Paired fun p q=>RelV p.1 q.1/\RelV p.2 q.2
def NS(X:Cx)(pos:Pos)(keys:List (Option Expr))(vq:List Expr)(GL:List (TE×TE)):Prop:=
 ∀(ah:List (Addr×Obj))(s:Shared)(σ:St)(H:Hp)(Q:List (V×V)->Hp->Prop),Inv X ah σ H s->sI GL σ H Q->
  wpAny (model X.prog X.w) X.A (evalPairs (pairTrees keys vq X.env pos)) (fun vs s'=>∃ps H',Inv X ah σ H' s'/\VV ps vs/\Q ps H') X.xe s
theorem ZX{X:Cx}{pos:Pos}:NS X pos [] [] []:=fun ah s σ H Q I h=>pairTrees_nil_walk ⟨[],H,I,.nil,h⟩
theorem Zp{X:Cx}{pos:Pos}{k v:Expr}{ks:List (Option Expr)}{vs:List Expr}{tk tv:TE}{GL:List (TE×TE)}(hk:PE X k tk)(hv:PE X v tv)(hr:NS X pos ks vs GL):
    NS X pos (some k::ks) (v::vs) ((tk,tv)::GL):=fun ah s σ H Q I h=>
  pairTrees_cons_walk (eJ (hk ah s σ H _ I h) fun u s1⟨x,H1,I1,rx,q1⟩=>eJ (hv ah s1 σ H1 _ I1 q1) fun w2 s2⟨y,H2,I2,ry,q2⟩=>
    eJ (hr ah s2 σ H2 _ I2 q2) fun ws s3⟨ps,H3,I3,jJ,q3⟩=>⟨(x,y)::ps,H3,I3,.cons ⟨rx,ry⟩ jJ,q3⟩)
def Fz(kvs more:List (Key×V)):List (Key×V):=more.foldl (fun G9 kv=>gu G9 kv.1 kv.2) kvs
theorem KV.merge:∀{more:List (Key×V)}{rs:List (Key×Value)}{kvs:List (Key×V)}{vs:List (Key×Value)},KV more rs->KV kvs vs->KV (Fz kvs more) (merged vs rs):=by
 intro more rs kvs vs r;unfold KV at r
 induction r generalizing kvs vs with
 |nil=>intro q;exact q
 | @cons p q ps qs h t ih=>
  intro r0;have e:KV (gu kvs p.1 p.2) (stored vs q.1 q.2):=by have:=r0.put p.1 h.2;rw[<-h.1];exact this
  exact ih e
theorem Xk:∀(more kvs:List (Key×V)),(Fz kvs more).length<=kvs.length+more.length
 |[],kvs=>by show kvs.length<=kvs.length+0;omega
 |p::r,kvs=>by have h1:=Xk r (gu kvs p.1 p.2);have h2:=JX kvs p.1 p.2;show(Fz (gu kvs p.1 p.2) r).length<=_;rw[bj];omega
theorem Yj{P:Program}{w:World}:∀{kvs:List (Key×V)}{ws:List (Value×Value)},VV (kvs.map fun kv=>(kV kv.1,kv.2)) ws->∃rs,Carries (mw P w) ws rs/\KV kvs rs
 |[],_,r=>by rw[jv]at r;cases r;exact⟨[],bh,.nil⟩
 |p::kvs,_,r=>by
  rw[au]at r;cases r with
  | @cons a b as bs h t=>
   obtain⟨rs,c,q⟩:=Yj (P:=P) (w:=w) t;obtain⟨b1,b2⟩:=b;exact⟨(p.1,b2)::rs,⟨wM h.1,rfl,c⟩,.cons ⟨rfl,h.2⟩ q⟩
def HX(GL:List (TE×TE)):TE:=fun σ H Q=>∀p,H p=none->sI GL σ (aH H p (.dK [])) fun ps H2=>H2 p=some (.dK [])/\∃kvs:List (Key×V),ps=kvs.map (fun kv=>(kV kv.1,kv.2))/\kvs.length<=15/\Q (.ref p) (aH H2 p (.dK (Fz [] kvs)))
theorem ZY{X:Cx}{pos:Pos}{keys:List (Option Expr)}{vq:List Expr}{GL:List (TE×TE)}(h:NS X pos keys vq GL)(kE:keys.all (·.isSome)=true)(hl:keys.length=vq.length)(h0:keys≠[])(Vs:keys.length<=15):PE X (.Dict keys vq pos) (HX GL):=by
  intro ah s σ H Q I q;have hn:=I.eB.fresh (aq s.heap.objs.size);have I1:=I.laid (a:=s.heap.objs.size) (o:=.dK []) (h':=s.heap.push {cls:=.type "dict",data:=.dict #[]}) (t':=s.toks) (fun _ _ q=>Heap.get?_push_of_some _ q) (aq _) (Zo s.heap I.big);refine wpAny_Dict_walk (knd:=mw X.prog X.w) kE hl h0 Vs (eJ (h ah _ σ _ _ I1 (q _ hn)) fun ws s2⟨ps,H2,I2,jJ,e,kvs,ep,lk,q2⟩=>?_);subst ep;obtain⟨rs,c,rk⟩:=Yj (P:=X.prog) (w:=X.w) jJ;obtain⟨z,hd,vs0,r0,dd⟩:=uH I2.eB e;cases r0
  refine⟨rs,c,dd,fun h' IP hs=>⟨.ref s.heap.objs.size,_,?_,rfl,q2⟩⟩;have hz:(Fz [] kvs).length<=sizeLine:=by have h1:=Xk kvs [];rw[bU]at h1;rw[sizeLine_eq];omega
  have he:∃q,h'.get? s.heap.objs.size=some q:=let⟨q,_,_,hq,_⟩:=IP;⟨q,hq⟩;exact UK I2 (by rw[e];exact bh) hs he (zzi hz hd (rk.merge .nil) IP)
structure M1(X:Cx)(o:Expr)(m:Str)(gC:Pos)(e:Expr)(gO:Pos):Prop where
 base:attributeBase o m X.env (eval o X.env)=eval o X.env
 few:((backTo gO (starEach [e] X.env)).all (fun x=>!x.1) && (backToKw gO (keywordEach [] X.env)).all (fun x=>x.1.isSome)
  && decide (([e]:List Expr).length+([]:List Keyword).length+(if([]:List Keyword).isEmpty then 0 else 1)<30))=true
 line:(gC.endLine ==gO.line)=true
 Nb:backTo gO (starEach [e] X.env)=[(false,eval e X.env)]
structure M2(X:Cx)(o:Expr)(m:Str)(gC:Pos)(e f:Expr)(gO:Pos):Prop where
 base:attributeBase o m X.env (eval o X.env)=eval o X.env
 few:((backTo gO (starEach [e,f] X.env)).all (fun x=>!x.1) && (backToKw gO (keywordEach [] X.env)).all (fun x=>x.1.isSome)
  && decide (([e,f]:List Expr).length+([]:List Keyword).length+(if([]:List Keyword).isEmpty then 0 else 1)<30))=true
 line:(gC.endLine ==gO.line)=true
 Nb:backTo gO (starEach [e,f] X.env)=[(false,eval e X.env),(false,eval f X.env)]
def K3(H:Hp)(a:Addr):Prop:=(∃kvs,Rd H a (.dK kvs))\/∃kvs,Rd H a (.dT kvs)
theorem Pp{X:Cx}{ah:List (Addr×Obj)}{σ:St}{H:Hp}{s:Shared}{a:Addr}(I:Inv X ah σ H s)(d:K3 H a):
    s.TypeIs (.ref a) "dict"/\(∀b,Value.ref a= .ref b->∃ob,s.heap.get? b=some ob/\ob.dict=none)/\(a ==sysModules)=false:=by
  rcases d with⟨kvs,e⟩ |⟨kvs,e⟩
  · obtain⟨_,hd,vs,_,dd⟩:=wH I.eB e;refine⟨dd.typeIs,fun b q=>?_,hd⟩;cases q
    obtain⟨ob,_,_,h1,h2,_⟩:=dd;exact⟨ob,h1,h2.2.1⟩
  · obtain⟨_,hd,xs,_,dd⟩:=wI I.eB e;refine⟨dd.typeIs,fun b q=>?_,hd⟩;cases q
    obtain⟨ob,_,_,h1,h2,_⟩:=dd;exact⟨ob,h1,h2.2.1⟩
section
variable{X:Cx}{ah:List (Addr×Obj)}{σ:St}{H:Hp}{s:Shared}{a:Addr}{y d:V}{u r:Value}{o:Option V}{A:Around}{E:Value->Shared->Prop}
end
def A8(td ty:TE):TE:=fun σ H Q=>td σ H fun x H1=>∃a,x= .ref a/\K3 H1 a/\ty σ H1 fun y H2=>∃o,ia H2 a y o/\Q (o.getD .b7) H2
def A9(td ty tx:TE):TE:=fun σ H Q=>td σ H fun x H1=>∃a,x= .ref a/\K3 H1 a/\ty σ H1 fun y H2=>tx σ H2 fun z H3=>∃o,ia H3 a y o/\Q (o.getD z) H3
def JP(td ty:TE):TE:=fun σ H Q=>td σ H fun x H1=>∃a,x= .ref a/\K3 H1 a/\ty σ H1 fun y H2=>∃kvs k v,H2 a=some (.dK kvs)/\y=kV k/\gv kvs k=some v/\Q v (aH H2 a (.dK (Le kvs k)))
section
variable{X:Cx}{o e f:Expr}{gC gO:Pos}{td ty tx:TE}
end
section
variable{X:Cx}{ah:List (Addr×Obj)}{σ:St}{H:Hp}{s:Shared}{a:Addr}{kvs:List (Key×V)}{A:Around}{E:Value->Shared->Prop}
end
section
variable{X:Cx}{ah:List (Addr×Obj)}{σ:St}{H:Hp}{s:Shared}{a:Addr}{y:V}{u:Value}{A:Around}{E:Value->Shared->Prop}
end
section
variable{X:Cx}
end
section
variable{κ:Type}[DecidableEq κ]
end
def GH(K:aa)(ta:TE):TT:=fun σ H Q=>ta σ H fun x H1=>∃k,F0 K x H1 k/\Q k H1
theorem Uy{X:Cx}(K:aa)(h:X.K=K){a:Expr}{ta:TE}(ha:PE X a ta)(he:∀pD,isTrue a X.env pD=(do let v <-pD;standAt a.pos;holding [v] (truthy v)):=by intro _;rfl):PT X a (GH K ta):=h▸zxq ha he
theorem RZ{K:aa}{H:Hp}{p:Addr}{xs:List V}(h:j1 K H p xs):F0 K (.ref p) H (!xs.isEmpty):=.inl ⟨xs,h,rfl⟩
end L2
namespace Sw
abbrev T3:=Rat×Rat×Int
def Q7(m:Rat)(u:T3):Bool:=!decide (m<u.1) && decide (m<u.2.1)
def hds(us:List T3)(m:Rat):List T3:=us.filter (Q7 m)
def yx(D:Int)(q:Rat):Prop:=∃n:Int,q=(n:Rat) / (D:Rat)
theorem yx.add{D:Int}{a b:Rat}(h:yx D a)(k:yx D b):yx D (a+b):=by obtain⟨n,rfl⟩:=h;obtain⟨m,rfl⟩:=k;exact⟨n+m,by rw[gg];grind⟩
theorem yx.more{D:Int}{a:Rat}(hD:D≠0)(h:yx D a){k:Int}(hk:k≠0):yx (D*k) a:=by obtain⟨n,rfl⟩:=h;have h1:=cy hD;have h2:=cy hk;exact⟨n*k,by rw[aG,aG];grind⟩
theorem yx.sz{D M:Int}{a b:Nat}{q:Rat}(h:yx D q)(hD:0<D)(zD:Sz a D)(zM:Sz b M)(h1:-(M:Rat)<=q)(h2:q<=(M:Rat))(hb:1<=b):eY (a+b) q:=by
 obtain⟨n,rfl⟩:=h;have dp:=jq hD;have dn:=cy (show D≠0 by omega);refine .of (by omega) rfl ((zD.mul zM).le ?_) (zD.mono (by omega));have e:(n:Rat) / (D:Rat)*(D:Rat)=(n:Rat):=by grind
 have u:(n:Rat)<=((M*D:Int):Rat):=by rw[<-e,aG];exact j0 h2 (by grind)
 have l:((-(M*D):Int):Rat)<=(n:Rat):=by rw[<-e,Rat.intCast_neg,aG,show -((M:Rat)*(D:Rat))= -(M:Rat)*(D:Rat)by grind];exact j0 h1 (by grind)
 have u':=bX.mp u;have l':=bX.mp l;rw[uw D M];omega
end Sw
namespace L2
open PySem PySem.Spec PyProof.Rows
theorem Pd{c:TT}{tb:TS}{D:Ends}{σ:St}{H:Hp}(W:Nat->St->Hp->Prop){m0:Nat}(h0:W m0 σ H)(hs:∀m σ H,W m σ H->∃b:Bool,(∀Q:Bool->Hp->Prop,Q b H->c σ H Q)/\(b=true->tb {D with nx:=fun σ' H'=>∃m',m' < m/\W m' σ' H',ct:=fun σ' H'=>∃m',m' < m/\W m' σ' H',bk:=D.nx} σ H)/\(b=false->D.nx σ H)):UX c tb D σ H:=by
  refine⟨W,⟨_,h0⟩,fun m σ H p=>?_⟩;obtain⟨b,hc,h1,h2⟩:=hs m σ H p;refine hc _ ?_;cases b with
  |true=>exact⟨_,fun σ' H' z=>z,h1 rfl⟩
  |false=>exact h2 rfl
theorem OP{α β:Type}{F:α->β->Prop}{a:α}{b:β}(h:F a b):∀{l₁:List α}{l₂:List β},Paired F l₁ l₂->Paired F (l₁++[a]) (l₂++[b])
 |_,_,Paired.nil=>.cons h .nil
 |_,_,Paired.cons x y=>.cons x (OP h y)
theorem OQ{α β:Type}{F:α->β->Prop}:∀{l₁:List α}{l₂:List β}{i:Nat}{a:α},Paired F l₁ l₂->l₁[i]?=some a->∃b,l₂[i]?=some b/\F a b
 |_,_,_,_,Paired.nil,e=>by simp at e
 |_,_,0,_,Paired.cons x _,e=>by simp at e;subst e;exact⟨_,rfl,x⟩
 |_,_,i+1,_,Paired.cons _ y,e=>by obtain⟨b,h1,h2⟩:=OQ (i:=i) y (by simpa using e);exact⟨b,by simpa using h1,h2⟩
theorem mP{α:Type}{l:List α}{i:Nat}{x:α}(h:l[i]?=some x):l.take (i+1)=l.take i++[x]:=by rw[uc,h];rfl
end L2
namespace Sw
open L2
end Sw
namespace L2
open PySem PySem.Spec PyProof.Rows
def PD (K:aa) (a:Addr):It :=
  ⟨fun i H=>∃ xs x,j1 K H a xs/\xs[i]? = some x,
   fun i H y H'=>∃ p x,y = .ref p/\H p=none/\(∀ xs,j1 K H a xs->xs[i]? = some x)/\H'=aH H p (.tup [.int ((i+1:Nat):Int),x]),
   fun i H=>∃ xs,j1 K H a xs/\xs.length=i⟩
section
variable{X:Cx}
def AU(K:aa)(ta:TA):TI:=fun σ H R=>ta σ H fun vs H1=>∃a,vs=[.ref a]/\(∃xs,j1 K H1 a xs)/\R (PD K a) H1
end
section
variable{X:Cx}
def Itv(K:aa)(a:Addr)(xs:List V):It:=
 ⟨fun i H=>j1 K H a xs/\i<xs.length,fun i H x H'=>H'=H/\xs.reverse[i]?=some x,fun i H=>j1 K H a xs/\xs.length=i⟩
def Jg(K:aa)(ta:TA):TI:=fun σ H R=>ta σ H fun vs H1=>∃a xs,vs=[.ref a]/\j1 K H1 a xs/\R (Itv K a xs) H1
end
end L2
namespace L2
end L2
namespace L2
open PySem PySem.Spec PyProof.Rows
def DSd(H:Hp)(a:Addr)(y d:V)(v:V)(H':Hp):Prop:=∃kvs k,H a=some (.dK kvs)/\y=kV k/\kvs.length<sizeLine/\((gv kvs k=some v/\H'=H)\/(gv kvs k=none/\v=d/\H'=aH H a (.dK (gu kvs k d))))
section
variable{X:Cx}{ah:List (Addr×Obj)}{σ:St}{H H':Hp}{s:Shared}{a:Addr}{y d v:V}{u r:Value}{A:Around}{E:Value->Shared->Prop}
end
def JQ(td ty tx:TE):TE:=fun σ H Q=>td σ H fun x H1=>∃a,x= .ref a/\K3 H1 a/\ty σ H1 fun y H2=>tx σ H2 fun z H3=>∃v H4,DSd H3 a y z v H4/\Q v H4
section
variable{X:Cx}{o e f:Expr}{td ty tx:TE}{gC gO:Pos}
end
end L2
namespace Sw
open L2
def ov(low high:Rat)(u:T3):Rat:=if u.2.1<=low then 0 else if high<=u.1 then 0 else(if u.2.1<=high then u.2.1 else high)-(if low<=u.1 then u.1 else low)
end Sw
namespace Sw
open L2
end Sw
namespace Sw
open L2
end Sw
namespace L2
open PySem PySem.Spec PyProof.Rows
section
variable{X:Cx}
end
abbrev D2:=Int×Int
def d2(g:D2):List V:=[.int g.1,.int g.2]
abbrev tq(H:Hp):List Addr->List D2->Prop:=Paired fun p g=>H p=some (.tup (d2 g))
theorem tq.len{H:Hp}{ps:List Addr}{gs:List D2}(h:tq H ps gs):ps.length=gs.length:=Paired.length h
theorem tq.keep{H H':Hp}{ps:List Addr}{gs:List D2}(h:tq H ps gs)(e:∀p xs,H p=some (.tup xs)->H' p=some (.tup xs)):tq H' ps gs:=Paired.Gq h fun _ _ q=>e _ _ q
theorem tq.get{H:Hp}:∀{ps:List Addr}{gs:List D2}{i:Nat}{p:Addr},tq H ps gs->ps[i]?=some p->∃q,gs[i]?=some q/\H p=some (.tup (d2 q))
 |_,_,_,_,Paired.nil,e=>by simp at e
 |_,_,0,_,Paired.cons a _,e=>by simp at e;subst e;exact⟨_,rfl,a⟩
 |_,_,i+1,_,Paired.cons _ b,e=>by obtain⟨q,h1,h2⟩:=tq.get (i:=i) b (by simpa using e);exact⟨q,by simpa using h1,h2⟩
structure U8(H:Hp)(l:Addr)(ps:List Addr)(gs:List D2):Prop where
 hl:H l=some (.lst (ps.map V.ref))
 r:tq H ps gs
end L2
namespace Sw
open L2
end Sw
namespace L2
open PySem PySem.Spec PyProof.Rows
section
variable{X:Cx}
theorem Sm{i0:Nat}{y:Str}{py EO:Pos}{wJ eM iter:Expr}{vB:List Expr}{scope:Scope}{pos:Pos}{cl:List (Str×Addr)}{ts:List Str}{fr:List (Str×Nat)}{wi:TI}{g:TG}{tc:TT}{te:TE}(qH:X.calm=true)(uJ:closureFor scope X.env=pure cl)(pA:∀y∈scope.names,y.2≠.cell)(kF:scope.kind= .function)(pR:∀y∈scope.names,y.2= .local->scope.names.lookup y.1=some .local)(BC:∀x c,cl.lookup x=some c->X.env.cells.lookup x=some c)(vS:∀x,((relabel scope X.env).names.lookup x=some .cell\/(relabel scope X.env).names.lookup x=some .free)->∃c,cl.lookup x=some c)(Ga:xB X (relabel scope X.env) fr)(hi:PI X eM iter wi)(hg:∀fp s H,PG (sM X scope cl (ts++fr.map (·.1)) fp s H) eM g)(hc:∀fp s H,Cy (sM X scope cl (ts++fr.map (·.1)) fp s H) vB tc)(he:∀fp s H,PE (sM X scope cl (ts++fr.map (·.1)) fp s H) wJ te)(Q2:swapsWith (.ListComp wJ [⟨eM,iter,vB,0⟩] scope pos) (some (.Name y py)) EO.line X.env=pure true)(hN:X.N.Nodup)(QD:X.N[i0]?=some y)(hy:Loc X.env.scope y)(hs:∀x,foldedSetIterable iter X.env x=pure x:=by intro _;rfl)(hf:X.fn y=true\/X.env.scope.names.lookup y=some .local:=by first|exact .inl rfl|exact .inr rfl|assumption):
    PS X (.Assign [.Name y py] (.ListComp wJ [⟨eM,iter,vB,0⟩] scope pos) EO) (wu (wZ ts.length fr wi g tc te) (nH i0)):=by
  intro ah s σ H D I h;have h:wZ ts.length fr wi g tc te σ H (fun x H1=>D.nx (σ.set i0 (some x)) H1):=h;rw[exec_Assign_Name_used _ _ _ _ Q2];refine wpAny_bind (wpAny_standAt (wpAny_bind ?_));show wpAny _ _ (do let _ <-comprehension (.ListComp wJ [⟨eM,iter,vB,0⟩] scope pos) scope X.env _ (newList []) false (eval iter X.env) (some (assign (.Name y py) X.env))) _ _ s;refine wpAny_bind (wpAny_mono (wpAny_comprehension_free (use:=some (assign (.Name y py) X.env)) (Q:=fun _ s'=>SP X ah D .next s') rfl hs uJ kF pR (eJ (hi ah s σ H _ I h) fun xv s1 h1=>eJ h1 fun Oo s2 h2=>?_)) (fun _ s' hq=>wpAny_pure (wpAny_pure hq)) fun _ _ e=>e);obtain⟨it,fp,tn,J,H2,rfl,I2,T,JM,f2,hR⟩:=h2;have D0:H2 s2.heap.objs.size=none:=I2.eB.fresh (aq _);obtain⟨W,⟨m0,w0⟩,sJ⟩:=hR s2.heap.objs.size D0;refine wpAny_newObj_type (wpAny_newFunctionEnv pA (by intro y hy;simp at hy) (fun h₁ AQ AS=>?_) kF);dsimp only at AQ AS⊢;have I3:Inv X ah σ (aH H2 s2.heap.objs.size (.lst [])) {s2 with heap:=s2.heap.push {cls:=.type "list",dict:=none,data:=.seq ([]:List Value).toArray}}:=
    I2.laid (t':=s2.toks) (fun _ _ q=>Heap.get?_push_of_some _ q) (aq _) ⟨bW _,[],0,.nil,Heap.get?_push_size _ rfl⟩;have LP:∀b o,s2.heap.get? b=some o->(s2.heap.push {cls:=.type "list",dict:=none,data:=.seq ([]:List Value).toArray}).get? b=some o:=fun b o q=>Heap.get?_push_of_some _ q;have Ky:(s2.heap.push {cls:=.type "list",dict:=none,data:=.seq ([]:List Value).toArray}).objs.size=s2.heap.objs.size+1:=Heap.size_push ..;generalize s2.heap.push {cls:=.type "list",dict:=none,data:=.seq ([]:List Value).toArray}=l7 at AQ AS I3 LP Ky⊢;have kp:∀b o,l7.get? b=some o->h₁.get? b=some o:=fun b o e=>AS.extBut b o (bq (Heap.lt_size e)) (Heap.get?_push_of_some _ e);have CG:∀b∈fp,b<s2.heap.objs.size:=fun b hb=>by
    obtain⟨o,e,_⟩:=T.obj _ _ JM b hb;exact Heap.lt_size e
  have BB:∀b∈fp,(aH H2 s2.heap.objs.size (.lst [])) b=none:=fun b hb=>by rw[dj (bq (CG b hb))];exact(f2 b hb).1
  have f3:∀b∈fp,rP X ah (aH H2 s2.heap.objs.size (.lst [])) b/\b<l7.objs.size:=fun b hb=>⟨⟨BB b hb,(f2 b hb).2⟩,by rw[Ky];exact gk (CG b hb)⟩;have I4:=Zf (ts:=ts) (t':=s2.toks+([]:List (Str×Value)).length) I3 kF BC vS Ga f3 AQ kp;have MY:tn 0 h₁:=T.keep _ _ _ JM fun b hb o e=>kp b o (LP b o e);have loop:codeAny (model X.prog X.w) X.A (.compLoop (.ListComp wJ [⟨eM,iter,vB,0⟩] scope pos) 0 (.ref it) (.ref s2.heap.objs.size) (compEnvC scope cl l7.objs.size X.env))
      (compPost (model X.prog X.w) X.A X.xe (some (assign (.Name y py) X.env)) (fun _ s'=>SP X ah D .next s') (.ref s2.heap.objs.size) l7.objs.size) {s2 with heap:=h₁,toks:=s2.toks+([]:List (Str×Value)).length}:=by
    refine Wx (fun n s'=>∃i τ H',Inv (sM X scope cl (ts++fr.map (·.1)) fp {s2 with heap:=l7} (aH H2 s2.heap.objs.size (.lst []))) [] τ H' s'/\tn i s'.heap/\(∀b∈fp,H' b=none)/\W i n τ H') ?_ m0 ⟨0,_,_,I4,MY,BB,w0⟩;rintro n s5 ⟨i,τ,H5,I5,z8,DV,w5⟩;have mO:∀{H':Hp},(∀b∈fp,H' b=none)->∀b∈fp,rP (sM X scope cl (ts++fr.map (·.1)) fp {s2 with heap:=l7} (aH H2 s2.heap.objs.size (.lst []))) [] H' b:=
      fun hn b hb=>⟨hn b hb,(I5.ok.F5 b hb).1,I5.ok.xS b hb,.inl hb,(I5.ok.F5 b hb).2,fun p hp=>absurd (show p∈([]:List (Addr×Obj))from hp) (by simp)⟩;rcases sJ i n τ H5 w5 with⟨stop,qn⟩ |⟨go,Nn,hN,step⟩
    · refine eJ (T.done (sM X scope cl (ts++fr.map (·.1)) fp {s2 with heap:=l7} (aH H2 s2.heap.objs.size (.lst []))) rfl rfl rfl qH i [] s5 τ H5 _ I5 (mO DV) z8 stop) fun r s6⟨hr,I6⟩=>?_;subst hr;have Du:∀b o,l7.get? b=some o->b≠l7.objs.size:=fun b o e=>bq (Heap.lt_size e);have I7:Inv X ah σ H5 s6:=by refine I3.Bt (s':=s6) (ch:=fp) I6.os ⟨fun b o e n hb hx=>I6.base.keep b o e n hb hx,fun b o e n hb hx=>I6.base.slot b o e n hb hx,I6.base.free,fun b o e hx=>I6.base.there b o e hx,I6.base.rA,I6.base.mV,I6.base.rj⟩ I6.eB I6.bare (fun b hb=>?_);exact⟨(f2 b hb).2.2.2.1,(f2 b hb).2.1,(f2 b hb).2.2.2.2.1,(f2 b hb).2.2.2.2.2⟩
      have lC:X.env.locals≠l7.objs.size:=by obtain⟨_,⟨o,_,_,ho,_⟩,_⟩:=I3.loc;exact Du _ o ho
      have cC:∀x c,X.env.cells.lookup x=some c->c≠l7.objs.size:=fun x c e=>by obtain⟨v,o,ho,_⟩:=I3.cell x c e;exact Du _ o ho
      have fC:H5 l7.objs.size=none:=I6.free;obtain⟨m,hn,_⟩:=I6.loc;show wpAny _ _ (assign (.Name y py) X.env (.ref s2.heap.objs.size)) _ _ _;refine wpAny_assign_Name (Yu I7 hN QD hy (v:=.ref s2.heap.objs.size) rfl (fun s8 I8 hsb=>?_) hf);obtain⟨al,QY,hal⟩:=hsb;have alC:l7.objs.size≠al:=by
        rcases hal with z|z
        · rw[z];exact d8 lC
        · exact d8 (cC _ _ z)
      have QY:Heap.SameBut al s6.heap s8.heap:=QY;have hnC:s6.heap.Ns l7.objs.size m:=hn;refine⟨m,hnC.sameBut QY alC,fun h' uh=>⟨σ.set i0 (some (.ref s2.heap.objs.size)),H5,?_,qn⟩⟩;have uh:Heap.SameBut l7.objs.size s8.heap h':=uh;refine I8.Bt (s':={s8 with heap:=h'}) (ch:=[l7.objs.size]) rfl ⟨fun b o e n hb hx=>?_,fun b o e n hb hx=>?_,fun b o e n hx=>n,fun b o e hx=>?_,fun _ _ q=>q,fun _ _ _ q=>q,fun b ps q=>⟨#[],by rw[q];simp⟩⟩ (fun b ob e=>?_) I8.bare (fun b hb=>?_)
      · exact(uh.2 b (fun z=>hx (by simp[z]))).trans e
      · exact⟨o.slots,(uh.2 b (fun z=>hx (by simp[z]))).trans e⟩
      · exact⟨o,(uh.2 b (fun z=>hx (by simp[z]))).trans e⟩
      · refine(I8.eB b ob e).iM (fun c v hc q=>(uh.2 c ?_).trans q) (fun _ q=>q) fun _ _ q=>q;intro z;rcases hc with w|w
        · rw[<-w,z,fC]at e;cases e
        · rw[z,fC]at w;cases w
      · have z:b=l7.objs.size:=by simpa using hb
        subst z;refine⟨.inr (bO (bO I2.sz (by rw[Ky];exact iq _)) (aq _)),d8 lC,cC,fun p hp e=>?_⟩;obtain⟨q1,_⟩:=I3.pin p hp;exact Du _ _ q1 e
    · refine eJ (T.item (sM X scope cl (ts++fr.map (·.1)) fp {s2 with heap:=l7} (aH H2 s2.heap.objs.size (.lst []))) rfl rfl rfl qH i [] s5 τ H5 _ I5 (mO DV) z8 go) fun r s6⟨u,hr,h6⟩=>?_;subst hr;refine eJ h6 fun _ s7⟨x,H7,I7,r7,y7,JN,Qh⟩=>?_;have PB:=I7.pinned (mO Qh) (T.obj _ _ JN);refine wpAny_mono (hg fp _ _ _ s7 τ H7 x u _ PB r7 (step x H7 y7)) (fun _ s8⟨τ8,H8,I8,q8⟩=>?_) fun _ _ z=>bE z;have again:∀{τ9:St}{H9:Hp}{s9:Shared},Inv (sM X scope cl (ts++fr.map (·.1)) fp {s2 with heap:=l7} (aH H2 s2.heap.objs.size (.lst []))) ([]++Io fp s7.heap) τ9 H9 s9->Nn τ9 H9->
          ∃m,m<n/\∃i τ H',Inv (sM X scope cl (ts++fr.map (·.1)) fp {s2 with heap:=l7} (aH H2 s2.heap.objs.size (.lst []))) [] τ H' s9/\tn i s9.heap/\(∀b∈fp,H' b=none)/\W i m τ H':=fun{τ9 H9 s9} I9 n9=>by
        obtain⟨m',hm,w9⟩:=hN τ9 H9 n9;refine⟨m',hm,i+1,τ9,H9,I9.i7,T.keep _ _ _ JN fun b hb o e=>(I9.pin (b,o) (aI _ (aI _ (Fv hb e)))).1,fun b hb=>?_,w9⟩;obtain⟨o,e,d⟩:=T.obj _ _ JN b hb;exact(I9.pin (b,o) (aI _ (aI _ (Fv hb e)))).2.1
      refine wpAny_mono (hc fp _ _ _ s8 τ8 H8 _ I8 q8) (fun ok s9⟨H9,I9,q9⟩=>?_) fun _ _ z=>bE z;cases ok with
      |false=>exact again I9 q9
      |true=>
        refine wpAny_mono (he fp _ _ _ s9 τ8 H9 _ I9 q9) (fun y RM⟨v,Pw,Py,rv,ys,hD,hl,qN⟩=>?_) fun _ _ z=>bE z;refine wpAny_mono (Ii (X:=sM X scope cl (ts++fr.map (·.1)) fp {s2 with heap:=l7} (aH H2 s2.heap.objs.size (.lst []))) _ RM τ8 Pw (.ref s2.heap.objs.size) [v] (.ref s2.heap.objs.size) [y] (fun _ H=>Nn τ8 H) Py rfl (.cons rv .nil) ⟨_,ys,v,rfl,rfl,hD,hl,qN⟩) (fun _ s11⟨_,H11,Pz,_,Rv⟩=>again Pz Rv) fun _ _ z=>bE z
  exact codeAny_compStart_list loop (T.self X.A 0 _ _ _ MY loop)
theorem Pe{i0:Nat}{y:Str}{py EO:Pos}{wJ eM iter:Expr}{vB:List Expr}{scope:Scope}{pos:Pos}{cl:List (Str×Addr)}(ts:List Str)(fr:List (Str×Nat)){wi:TI}{g:TG}{tc:TT}{te:TE}(qH:X.calm=true)(uJ:closureFor scope X.env=pure cl)(pA:∀y∈scope.names,y.2≠.cell)(kF:scope.kind= .function)(pR:∀y∈scope.names,y.2= .local->scope.names.lookup y.1=some .local)(BC:Cr X.env cl)(vS:Bu (relabel scope X.env).names cl=true)(Ga:xB X (relabel scope X.env) fr)(hi:PI X eM iter wi)(hg:∀fp s H,PG (sM X scope cl (ts++fr.map (·.1)) fp s H) eM g)(hc:∀fp s H,Cy (sM X scope cl (ts++fr.map (·.1)) fp s H) vB tc)(he:∀fp s H,PE (sM X scope cl (ts++fr.map (·.1)) fp s H) wJ te)(Q2:swapsWith (.ListComp wJ [⟨eM,iter,vB,0⟩] scope pos) (some (.Name y py)) EO.line X.env=pure true)(hN:X.N.Nodup)(QD:X.N[i0]?=some y)(hy:Loc X.env.scope y)(hs:∀x,foldedSetIterable iter X.env x=pure x:=by intro _;rfl)(hf:X.fn y=true\/X.env.scope.names.lookup y=some .local:=by first|exact .inl rfl|exact .inr rfl|assumption):
    PS X (.Assign [.Name y py] (.ListComp wJ [⟨eM,iter,vB,0⟩] scope pos) EO) (wu (wZ ts.length fr wi g tc te) (nH i0)):=
  Sm qH uJ pA kF pR BC.get (fun x q=>YI vS x q) Ga hi hg hc he Q2 hN QD hy hs hf
end
theorem Eg{P:Program}{w:World}{k:Key}{u:Value}(h:(mw P w).is k u=true):RelV (kV k) u:=by
 rcases Ft h with⟨i,t,rfl,rfl⟩ |⟨x,t,rfl,rfl⟩
 ·exact⟨t,rfl⟩
 ·exact⟨t,rfl⟩
theorem YO{P:Program}{w:World}:∀{kvs:List (Key×V)}{vs:List (Key×Value)}{us:List Value},KV kvs vs->us.length=vs.length->(∀(j:Nat)(v:Value),us[j]?=some v->∃k x,vs[j]?=some (k,x)/\(mw P w).is k v=true)->b8 (kvs.map fun kv=>kV kv.1) us
 |_,_,[],Paired.nil,_,_=>.nil
 |_,_,_::_,Paired.nil,e,_=>by cases e
 |_,_,[],Paired.cons _ _,e,_=>by cases e
 |_,_,u::us,Paired.cons (a:=p) (b:=q) h t,e,hj=>by
  obtain⟨k,x,h1,h2⟩:=hj 0 u rfl;have h1:q=(k,x):=by simpa using h1
  subst h1;have e1:p.1=k:=h.1;refine .cons ?_ (YO t (by simpa using e) fun j v hv=>hj (j+1) v (by simpa using hv));show RelV (kV p.1) u;rw[e1];exact Eg h2
def Ms:List V->Hp->VK->Prop:=fun xs H Q=>∃a kvs,xs=[.ref a]/\H a=some (.dK kvs)/\∀l,H l=none->Q (.ref l) (aH H l (.lst (kvs.map fun kv=>kV kv.1)))
section
variable{X:Cx}
theorem Yk(hc:X.calm=true):lT X (.type "list") Ms:=by
 intro ah s σ H xs us Q I r h;obtain⟨a,kvs,rfl,ha,q⟩:=h;obtain⟨u,rfl,ru⟩:=r.one;cases ru
 obtain⟨z,hd,vs,jJ,o,es,ep,d1⟩:=uH I.eB ha;refine PySem.W.kdl_call (PySem.W.kdl_dict (knd:=mw X.prog X.w) (kvs:=vs) (ep:=ep) hd) (I.ok.hd hc) ⟨o,es,d1⟩ (by rw[<-jJ.length];exact z) fun h' tk G9 c hk hD it=>?_;have hv:b8 (kvs.map fun kv=>kV kv.1) G9.toList:=YO jJ (by rw[kP];exact it.1) fun j v e=>it.2 j v (by rw[<-oq];exact e);have new:fJ X.prog X.w (aH H s.heap.objs.size (.lst (kvs.map fun kv=>kV kv.1))) h' s.heap.objs.size (.lst (kvs.map fun kv=>kV kv.1)):=⟨by rw[ae];exact z,G9.toList,c,hv,by rw[Array.toArray_toList];exact hD⟩;exact⟨.ref s.heap.objs.size,_,I.laid hk (aq _) new,rfl,q _ I.fresh⟩
end
section
variable{X:Cx}{ah:List (Addr×Obj)}{σ:St}{H:Hp}{s:Shared}{a:Addr}{kvs:List (Key×V)}{o:Obj}
theorem Inv.frozen(I:Inv X ah σ H s)(h:H a=some (.dK kvs))(ho:s.heap.get? a=some o):Inv X ah σ (aH H a (.jm o (.dK kvs))) s:=by
 have ne:∀b,H b=none->b≠a:=fun b n z=>by rw[z,h]at n;cases n
 have nt:∀b u,H b=some u->(∀k,u≠.dK k)->b≠a:=fun b u e n z=>by rw[z,h]at e;cases e;exact n _ rfl
 have up:∀b u,H b=some u->(∀k,u≠.dK k)->aH H a (.jm o (.dK kvs)) b=some u:=fun b u e n=>by rw[dj (nt b u e n)];exact e
 have eB:lV X.prog X.w (aH H a (.jm o (.dK kvs))) s.heap:=fun b ob e=>by
  by_cases hb:b=a
  ·subst hb;rw[bR]at e;cases e
   exact⟨ho,(I.eB b _ h).iM (fun _ _ _ q=>q) (fun c q=>up c _ q (by intro k z;cases z)) fun c xs q=>up c _ q (by intro k z;cases z)⟩
  ·rw[dj hb]at e;exact(I.eB b _ e).iM (fun _ _ _ q=>q) (fun c q=>up c _ q (by intro k z;cases z)) fun c xs q=>up c _ q (by intro k z;cases z)
 exact I.step (g':=s.gens) (d':=s.drawn) (t':=s.toks) (ch:=[]) (fun _ z=>nomatch z) (fun b o' _ _ _ e _=>e) (fun b o' _ _ _ e _=>⟨o'.slots,e⟩) (fun b o' _ _ n=>by rw[dj (ne b n)];exact n) (fun b o' _ e=>⟨o',e⟩)
  (fun b xs q=>up b _ q (by intro k z;cases z)) (fun b o' u q=>up b _ q (by intro k z;cases z)) (fun b ps q=>⟨#[],by rw[up b _ q (by intro k z;cases z)];simp⟩) (fun m q=>q) eB I.bare
theorem Inv.Bc(I:Inv X ah σ H s)(h:H a=some (.jm o (.dK kvs)))(n0:∀o u,X.H₀ a≠some (.jm o u)):Inv X ah σ (aH H a (.dK kvs)) s:=by
 have ne:∀b,H b=none->b≠a:=fun b n z=>by rw[z,h]at n;cases n
 have un:∀b,H b=none->aH H a (.dK kvs) b=none:=fun b n=>by rw[dj (ne b n)];exact n
 have nt:∀b u,H b=some u->(∀k v,u≠.jm k v)->aH H a (.dK kvs) b=some u:=fun b u e n=>by
  have:b≠a:=fun z=>by rw[z,h]at e;cases e;exact n _ _ rfl
  rw[dj this];exact e
 have eB:lV X.prog X.w (aH H a (.dK kvs)) s.heap:=fun b ob e=>by
  by_cases hb:b=a
  ·subst hb;rw[bR]at e;cases e
   exact(I.eB b _ h).2.iM (fun _ _ _ q=>q) (fun c q=>nt c _ q (by intro k v z;cases z)) fun c xs q=>nt c _ q (by intro k v z;cases z)
  ·rw[dj hb]at e;exact(I.eB b _ e).iM (fun _ _ _ q=>q) (fun c q=>nt c _ q (by intro k v z;cases z)) fun c xs q=>nt c _ q (by intro k v z;cases z)
 refine⟨I.ok,I.os,I.bare,⟨I.base.keep,I.base.slot,fun b o' e n hx=>un b (I.base.free b o' e n hx),I.base.there,fun b xs q=>nt b _ (I.base.rA b xs q) (by intro k v z;cases z),fun b o' u q=>?_,fun b ps q=>?_⟩,I.loc,I.cell,un _ I.free,fun x c e=>un _ (I.kD x c e),fun p hp=>?_,eB,I.len⟩
 ·have hb:b≠a:=fun z=>n0 o' u (by rw[<-z];exact q);rw[dj hb];exact I.base.mV b o' u q
 ·obtain⟨m,e⟩:=I.base.rj b ps q;exact⟨m,nt b _ e (by intro k v z;cases z)⟩
 ·obtain⟨e,n,r⟩:=I.pin p hp;exact⟨e,un _ n,r⟩
end
def U9(a:Addr)(o:Obj)(kvs:List (Key×V)):It:=
 ⟨fun i H=>i<kvs.length/\H a=some (.jm o (.dK kvs)),fun i H x H'=>H'=H/\∃kv,kvs[i]?=some kv/\x=kV kv.1,fun i H=>kvs.length<=i/\H a=some (.jm o (.dK kvs))⟩
theorem zwd{P:Program}{w:World}{K:aa}{tg:Expr}(a it:Addr){o:Obj}{kvs:List (Key×V)}{vs:List (Key×Value)}{es:Array DictEntry}{ep:Nat}(jJ:KV kvs vs)(ho:o.ExactDict/\o.data= .dict es ep/\KeysOf (mw P w) es/\Pairs (mw P w) es.toList vs/\(vs.map (·.1)).Nodup):vQ P w K tg (U9 a o kvs) [it] it (fun i h=>h.IsKeyIter it a i vs.length ep) where
  mem:=by simp
  obj:=fun i h st b hb=>by
    have e:b=it:=by simpa using hb
    subst e;obtain⟨o,e,c,d⟩:=st;exact⟨o,e,fun v z=>by rw[d]at z;cases z⟩
  keep:=fun i h h' st k=>by obtain⟨o,e,c⟩:=st;exact⟨o,k it (by simp) o e,c⟩
  item:=by
    intro X hP hw hK hc i ah s σ H E I hf st hg;subst hP hw hK;obtain⟨hi,hz⟩:=hg;obtain⟨f0,f1,f2,f3,f4,f5⟩:=hf it (by simp);have j3:kvs[i]?=some (kvs[i]'hi):=aU _;have BE:i<vs.length:=by rw[<-jJ.length];exact hi
    have hv:vs[i]?=some (vs[i]'BE):=aU _;have hk:(kvs[i]'hi).1=(vs[i]'BE).1:=by
      have:=jJ.keys;have e1:(kvs.map (·.1))[i]?=some (kvs[i]'hi).1:=by rw[aK,j3];rfl
      have e2:(vs.map (·.1))[i]?=some (vs[i]'BE).1:=by rw[aK,hv];rfl
      rw[this,e2]at e1;exact(ak e1).symm
    have da:s.heap.DictAt (mw X.prog X.w) a vs ep:=⟨o,es,(I.eB a _ hz).1,ho⟩;refine wpAny_pyNext_dict_item (v:=(vs[i]'BE).2) st da hv fun key h' D7 yh sb=>?_;have I1:Inv X ah σ H {s with heap:=h'}:=I.turned (t':=s.toks) (fun b o hb e=>(sb.2 b hb).trans e) f0 f1 f3 f4 f5;obtain⟨oi,e,c,d⟩:=id yh;exact⟨key,rfl,wL (s:={s with heap:=h'}) e c d (by decide) ⟨kV (kvs[i]'hi).1,H,I1,by rw[hk];exact Eg D7,⟨rfl,_,j3,rfl⟩,yh,fun b hb=>(hf b hb).1⟩⟩
  done:=by intro X hP hw hK hc i ah s σ H E I hf st hg;subst hP hw hK;obtain⟨hi,hz⟩:=hg;obtain⟨f0,f1,f2,f3,f4,f5⟩:=hf it (by simp);have da:s.heap.DictAt (mw X.prog X.w) a vs ep:=⟨o,es,(I.eB a _ hz).1,ho⟩;exact wpAny_pyNext_dict_end (I.ok.hd hc) st da (fT (by rw[<-jJ.length];exact hi)) fun h' eb=>⟨rfl,I.turned (t':=s.toks) (fun b o hb e=>eb b o hb e) f0 f1 f3 f4 f5⟩
  self:=fun _ _ _ _ _ st h=>wpAny_pyIter_keyiter st h
def M8(tl:TE)(g:TG)(tb:TS):TS:=fun D σ H=>tl σ H fun x H1=>∃a kvs,x= .ref a/\H1 a=some (.dK kvs)/\∀o,∃W:Nat->Nat->St->Hp->Prop,(∃m,W 0 m σ (aH H1 a (.jm o (.dK kvs))))/\∀i m σ H,W i m σ H->
 H a=some (.jm o (.dK kvs))/\((kvs.length<=i/\D.nx σ (aH H a (.dK kvs)))\/(∃kv,kvs[i]?=some kv/\∃N:St->Hp->Prop,(∀σ' H',N σ' H'->∃m',m' < m/\W (i+1) m' σ' H')/\g (kV kv.1) σ H fun σ2 H2=>tb {D with nx:=N,ct:=N,bk:=fun _ _=>False} σ2 H2))
section
variable{X:Cx}{tg:Expr}
theorem Sn{iter:Expr}{body:List Stmt}{tl:TE}{g:TG}{tb:TS}{pos:Pos}(hp:PassesOwn (model X.prog X.w) X.A X.env X.xe)(hc:X.calm=true)(hl:PE X iter tl)(hg:PG X tg g)(hb:ud X body tb)(hs:∀x,foldedSetIterable iter X.env x=pure x:=by intro _;rfl):PS X (.For tg iter body [] pos) (M8 tl g tb):=by
  intro ah s σ H D I h;refine wpAny_For (eJ (hl ah s σ H _ I h) fun v s1⟨x,H1,I1,r1,a,kvs,ex,ha,kE⟩=>?_) hs;subst ex;obtain rfl:v=Value.ref a:=r1;obtain⟨z,hd,vs,jJ,o,es,ep,ho,hx⟩:=uH I1.eB ha;refine wpAny_pyIter_dict (knd:=mw X.prog X.w) hd ⟨o,es,ho,hx⟩ ?_;obtain⟨W,⟨m0,w0⟩,sJ⟩:=kE o;have n0:∀o u,X.H₀ a≠some (.jm o u):=fun o' u e=>by have:=I1.base.mV a o' u e;rw[ha]at this;cases this
  have fresh:H1 s1.heap.objs.size=none:=I1.eB.fresh (aq _);have IW:=I1.zj (aq _) fresh;have na:s1.heap.objs.size≠a:=fun y=>by rw[y,ha]at fresh;cases fresh
  have I2:Inv X ah σ (aH H1 a (.jm o (.dK kvs))) {s1 with heap:=s1.heap.push {cls:=.type "dict_keyiterator",data:=.fields #[.ref a,.int 0 0,.int vs.length 0,.int ep 0]}}:=
    (I1.kept (t':=s1.toks) fun b o e=>Heap.get?_push_of_some _ e).frozen ha (Heap.get?_push_of_some _ ho);have T:vQ X.prog X.w X.K tg (U9 a o kvs) [s1.heap.objs.size] s1.heap.objs.size (fun i h=>h.IsKeyIter s1.heap.objs.size a i vs.length ep):=zwd a _ jJ hx;have mO:∀{H':Hp},H' s1.heap.objs.size=none->∀b∈[s1.heap.objs.size],rP X ah H' b:=fun hn b hb=>by
    have e:b=s1.heap.objs.size:=by simpa using hb
    subst e;exact⟨hn,IW.2⟩
  refine codeAny_forLoop_any (fun n s'=>∃i σ' H',Inv X ah σ' H' s'/\s'.heap.IsKeyIter s1.heap.objs.size a i vs.length ep/\H' s1.heap.objs.size=none/\W i n σ' H') ?_ m0 ⟨0,σ,_,I2,⟨_,Heap.get?_push_size _ rfl,rfl,rfl⟩,by rw[dj na];exact fresh,w0⟩;rintro n s3 ⟨i,σ3,H3,I3,HV,BB,w3⟩;obtain⟨hz,cs⟩:=sJ i n σ3 H3 w3;rcases cs with⟨stop,qn⟩ |⟨kv,j3,N,hN,step⟩
  · refine wpAny_passesOwn hp (eJ (T.done X rfl rfl rfl hc i ah s3 σ3 H3 X.xe I3 (mO BB) HV ⟨stop,hz⟩) fun r s4⟨hr,I4⟩=>?_);subst hr;exact wpAny_execs_nil ⟨σ3,_,I4.Bc hz n0,qn⟩
  · refine wpAny_passesOwn hp (eJ (T.item X rfl rfl rfl hc i ah s3 σ3 H3 X.xe I3 (mO BB) HV ⟨(aD.mp j3).1,hz⟩) fun r s4⟨u,hr,h4⟩=>?_);subst hr;refine wpAny_passesOwn hp (eJ h4 fun _ s5⟨x,H5,I5,r5,⟨eH,kv',D8,ex⟩,z8,DV⟩=>?_);subst eH;rw[j3]at D8;cases D8
    subst ex;have K2:=I5.pinned (mO (DV _ (by simp))) (T.obj _ _ z8);refine wpAny_passesOwn hp (eJ (hg _ s5 σ3 H5 _ u _ K2 r5 step) fun _ s6⟨σ6,H6,I6,q6⟩=>?_);refine wpAny_passesOwn hp (eJ (hb _ s6 σ6 H6 _ I6 q6) fun f s7 q7=>?_);have again:∀{σ7:St}{H7:Hp},Inv X (ah++Io [s1.heap.objs.size] s5.heap) σ7 H7 s7->N σ7 H7->∃m,m<n/\∃i σ' H',Inv X ah σ' H' s7/\s7.heap.IsKeyIter s1.heap.objs.size a i vs.length ep/\H' s1.heap.objs.size=none/\W i m σ' H':=fun{σ7 H7} I7 n7=>by obtain⟨m',hm,w7⟩:=hN σ7 H7 n7;refine⟨m',hm,i+1,σ7,H7,I7.i7,T.keep _ _ _ z8 fun b hb o e=>(I7.pin (b,o) (aI _ (aI _ (Fv hb e)))).1,?_,w7⟩;obtain⟨o,e,d⟩:=T.obj _ _ z8 s1.heap.objs.size (by simp);exact(I7.pin (_,o) (aI _ (aI _ (Fv (by simp) e)))).2.1
    cases f with
    |next=>obtain⟨σ7,H7,I7,n7⟩:=q7;exact again I7 n7
    |cont=>obtain⟨σ7,H7,I7,n7⟩:=q7;exact again I7 n7
    |brk=>obtain⟨σ7,H7,I7,q7⟩:=q7;exact bE q7
    |ret v=>obtain⟨x7,σ7,H7,I7,r7,q7⟩:=q7;exact⟨x7,σ7,H7,I7.i7,r7,q7⟩
end
theorem zyb{a:Addr}{kvs:List (Key×V)}{o:Obj}{g:TG}{tb:TS}{D:Ends}{σ:St}{H:Hp}(Pv:Nat->St->Hp->Prop)(h0:Pv 0 σ H)(hz:∀i σ H,i<=kvs.length->Pv i σ H->H a=some (.jm o (.dK kvs)))(hs:∀i kv σ H,kvs[i]?=some kv->Pv i σ H->g (kV kv.1) σ H fun σ2 H2=>tb {D with nx:=Pv (i+1),ct:=Pv (i+1),bk:=fun _ _=>False} σ2 H2)(hd:∀σ H,Pv kvs.length σ H->D.nx σ (aH H a (.dK kvs))):
    ∃W:Nat->Nat->St->Hp->Prop,(∃m,W 0 m σ H)/\∀i m σ H,W i m σ H->
      H a=some (.jm o (.dK kvs))/\((kvs.length<=i/\D.nx σ (aH H a (.dK kvs)))\/(∃kv,kvs[i]?=some kv/\∃N:St->Hp->Prop,(∀σ' H',N σ' H'->∃m',m' < m/\W (i+1) m' σ' H')/\g (kV kv.1) σ H fun σ2 H2=>tb {D with nx:=N,ct:=N,bk:=fun _ _=>False} σ2 H2)):=by
  refine⟨fun i m σ H=>m=kvs.length-i/\i<=kvs.length/\Pv i σ H,⟨kvs.length,by simp,bW _,h0⟩,?_⟩;rintro i m σ H ⟨rfl,hi,p⟩;refine⟨hz i σ H hi p,?_⟩;by_cases jT:i<kvs.length
  · exact .inr ⟨kvs[i],by simp[jT],Pv (i+1),fun σ' H' p'=>⟨kvs.length-(i+1),by omega,rfl,jT,p'⟩,hs i _ σ H (by simp[jT]) p⟩
  · have e:i=kvs.length:=by omega
    subst e;exact .inl ⟨aq _,hd σ H p⟩
structure G2(K:aa)(C:Addr)(m:Str)(f:Addr):Prop where
 mc:∃mc,E8 K C mc=true/\E6 K (.ref C) mc m=some (.val (.ref f))
 ga:jg K (.ref C) "__getattribute__"=some (some (.builtin "type.__getattribute__"))
 kp:br K (.ref f)=true
structure DR(K:aa)(C:Addr)(m dQ:Str)(st:Stmt)(ps:List Str):Prop where
 ex:∃(f:Addr)(fd:FuncData),FD K m dQ st f fd/\G2 K C m f/\lA K fd ps []
structure NU(P:Program)(w:World)(K:aa)(mg:Str->Option Value)(base:Heap)(CX:vy)(k:Nat)(C:Addr)(m:Str)(ps:List Str)(sp:Sp):Prop where
 ex:∃(f:Addr)(fd:FuncData),rO P w K mg base CX k f fd ps sp/\G2 K C m f/\lA K fd ps []
section
variable{P:Program}{w:World}{K:aa}{mg:Str->Option Value}{base:Heap}{CX:vy}{C:Addr}{m dQ:Str}{st:Stmt}{N ps:List Str}{k:Nat}{sp:Sp}
theorem DR.okN(F:DR K C m dQ st ps)(S:aB N ps (dX st))(len:∀vs H Q E,sp vs H Q E->vs.length=ps.length)(jC:∀(f:Addr)(b9:Value)(A:Around)(outer:List Env)(s:Shared)(H:Hp)(vs:List V)(Q:VK)(E:XK),gM k (A.deeper (envOfC dQ (dX st) s.heap.objs.size f b9))->sp vs H Q E->
      ∃t,ud (oQ CX P w K mg base N dQ (dX st) f b9 A outer s H E).Dv (rK st) t/\t {nx:=fun _ H'=>Q .b7 H',rt:=Q} (start N vs) H):NU P w K mg base CX (k+1) C m ps sp:=by
  obtain⟨f,fd,F,me,b⟩:=F.ex;obtain⟨oc,od,dV,kV,oR,pm,an,b9,ct,uZ,rfl,lk,tO⟩:=F.ex;exact⟨f,_,sU lk tO S len fun A outer s H vs Q E hr rH=>by obtain⟨t,h,q⟩:=jC f b9 A outer s H vs Q E hr rH;exact⟨t,h.Dv,q⟩,me,b⟩
end
def HW(sp:Sp)(Ek:XH)(t:TA):TE:=fun σ H Q=>t σ H fun vs H1=>sp vs H1 Q (fun v d H'=>Ek v d σ H')
section
variable{X:Cx}{CX:vy}{k:Nat}{C:Addr}{ps:List Str}{sp:Sp}{Ek:XH}{x m:Str}{p pos gC:Pos}{e:Expr}{es:List Expr}{t:TA}
theorem ZZ{pl:Sem Bool}(D:NU X.prog X.w X.K X.mg X.base CX k C m ps sp)(hr:gM k X.A)(hx:E1 CX X Ek)(hg:Gl X x)(hm:X.mg x=some (.ref C))(ha:PA X (e::es) t)(AN:(x ==("__debug__":Str))=false:=by decide)(Dt:starEach (e::es) X.env=(false,eval e X.env)::starEach es X.env:=by rfl)(Ak:(backTo pos (starEach es X.env)).any (·.1)=false:=by rfl)(ht:eval (.Call (.Attribute (.Name x p) m gC) (e::es) [] pos) X.env=(do
      let ov <-eval (.Name x p) X.env
      standAt gC.atName
      let(f,first) <-holding [ov] (getMethod ov m pl)
      callWith pos f first (backTo pos (starEach (e::es) X.env)) (backToKw pos (keywordEach [] X.env))):=by rfl):
    PE X (.Call (.Attribute (.Name x p) m gC) (e::es) [] pos) (HW sp Ek t):=by
  obtain⟨f,fd,F,cf,hb⟩:=D.ex;obtain⟨mc,h1,h2⟩:=cf.mc;intro ah s σ H Q I h;refine nE (pl:=pl) (JZ I hg hm ?_ AN) ht;refine PySem.W.method_cls I.oj cf.ga (PySem.W.cls_value I.oj h1 h2 rfl ?_);have I1:=I.tok (s.toks+1);refine iL (first:=[]) (h₀:=X.base) I.ok.mod.Gm cf.kp (eJ (ha pos ah _ σ H _ I1 h) fun us s2⟨vs,H2,I2,r,q2⟩=>⟨I2.oj,?_⟩) Dt Ak;exact UJ (cu:=[]) F hr hb hx I2 r (by rw[bw];exact q2)
end
section
variable{X:Cx}
theorem UZ(K:aa)(h:X.K=K):oH X (compareOp .In) (Ov K false):=h▸zvf
theorem YQ(K:aa)(h:X.K=K):oH X (compareOp .NotIn) (Ov K true):=h▸zpa
end
abbrev Nm:=List (Str×Int)
def kvsOf(nm:Nm):List (Key×V):=nm.map fun x=>((az x.1:Key),V.int x.2)
def aP(nm:Nm)(x:Str):Option Int:=(nm.find? fun p=>decide (p.1=x)).map (·.2)
def putN(nm:Nm)(x:Str)(s:Int):Nm:=nm.map fun p=>if p.1=x then(p.1,s)else p
theorem JY(nm:Nm):(kvsOf nm).length=nm.length:=ae _
theorem Fw(nm:Nm)(x:Str):gv (kvsOf nm) (az x:Key)=(aP nm x).map V.int:=by
 induction nm with
 |nil=>rfl
 |cons p r ih=>
  unfold gv kvsOf aP at ih⊢;rw[au,bH,bH];by_cases h:p.1=x
  ·simp[h]
  ·have h2:¬(az p.1:Key)=az x:=fun z=>h (fF z);simp only[decide_eq_false h,decide_eq_false h2];exact ih
theorem Zq{nm:Nm}{x:Str}{s:Int}(h:aP nm x=none):gu (kvsOf nm) (az x:Key) (.int s)=kvsOf (nm++[(x,s)]):=by
 unfold gu;have e:((kvsOf nm).any fun kv=>decide (kv.1=(az x:Key)))=false:=by rw[GS,Fw,h];rfl
 rw[e,if_neg (by decide)];unfold kvsOf;rw[aA];rfl
theorem Nu{nm:Nm}{x:Str}{s:Int}(h:aP nm x≠none):gu (kvsOf nm) (az x:Key) (.int s)=kvsOf (putN nm x s):=by
 unfold gu;have e:((kvsOf nm).any fun kv=>decide (kv.1=(az x:Key)))=true:=by
  rw[GS,Fw];cases q:aP nm x with
  |none=>exact absurd q h
  |some v=>rfl
 rw[e,if_pos rfl];unfold kvsOf putN;rw[bg,bg];refine aO fun p _=>?_;by_cases hp:p.1=x
 ·subst hp;simp
 ·have h2:¬(az p.1:Key)=az x:=fun z=>hp (fF z);simp[hp]
theorem GU{nm:Nm}{x y:Str}{s:Int}:aP (putN nm x s) y=if y=x then(aP nm y).map fun _=>s else aP nm y:=by
 induction nm with
 |nil=>unfold aP putN;simp
 |cons p r ih=>
  unfold aP putN at ih⊢;rw[au,bH,bH];by_cases hp:p.1=x
  ·rw[if_pos hp];by_cases hy:p.1=y
   ·simp[hy,hp▸hy.symm]
   ·simp only[decide_eq_false hy];exact ih
  ·rw[if_neg hp];by_cases hy:p.1=y
   ·have:¬y=x:=fun z=>hp (hy.trans z);simp[hy,this]
   ·simp only[decide_eq_false hy];exact ih
theorem KL{nm:Nm}{x y:Str}{s:Int}(h:aP nm x=none):aP (nm++[(x,s)]) y=if y=x then some s else aP nm y:=by
 unfold aP at h⊢;rw[FQ];by_cases hy:y=x
 ·subst hy;rw[if_pos rfl];cases q:nm.find? fun p=>decide (p.1=y)with
  |none=>simp
  |some v=>rw[q]at h;cases h
 ·rw[if_neg hy];have e:([(x,s)]:Nm).find? (fun p=>decide (p.1=y))=none:=by have:¬x=y:=fun z=>hy z.symm;simp[this]
  rw[e];simp
theorem Zr{nm:Nm}{x:Str}{s:Int}(h:aP nm x=some s):(x,s)∈nm:=by
 unfold aP at h;cases q:nm.find? fun p=>decide (p.1=x)with
 |none=>rw[q]at h;cases h
 |some v=>
  rw[q]at h;have e1:v.2=s:=ak h;have e2:v.1=x:=by simpa using oz q
  have:=iy q;rw[<-e1,<-e2];exact this
theorem XX{nm:Nm}{x:Str}{s:Int}(h:(x,s)∈nm):aP nm x≠none:=by
 unfold aP;intro z;have z:nm.find? (fun p=>decide (p.1=x))=none:=by simpa using z
 have:=sO.mp z _ h;simp at this
structure Mb(C:Addr)(H:Hp)(p gy:Addr)(nm:Nm):Prop where
 ex:∃dx fs,H p=some (.ins C dx fs)/\fs.lookup ("shares":Str)=some (.ref gy)/\(∀m:Str,¬m="shares"->fs.lookup m=none)/\fs.length<900
 hs:H gy=some (.dK (kvsOf nm))
theorem Mb.same{C:Addr}{H H':Hp}{p gy:Addr}{nm:Nm}(h:Mb C H p gy nm)(s:bI H H'):Mb C H' p gy nm:=by obtain⟨dx,fs,h1,h2⟩:=h.ex;exact⟨⟨dx,fs,s _ _ h1,h2⟩,s _ _ h.hs⟩
theorem Mb.put{C:Addr}{H:Hp}{p gy:Addr}{nm A0:Nm}(h:Mb C H p gy nm):Mb C (aH H gy (.dK (kvsOf A0))) p gy A0:=by obtain⟨dx,fs,h1,h2⟩:=h.ex;exact⟨⟨dx,fs,by rw[dj (cj h1 h.hs (by intro z;cases z))];exact h1,h2⟩,bR⟩
structure mG(H:Hp)(p:Addr)(f:Str->Option Rat)(n:Nat):Prop where
 ex:∃kvs,H p=some (.dK kvs)/\(∀x:Str,(f x=none/\gv kvs (az x:Key)=none)\/∃r q,f x=some r/\gv kvs (az x:Key)=some (.ref q)/\H q=some (.tup (fq r)))/\kvs.length<=n
theorem mG.keep{H H':Hp}{p:Addr}{f:Str->Option Rat}{n:Nat}(h:mG H p f n)(e:∀b o,b=p\/(∃xs,H b=some (.tup xs))->H b=some o->H' b=some o):mG H' p f n:=by
 obtain⟨kvs,h1,h2,h3⟩:=h.ex;refine⟨kvs,e _ _ (.inl rfl) h1,fun x=>?_,h3⟩;rcases h2 x with z|⟨r,q,a,b,c⟩
 ·exact .inl z
 ·exact .inr ⟨r,q,a,b,e _ _ (.inr ⟨_,c⟩) c⟩
theorem mG.same{H H':Hp}{p:Addr}{f:Str->Option Rat}{n:Nat}(h:mG H p f n)(s:bI H H'):mG H' p f n:=h.keep fun b o _ e=>s b o e
def gY(f:Str->Option Rat)(x:Str)(r:Rat):Str->Option Rat:=fun y=>if y=x then some r else f y
theorem mG.put{H:Hp}{p q:Addr}{f:Str->Option Rat}{n:Nat}{x:Str}{r:Rat}{kvs:List (Key×V)}(h1:H p=some (.dK kvs))(h2:∀x:Str,(f x=none/\gv kvs (az x:Key)=none)\/∃r q,f x=some r/\gv kvs (az x:Key)=some (.ref q)/\H q=some (.tup (fq r)))(h3:(gu kvs (az x:Key) (.ref q)).length<=n)(hq:H q=some (.tup (fq r))):mG (aH H p (.dK (gu kvs (az x:Key) (.ref q)))) p (gY f x r) n:=by
  have nt:∀b xs,H b=some (.tup xs)->aH H p (.dK (gu kvs (az x:Key) (.ref q))) b=some (.tup xs):=fun b xs e=>by rw[dj (cj e h1 (by intro z;cases z))];exact e
  refine⟨_,bR,fun y=>?_,h3⟩;rw[Zm];unfold gY;by_cases e:y=x
  · subst e;rw[if_pos rfl,if_pos rfl];exact .inr ⟨r,q,rfl,rfl,nt _ _ hq⟩
  · rw[if_neg e,if_neg (fun z=>e (fF z))];rcases h2 y with z|⟨r',q',a,b,c⟩
    · exact .inl z
    · exact .inr ⟨r',q',a,b,nt _ _ c⟩
structure FS(fs:List (Str×V))(most:Int)(pm:Addr)(ch:V)(pr pt pg:Addr):Prop where
 mo:fs.lookup ("most":Str)=some (.int most)
 me:fs.lookup ("members":Str)=some (.ref pm)
 ch:fs.lookup ("chosen":Str)=some ch
 re:fs.lookup ("reached":Str)=some (.ref pr)
 ta:fs.lookup ("tags":Str)=some (.ref pt)
 gr:fs.lookup ("greatest_steps":Str)=some (.ref pg)
 no:∀m:Str,¬m="most"->¬m="members"->¬m="chosen"->¬m="reached"->¬m="tags"->¬m="greatest_steps"->fs.lookup m=none
 len:fs.length<900
theorem eF{fs:List (Str×V)}{f g:Str}{v:V}(h:¬g=f):(aE f v fs).lookup g=fs.lookup g:=by rw[KC,if_neg h]
theorem pG{fs:List (Str×V)}{f:Str}{v:V}:(aE f v fs).lookup f=some v:=by rw[KC,if_pos rfl]
theorem FS.Jk(most:Int)(pm:Addr)(ch:V)(pr pt pg:Addr):FS (aE "greatest_steps" (.ref pg) (aE "tags" (.ref pt) (aE "reached" (.ref pr) (aE "chosen" ch (aE "members" (.ref pm) (aE "most" (.int most) [])))))) most pm ch pr pt pg:=by
 refine⟨?_,?_,?_,?_,?_,?_,fun m h1 h2 h3 h4 h5 h6=>?_,?_⟩
 ·rw[eF (by decide+kernel),eF (by decide+kernel),eF (by decide+kernel),eF (by decide+kernel),eF (by decide+kernel),pG]
 ·rw[eF (by decide+kernel),eF (by decide+kernel),eF (by decide+kernel),eF (by decide+kernel),pG]
 ·rw[eF (by decide+kernel),eF (by decide+kernel),eF (by decide+kernel),pG]
 ·rw[eF (by decide+kernel),eF (by decide+kernel),pG]
 ·rw[eF (by decide+kernel),pG]
 ·rw[pG]
 ·rw[eF h6,eF h5,eF h4,eF h3,eF h2,eF h1];rfl
 ·have a1:=ki (fs:=[]) (f:="most") (v:=.int most);have a2:=ki (fs:=aE "most" (.int most) []) (f:="members") (v:=.ref pm);have a3:=ki (fs:=aE "members" (.ref pm) (aE "most" (.int most) [])) (f:="chosen") (v:=ch);have a4:=ki (fs:=aE "chosen" ch (aE "members" (.ref pm) (aE "most" (.int most) []))) (f:="reached") (v:=.ref pr);have a5:=ki (fs:=aE "reached" (.ref pr) (aE "chosen" ch (aE "members" (.ref pm) (aE "most" (.int most) [])))) (f:="tags") (v:=.ref pt);have a6:=ki (fs:=aE "tags" (.ref pt) (aE "reached" (.ref pr) (aE "chosen" ch (aE "members" (.ref pm) (aE "most" (.int most) []))))) (f:="greatest_steps") (v:=.ref pg);simp only[bU]at a1;omega
theorem FS.A2{fs:List (Str×V)}{most:Int}{pm:Addr}{ch ch':V}{pr pt pg:Addr}(h:FS fs most pm ch pr pt pg):FS (aE "chosen" ch' fs) most pm ch' pr pt pg:=by
 refine⟨?_,?_,pG,?_,?_,?_,fun m h1 h2 h3 h4 h5 h6=>?_,?_⟩
 ·rw[eF (by decide+kernel)];exact h.mo
 ·rw[eF (by decide+kernel)];exact h.me
 ·rw[eF (by decide+kernel)];exact h.re
 ·rw[eF (by decide+kernel)];exact h.ta
 ·rw[eF (by decide+kernel)];exact h.gr
 ·rw[eF h3];exact h.no m h1 h2 h3 h4 h5 h6
 ·rw[Ik h.ch];exact h.len
theorem FS.Jy{fs:List (Str×V)}{most:Int}{pm:Addr}{ch:V}{pr Kx pt pg:Addr}(h:FS fs most pm ch pr pt pg):FS (aE "reached" (.ref Kx) fs) most pm ch Kx pt pg:=by
 refine⟨?_,?_,?_,pG,?_,?_,fun m h1 h2 h3 h4 h5 h6=>?_,?_⟩
 ·rw[eF (by decide+kernel)];exact h.mo
 ·rw[eF (by decide+kernel)];exact h.me
 ·rw[eF (by decide+kernel)];exact h.ch
 ·rw[eF (by decide+kernel)];exact h.ta
 ·rw[eF (by decide+kernel)];exact h.gr
 ·rw[eF h4];exact h.no m h1 h2 h3 h4 h5 h6
 ·rw[Ik h.re];exact h.len
structure lz where
 p:Addr
 pm:Addr
 ps:Addr
 pt:Addr
 pg:Addr
structure Sx(C Cm:Addr)(H:Hp)(a:lz)(most:Int)(nm:Nm)(tg gs:Str->Option Rat)(ck:Rat)(ch:V)(N:Nat):Prop where
 ex:∃dx fs pr,H a.p=some (.ins C dx fs)/\FS fs most a.pm ch pr a.pt a.pg/\H pr=some (.tup (fq ck))
 mb:Mb Cm H a.pm a.ps nm
 dt:mG H a.pt tg N
 dg:mG H a.pg gs N
 nl:nm.length<=N
 n1:a.pt≠a.pg
 n2:a.pt≠a.ps
 n3:a.pg≠a.ps
 n4:a.p≠a.pm
theorem Sx.same{C Cm:Addr}{H H':Hp}{a:lz}{most:Int}{nm:Nm}{tg gs:Str->Option Rat}{ck:Rat}{ch:V}{N:Nat}(h:Sx C Cm H a most nm tg gs ck ch N)(s:bI H H'):Sx C Cm H' a most nm tg gs ck ch N:=by obtain⟨dx,fs,pr,h1,h2,h3⟩:=h.ex;exact⟨⟨dx,fs,pr,s _ _ h1,h2,s _ _ h3⟩,h.mb.same s,h.dt.same s,h.dg.same s,h.nl,h.n1,h.n2,h.n3,h.n4⟩
def lS(a:lz)(H H':Hp):Prop:=∀b o,b≠a.p->b≠a.ps->b≠a.pt->b≠a.pg->H b=some o->H' b=some o
theorem bI.own{a:lz}{H H':Hp}(s:bI H H'):lS a H H':=fun b o _ _ _ _ e=>s b o e
theorem lS.trans{a:lz}{H H1 H2:Hp}(x:lS a H H1)(y:lS a H1 H2):lS a H H2:=fun b o n1 n2 n3 n4 e=>y b o n1 n2 n3 n4 (x b o n1 n2 n3 n4 e)
def zC(st:Str->Rat)(x:Str):Option Str->Bool
 |none=>true
 |some y=>decide (st x<st y)
def g8(rd:Str->Bool)(st:Str->Rat):List Str->Option Str->Option Str
 |[],f=>f
 |x::r,f=>g8 rd st r (if(rd x && zC st x f)=true then some x else f)
theorem Nq{rd:Str->Bool}{st:Str->Rat}:∀{l:List Str}{f:Option Str}{x:Str},g8 rd st l f=some x->(x∈l/\rd x=true)\/f=some x
 |[],f,x,h=>.inr h
 |y::r,f,x,h=>by
  unfold g8 at h;rcases Nq h with⟨a,b⟩ |z
  ·exact .inl ⟨ai _ a,b⟩
  ·split at z
   ·rename_i c
    cases z;rw[fM]at c;exact .inl ⟨by simp,c.1⟩
   ·exact .inr z
theorem Uu{rd:Str->Bool}{st:Str->Rat}:∀{l:List Str}{f:Option Str},(f≠none\/∃x∈l,rd x=true)->g8 rd st l f≠none
 |[],f,h=>by
  rcases h with z|⟨x,hx,_⟩
  ·exact z
  ·cases hx
 |y::r,f,h=>by
  unfold g8;refine Uu ?_;by_cases c:(rd y && zC st y f)=true
  ·rw[if_pos c];exact .inl (by simp)
  ·rw[if_neg c];cases f with
   |some z=>exact .inl (by simp)
   |none=>
    rcases h with z|⟨x,hx,hr⟩
    ·exact absurd rfl z
    ·rcases ao.mp hx with e|e
     ·subst e;exact absurd (by rw[hr];rfl) c
     ·exact .inr ⟨x,e,hr⟩
theorem Yl{rd:Str->Bool}{st:Str->Rat}{x:Str}:∀{l:List Str}{f:Option Str},g8 rd st (l++[x]) f=(if(rd x && zC st x (g8 rd st l f))=true then some x else g8 rd st l f)
 |[],f=>rfl
 |y::r,f=>by show g8 rd st (r++[x]) _=_;rw[Yl];rfl
theorem mG.mono{H:Hp}{p:Addr}{f:Str->Option Rat}{n n':Nat}(h:mG H p f n)(l:n<=n'):mG H p f n':=by obtain⟨kvs,h1,h2,h3⟩:=h.ex;exact⟨kvs,h1,h2,by omega⟩
section
variable{C Cm:Addr}{H:Hp}{a:lz}{most:Int}{nm A0:Nm}{tg gs Wr Vn:Str->Option Rat}{ck:Rat}{ch:V}{N N':Nat}{k:List (Key×V)}
theorem Sx.HH(S:Sx C Cm H a most nm tg gs ck ch N)(le:N<=N')(d:mG (aH H a.pt (.dK k)) a.pt Wr N'):Sx C Cm (aH H a.pt (.dK k)) a most nm Wr gs ck ch N':=by
 obtain⟨dx,fs,pr,h1,h2,h3⟩:=S.ex;obtain⟨kvs,g1,_⟩:=S.dt.ex;obtain⟨dm,fm,m1,m2⟩:=S.mb.ex;have kp:∀b o,b≠a.pt->H b=some o->aH H a.pt (.dK k) b=some o:=fun b o n e=>by rw[dj n];exact e
 refine⟨⟨dx,fs,pr,kp _ _ (cj h1 g1 (by intro z;cases z)) h1,h2,kp _ _ (cj h3 g1 (by intro z;cases z)) h3⟩,⟨⟨dm,fm,kp _ _ (cj m1 g1 (by intro z;cases z)) m1,m2⟩,kp _ _ S.n2.symm S.mb.hs⟩,d,(S.dg.keep fun b o c e=>?_).mono le,by have:=S.nl;omega,S.n1,S.n2,S.n3,S.n4⟩;rcases c with z|⟨xs,z⟩
 ·subst z;exact kp _ _ S.n1.symm e
 ·exact kp _ _ (cj z g1 (by intro z;cases z)) e
theorem Sx.HG(S:Sx C Cm H a most nm tg gs ck ch N)(le:N<=N')(d:mG (aH H a.pg (.dK k)) a.pg Vn N'):Sx C Cm (aH H a.pg (.dK k)) a most nm tg Vn ck ch N':=by
 obtain⟨dx,fs,pr,h1,h2,h3⟩:=S.ex;obtain⟨kvs,g1,_⟩:=S.dg.ex;obtain⟨dm,fm,m1,m2⟩:=S.mb.ex;have kp:∀b o,b≠a.pg->H b=some o->aH H a.pg (.dK k) b=some o:=fun b o n e=>by rw[dj n];exact e
 refine⟨⟨dx,fs,pr,kp _ _ (cj h1 g1 (by intro z;cases z)) h1,h2,kp _ _ (cj h3 g1 (by intro z;cases z)) h3⟩,⟨⟨dm,fm,kp _ _ (cj m1 g1 (by intro z;cases z)) m1,m2⟩,kp _ _ S.n3.symm S.mb.hs⟩,(S.dt.keep fun b o c e=>?_).mono le,d,by have:=S.nl;omega,S.n1,S.n2,S.n3,S.n4⟩;rcases c with z|⟨xs,z⟩
 ·subst z;exact kp _ _ S.n1 e
 ·exact kp _ _ (cj z g1 (by intro z;cases z)) e
theorem Sx.zT(S:Sx C Cm H a most nm tg gs ck ch N)(le:N<=N')(ln:A0.length<=N'):Sx C Cm (aH H a.ps (.dK (kvsOf A0))) a most A0 tg gs ck ch N':=by
 obtain⟨dx,fs,pr,h1,h2,h3⟩:=S.ex;have g1:=S.mb.hs;have kp:∀b o,b≠a.ps->H b=some o->aH H a.ps (.dK (kvsOf A0)) b=some o:=fun b o n e=>by rw[dj n];exact e
 refine⟨⟨dx,fs,pr,kp _ _ (cj h1 g1 (by intro z;cases z)) h1,h2,kp _ _ (cj h3 g1 (by intro z;cases z)) h3⟩,S.mb.put,(S.dt.keep fun b o c e=>?_).mono le,(S.dg.keep fun b o c e=>?_).mono le,ln,S.n1,S.n2,S.n3,S.n4⟩
 ·rcases c with z|⟨xs,z⟩
  ·subst z;exact kp _ _ S.n2 e
  ·exact kp _ _ (cj z g1 (by intro z;cases z)) e
 ·rcases c with z|⟨xs,z⟩
  ·subst z;exact kp _ _ S.n3 e
  ·exact kp _ _ (cj z g1 (by intro z;cases z)) e
theorem Sx.wU{Vd:Rat}{ch':V}{dx Kx:Addr}{fs qp:List (Str×V)}(S:Sx C Cm H a most nm tg gs ck ch N)(h1:H a.p=some (.ins C dx fs))(ft:FS qp most a.pm ch' Kx a.pt a.pg)(h3:H Kx=some (.tup (fq Vd))):Sx C Cm (aH H a.p (.ins C dx qp)) a most nm tg gs Vd ch' N:=by
 obtain⟨dm,fm,m1,m2⟩:=S.mb.ex;have kp:∀b o,b≠a.p->H b=some o->aH H a.p (.ins C dx qp) b=some o:=fun b o n e=>by rw[dj n];exact e
 refine⟨⟨dx,qp,Kx,bR,ft,kp _ _ (cj h3 h1 (by intro z;cases z)) h3⟩,⟨⟨dm,fm,kp _ _ S.n4.symm m1,m2⟩,kp _ _ (cj S.mb.hs h1 (by intro z;cases z)) S.mb.hs⟩,S.dt.keep fun b o c e=>?_,S.dg.keep fun b o c e=>?_,S.nl,S.n1,S.n2,S.n3,S.n4⟩
 ·rcases c with z|⟨xs,z⟩
  ·obtain⟨kvs,g1,_⟩:=S.dt.ex;subst z;exact kp _ _ (cj g1 h1 (by intro z;cases z)) e
  ·exact kp _ _ (cj z h1 (by intro z;cases z)) e
 ·rcases c with z|⟨xs,z⟩
  ·obtain⟨kvs,g1,_⟩:=S.dg.ex;subst z;exact kp _ _ (cj g1 h1 (by intro z;cases z)) e
  ·exact kp _ _ (cj z h1 (by intro z;cases z)) e
end
theorem zP{a:lz}{H:Hp}{o:HO}:lS a H (aH H a.pt o):=fun b u n1 n2 n3 n4 e=>by rw[dj n3];exact e
theorem u4{a:lz}{H:Hp}{o:HO}:lS a H (aH H a.pg o):=fun b u n1 n2 n3 n4 e=>by rw[dj n4];exact e
theorem BN{a:lz}{H:Hp}{o:HO}:lS a H (aH H a.ps o):=fun b u n1 n2 n3 n4 e=>by rw[dj n2];exact e
theorem zO{a:lz}{H:Hp}{o:HO}:lS a H (aH H a.p o):=fun b u n1 n2 n3 n4 e=>by rw[dj n1];exact e
theorem HD:((0:Int):Rat) / ((1:Int):Rat)=0:=by have z0:((0:Int):Rat)=0:=rfl;rw[z0];grind
structure Iv(nm:Nm)(tg gs:Str->Option Rat)(ck:Rat)(D:Int)(n:Nat):Prop where
 d0:0<D
 dz:Sw.Sz (21*n+1) D
 cg:Sw.yx D ck
 c0:0<=ck
 cB:ck<=((n*2000000:Int):Rat)
 all:∀x s,aP nm x=some s->1<=s/\s<=1000000/\∃t g,tg x=some t/\gs x=some g/\Sw.yx D t/\Sw.yx D g/\0<=t/\0<=g/\g<=((1000000:Int):Rat)/\t<=ck+g
structure Hd where
 C:Addr
 i:Option Nat
 th:TS
section
variable{P:Program}{w:World}{X:Cx}{C':Addr}{x:Str}{np LB pos:Pos}{body ER:List Stmt}{b0:Stmt}{tb:XH->TS}{th:TS}{h0:ExceptHandler}{hds:List ExceptHandler}{hs:List Hd}
end
section
variable{X:Cx}
end
end L2
namespace L2
open PySem PySem.Spec PyProof.Rows PySem.MeetsSeq
theorem So(l:Addr)(items:Array Value)(n:Nat)(x:Value)(e:Nat->Bool)(j:Nat)(hj:j<items.size)(CJ:e j=true)(k:Nat)(Of:items.size<=sizeLine):
    ∀i:Nat,j-i=k->i<=j->(∀m,i<=m->m<j->e m=false)->Meets (Builtin.«list.remove.loop» ⟨[.ref l,x,rawInt i],[]⟩)
      (fun A R s=>(∀m(hm:m<items.size),m<=j->SeqAt.EqAt A.in1 s items[m] x (e m))/\s.heap.get? l=some {cls:=.type "list",dict:=none,data:=.seq items n,slots:=#[]}/\R (.ok (.ret .none)) {s with heap:=s.heap.update l (Obj.mapSeq fun xs=>xs.eraseIdxIfInBounds j)}):=by
  induction k with
  |zero=>
    intro i hk N8 jU prog w A R s h;obtain⟨hp,g,d,tk,os⟩:=s;obtain⟨he,hl,h⟩:=h;have QC:i=j:=by omega
    subst QC
    wp_walk using wpAny_loadPart' hl
    have hi:items[((i:Nat):Int).toNat]?=some items[i]:=by simp[hj]
    rw[hi];refine wpAny_bind (he i hj (aq _) prog w _ _ ?_);rw[CJ];have hz':(items.eraseIdxIfInBounds i).size<=sizeLine+1:=bO (size_erased items _) (Nat.le_succ_of_le Of)
    wp_walk using(wpAny_updateSeq hl rfl (hz:=Of) (_hz':=hz')),wpAny_loadPart' hl
    simpa using h
  |succ k ih=>
    intro i hk N8 jU prog w A R s h;obtain⟨hp,g,d,tk,os⟩:=s;obtain⟨he,hl,h⟩:=h;have jT:i<items.size:=by omega
    wp_walk using wpAny_loadPart' hl
    have hi:items[((i:Nat):Int).toNat]?=some items[i]:=by simp[jT]
    have hc:((i:Int)+1)=((i+1:Nat):Int):=by push_cast;rfl
    rw[hi];refine wpAny_bind (he i jT N8 prog w _ _ ?_);rw[jU i (aq _) (by omega)]
    wp_walk
    rw[hc];exact⟨plainId_quiet plain_remove_loop _,codeAny_builtin entry_remove_loop (by rw[Around.under_plainId plain_remove_loop _];exact ih (i+1) (by omega) (by omega) (fun m h1 h2=>jU m (by omega) h2) prog w A R _ ⟨he,hl,h⟩)⟩
theorem zyc(l:Addr)(items:Array Value)(n:Nat)(x:Value)(e:Nat->Bool)(j:Nat)(hj:j<items.size)(CJ:e j=true)(jU:∀m,m<j->e m=false)(Of:items.size<=sizeLine):
    Meets (Builtin.«list.remove» ⟨[.ref l,x],[]⟩)
      (fun A R s=>(∀m(hm:m<items.size),m<=j->SeqAt.EqAt A.in1 s items[m] x (e m))/\s.heap.get? l=some {cls:=.type "list",dict:=none,data:=.seq items n,slots:=#[]}/\R (.ok (.ret .none)) {s with heap:=s.heap.update l (Obj.mapSeq fun xs=>xs.eraseIdxIfInBounds j)}):=by
  intro prog w A R s h;obtain⟨hp,g,d,tk,os⟩:=s;obtain⟨he,hl,h⟩:=h
  wp_walk using wpAny_loadPart' hl
  exact⟨plainId_quiet plain_remove_loop _,codeAny_builtin entry_remove_loop (by rw[Around.under_plainId plain_remove_loop _];exact So l items n x e j hj CJ _ Of 0 rfl (bW _) (fun m _ h2=>jU m h2) prog w A R _ ⟨he,hl,h⟩)⟩
def Z0(K:aa):V->List V->Hp->VK->Prop:=fun x vs H Q=>∃l xs y j d ds,x= .ref l/\vs=[y]/\H l=some (.lst xs)/\xs.length<sizeLine/\j<xs.length/\vE K H y d/\ir d=true/\jY K H (xs.take (j+1)) ds/\(∀e∈ds,ir e=true)/\
 ds[j]?.map (fun e=>PyData.eqv e d)=some true/\(∀m e,m<j->ds[m]?=some e->PyData.eqv e d=false)/\Q .b7 (aH H l (.lst (xs.eraseIdx j)))
theorem Zs:∀{xs:List V}{us:List Value}{m:Nat}{u:Value},b8 xs us->us[m]?=some u->∃x,xs[m]?=some x/\RelV x u
 |_,_,0,u,.cons r _,h=>by have:_=u:=ak h;subst this;exact⟨_,rfl,r⟩
 |_,_,m+1,u,.cons _ t,h=>by obtain⟨x,h1,h2⟩:=Zs (m:=m) t (by simpa using h);exact⟨x,by simpa using h1,h2⟩
theorem XY{K:aa}{H:Hp}:∀{xs:List V}{ds:List PyData}{m:Nat}{x:V},jY K H xs ds->xs[m]?=some x->∃d,ds[m]?=some d/\vE K H x d
 |_,_,0,x,.cons r _,h=>by have:_=x:=ak h;subst this;exact⟨_,rfl,r⟩
 |_,_,m+1,x,.cons _ t,h=>by obtain⟨d,h1,h2⟩:=XY (m:=m) t (by simpa using h);exact⟨d,by simpa using h1,h2⟩
theorem Ym:∀{xs:List V}{us:List Value}(j:Nat),b8 xs us->b8 (xs.eraseIdx j) (us.eraseIdx j)
 |_,_,_,.nil=>.nil
 |_,_,0,.cons _ t=>t
 |_,_,j+1,.cons r t=>.cons r (Ym j t)
section
variable{X:Cx}
theorem zwh(K:aa)(h:X.K=K)(hu:X.A.units+66<cLine):NQ X "list.remove" (Z0 K):=by
 subst h;intro ah s σ H x vs v us Q I rx rv h;obtain⟨l,xs,y,j,d,ds,rfl,rfl,hH,hz,hj,dy,sy,dx,sx,CJ,jU,q⟩:=h;cases rx
 obtain⟨u,rfl,ru⟩:=rv.one;obtain⟨z,c7,n,r,hl,e⟩:=I.CN hH;have len:=r.length;obtain⟨as,ra⟩:=Ut I dy ru;have eq:∀m(hm:m<c7.toArray.size),m<=j->SeqAt.EqAt X.A.in1 s c7.toArray[m] u ((ds[m]?.map fun e=>PyData.eqv e d).getD false):=fun m hm hmj=>by
  have hm2:m<c7.length:=by simpa using hm
  have e1:c7[m]?=some c7.toArray[m]:=by rw[aU hm2];simp
  obtain⟨x,h1,h2⟩:=Zs r e1;have h3:(xs.take (j+1))[m]?=some x:=by rw[lQ,if_pos (by omega)];exact h1
  obtain⟨e',h4,h5⟩:=XY dx h3;obtain⟨bs,rb⟩:=Ut I h5 h2;have se:=sx e' (aV h4);rw[h4];exact SeqAt.eqAt_reads e' d X.A.in1 s _ _ bs as rb ra (rW se) (rW sy) (PySem.SeqAt.room_of_shaped se (by show X.A.units+1+64<cLine;omega))
 have xV:(ds[j]?.map fun e=>PyData.eqv e d).getD false=true:=by rw[CJ];rfl
 have QN:∀m,m<j->(ds[m]?.map fun e=>PyData.eqv e d).getD false=false:=fun m hm=>by
  cases c:ds[m]? with
  |none=>rfl
  |some e=>exact jU m e hm c
 refine call_meets F.slot_list_remove ⟨_,e,rfl⟩ F.entry_list_remove (F.args_list_remove_2 _ _) (zyc l c7.toArray n u (fun m=>(ds[m]?.map fun e=>PyData.eqv e d).getD false) j (by rw[aX];omega) xV QN (by rw[aX];omega)) ⟨eq,e,?_⟩;refine⟨.b7,_,I.Go (its':=c7.eraseIdx j) hH e ?_ (Ym j r) ?_,rfl,q⟩
 ·simp[Array.eraseIdxIfInBounds];exact fun c=>absurd c (by omega)
 ·rw[List.length_eraseIdx];split <;> omega
end
end L2
namespace L2
open PySem PySem.Spec PyProof.Rows
theorem gM.GN{k:Nat}{A:Around}(r:gM k A):A.units+66<cLine:=by have:=r.un;omega
section
variable{X:Cx}
end
def NP(a:Addr)(o:Obj)(kvs:List (Key×V)):It:=
 ⟨fun i H=>i<kvs.length/\H a=some (.jm o (.dK kvs)),fun i H x H'=>∃p kv,x= .ref p/\H p=none/\kvs[i]?=some kv/\H'=aH H p (.tup [kV kv.1,kv.2]),fun i H=>kvs.length<=i/\H a=some (.jm o (.dK kvs))⟩
theorem Yn {P:Program} {w:World} {K:aa} {AI:List Expr} {x1} {pos:Pos} (a it:Addr) {o:Obj} {kvs:List (Key×V)} {vs:List (Key×Value)} {es:Array DictEntry} {ep:Nat} (jJ:KV kvs vs)
    (ho:o.ExactDict/\o.data = .dict es ep/\KeysOf (mw P w) es/\Pairs (mw P w) es.toList vs/\(vs.map (·.1)).Nodup):vQ P w K (.Tuple AI x1 pos) (NP a o kvs) [it] it (fun i h=>∃ ok ov,IsItemIter h it a i vs.length ep ok ov) where
  mem:=by simp
  obj:=fun i h st b hb=>by
    have e:b=it:=by simpa using hb
    subst e
    obtain ⟨ok,ov,e⟩:=st
    exact ⟨_,e,fun v z=>by cases z⟩
  keep:=fun i h h' st k=>by
    obtain ⟨ok,ov,e⟩:=st
    exact ⟨ok,ov,k it (by simp) _ e⟩
  item:=by
    intro X hP hw hK hc i ah s σ H E I hf st hg
    subst hP hw hK
    obtain ⟨hi,hz⟩:=hg
    obtain ⟨ok,ov,he⟩:=st
    obtain ⟨f0,f1,f2,f3,f4,f5⟩:=hf it (by simp)
    have j3:kvs[i]? = some (kvs[i]'hi):=aU _
    have BE:i<vs.length:=by rw [<- jJ.length]; exact hi
    have hv:vs[i]? = some (vs[i]'BE):=aU _
    obtain ⟨q,hq,rq⟩:=OQ jJ j3
    rw [hv] at hq
    cases hq
    have da:s.heap.DictAt (mw X.prog X.w) a vs ep:=⟨o,es,(I.eB a _ hz).1,ho⟩
    refine wpAny_pyNext_items_item (v:=(vs[i]'BE).2) he da hv fun key h' D7 Ai hT hsz hk=>?_
    refine ⟨.ref s.heap.objs.size,rfl,wpAny_letOwnedTupleGo_items Ai fun Aj hz2 Og=>?_⟩
    have LH:Heap.SameBut it h' Aj:=Og
    have Wg:s.heap.objs.size≠it:=oG (Heap.lt_size he)
    have Q3:Aj.get? s.heap.objs.size=some { cls:=.type "tuple", data:=.seq #[key,(vs[i]'BE).2] }:=(LH.2 _ Wg).trans hT
    have k2:∀ c o,c ∉ [it]->s.heap.get? c=some o->Aj.get? c=some o:=fun c o n q=>by
      simp only [ao,bf,or_false] at n
      exact (LH.2 c n).trans (hk c o n q)
    have fresh:H s.heap.objs.size=none:=I.eB.fresh (aq _)
    have LZ:∀ c v,H c=some v->c ∉ [it]:=fun c v q h=>by
      have e:c=it:=by simpa using h
      rw [e,f0] at q; cases q
    have up:∀ c o,H c=some o->(aH H s.heap.objs.size (.tup [kV (kvs[i]'hi).1,(kvs[i]'hi).2])) c=some o:=fun c o q=>by rw [dj (kW q fresh)]; exact q
    have rk:RelV (kV (kvs[i]'hi).1) key:=by rw [rq.1]; exact Eg D7
    have I2:Inv X ah σ (aH H s.heap.objs.size (.tup [kV (kvs[i]'hi).1,(kvs[i]'hi).2])) { s with heap:=Aj }:=by
      refine I.step (t':=s.toks) (g':=s.gens) (d':=s.drawn) (ch:=[it]) (fun c hc=>?_) (fun c o _ _ hc q _=>k2 c o hc q)
        (fun c o _ _ hc q _=>⟨o.slots,k2 c o hc q⟩) (fun c o _ q n=>by rw [dj (bq (Heap.lt_size q))]; exact n)
        (fun c o hc q=>⟨o,k2 c o hc q⟩) (fun c zs q=>up c _ q) (fun c ob v q=>up c _ q) (fun c ps q=>⟨#[],by rw [up c _ q]; simp⟩) (fun m hm=>?_) (fun c v q=>?_) I.bare
      · obtain ⟨f0,f1,f2,f3,f4,f5⟩:=hf c hc
        exact ⟨f3,f1,f4,f5⟩
      · obtain ⟨o,es,ep,ho,r⟩:=hm
        refine ⟨o,es,ep,k2 _ o (fun h=>?_) ho,r⟩
        exact (hf _ h).2.1 rfl
      · by_cases hb:c=s.heap.objs.size
        · subst hb
          rw [bR] at q
          cases q
          exact ⟨by show 2<=sizeLine; decide,[key,(vs[i]'BE).2],.cons rk (.cons rq.2 .nil),_,Q3,rfl,_,rfl⟩
        · rw [dj hb] at q
          refine (I.eB c v q).iM (fun d v' hd q'=>?_) (fun d y=>up d _ y) fun d zs y=>up d _ y
          refine k2 d v' ?_ q'
          rcases hd with y | y
          · rw [y]; exact LZ c v q
          · exact LZ d _ y
    refine ⟨.ref s.heap.objs.size,_,I2,rfl,⟨s.heap.objs.size,_,rfl,fresh,j3,rfl⟩,⟨_,_,hz2⟩,fun c hc=>?_⟩
    have e:c=it:=by simpa using hc
    subst e
    rw [dj Wg.symm]
    exact f0
  done:=by
    intro X hP hw hK hc i ah s σ H E I hf st hg
    subst hP hw hK
    obtain ⟨hi,hz⟩:=hg
    obtain ⟨ok,ov,he⟩:=st
    obtain ⟨f0,f1,f2,f3,f4,f5⟩:=hf it (by simp)
    have da:s.heap.DictAt (mw X.prog X.w) a vs ep:=⟨o,es,(I.eB a _ hz).1,ho⟩
    exact wpAny_pyNext_items_end (I.ok.hd hc) he da (fT (by rw [<- jJ.length]; exact hi)) fun h' eb=>⟨rfl,I.turned (t':=s.toks) (fun b o hb e=>eb b o hb e) f0 f1 f3 f4 f5⟩
  self:=fun _ _ _ _ _ st h=>by
    obtain ⟨ok,ov,he⟩:=st
    exact PySem.W.kcp_self he h
def M9(tl:TE)(g:TG)(tb:TS):TS:=fun D σ H=>tl σ H fun x H1=>∃a kvs,x= .ref a/\H1 a=some (.dK kvs)/\∀o,∃W:Nat->Nat->St->Hp->Prop,(∃m,W 0 m σ (aH H1 a (.jm o (.dK kvs))))/\∀i m σ H,W i m σ H->
 H a=some (.jm o (.dK kvs))/\((kvs.length<=i/\D.nx σ (aH H a (.dK kvs)))\/(∃kv,kvs[i]?=some kv/\∃N:St->Hp->Prop,(∀σ' H',N σ' H'->∃m',m' < m/\W (i+1) m' σ' H')/\∀p,H p=none->g (.ref p) σ (aH H p (.tup [kV kv.1,kv.2])) fun σ2 H2=>tb {D with nx:=N,ct:=N,bk:=fun _ _=>False} σ2 H2))
section
variable{X:Cx}
theorem Sq{o:Expr}{gC gO Bd:Pos}{AI:List Expr}{x1}{body:List Stmt}{tl:TE}{g:TG}{tb:TS}{pos:Pos}(hp:PassesOwn (model X.prog X.w) X.A X.env X.xe)(hc:X.calm=true)(hl:PE X o tl)(hg:PG X (.Tuple AI x1 Bd) g)(hb:ud X body tb)(hs:∀x,foldedSetIterable (.Call (.Attribute o "items" gC) [] [] gO) X.env x=pure x:=by intro _;rfl)(nI:attributeBase o "items" X.env (eval o X.env)=eval o X.env:=by rfl)(nJ:(gC.endLine ==gO.line)=true:=by rfl):PS X (.For (.Tuple AI x1 Bd) (.Call (.Attribute o "items" gC) [] [] gO) body [] pos) (M9 tl g tb):=by
  intro ah s σ H D I h;refine wpAny_For (wpAny_Call_method0_late nI nJ (eJ (hl ah s σ H _ I h) fun v s1⟨x,H1,I1,r1,a,kvs,ex,ha,kE⟩=>?_)) hs;subst ex;obtain rfl:v=Value.ref a:=r1;obtain⟨t1,t2,_⟩:=Pp I1 (.inl ⟨kvs,.inl ha⟩);obtain⟨z,hd,vs,jJ,o',es,ep,ho,hx⟩:=uH I1.eB ha;refine⟨"dict","dict.items",iO,iP,yD,t1,t2,Calls.callWith_builtin rfl (iC ?_)⟩;refine call_meetsIn iP t1 xK (wD _) (meets_dict_items (mw X.prog X.w) a hd) ⟨⟨vs,o',es,ep,ho,hx⟩,?_⟩;have Iv:Inv X ah σ H1 {s1 with heap:=s1.heap.push {cls:=.type "dict_items",data:=.fields #[.ref a]}}:=I1.kept (t':=s1.toks) fun b o e=>Heap.get?_push_of_some _ e;have AR:(s1.heap.push {cls:=.type "dict_items",data:=.fields #[.ref a]}).get? a=some o':=Heap.get?_push_of_some _ ho;have D9:(s1.heap.push {cls:=.type "dict_items",data:=.fields #[.ref a]}).IsItemsView s1.heap.objs.size a:=⟨_,Heap.get?_push_size _ rfl,rfl,rfl⟩;generalize s1.heap.push {cls:=.type "dict_items",data:=.fields #[.ref a]}=hv at Iv AR D9⊢;refine wpAny_pyIter_items (s:={s1 with heap:=hv}) (knd:=mw X.prog X.w) D9 ⟨o',es,AR,hx⟩ ?_;obtain⟨W,⟨m0,w0⟩,sJ⟩:=kE o';have n0:∀o u,X.H₀ a≠some (.jm o u):=fun o' u e=>by have:=I1.base.mV a o' u e;rw[ha]at this;cases this
  have fresh:H1 hv.objs.size=none:=Iv.eB.fresh (aq _);have IW:=Iv.zj (aq _) fresh;have na:hv.objs.size≠a:=fun y=>by rw[y,ha]at fresh;cases fresh
  have I2:Inv X ah σ (aH H1 a (.jm o' (.dK kvs))) {s1 with heap:=hv.push {cls:=.type "dict_itemiterator",data:=.fields #[.none,.bool false,.ref a,.int 0 0,.int vs.length 0,.int ep 0,.none,.none]}}:=
    (Iv.kept (t':=s1.toks) fun b o e=>Heap.get?_push_of_some _ e).frozen ha (Heap.get?_push_of_some _ AR);have T:vQ X.prog X.w X.K (.Tuple AI x1 Bd) (NP a o' kvs) [hv.objs.size] hv.objs.size (fun i h=>∃ok ov,IsItemIter h hv.objs.size a i vs.length ep ok ov):=Yn a _ jJ hx;have mO:∀{H':Hp},H' hv.objs.size=none->∀b∈[hv.objs.size],rP X ah H' b:=fun hn b hb=>by
    have e:b=hv.objs.size:=by simpa using hb
    subst e;exact⟨hn,IW.2⟩
  refine codeAny_forLoop_any (fun n s'=>∃i σ' H',Inv X ah σ' H' s'/\(∃ok ov,IsItemIter s'.heap hv.objs.size a i vs.length ep ok ov)/\H' hv.objs.size=none/\W i n σ' H') ?_ m0 ⟨0,σ,_,I2,⟨.none,.none,Heap.get?_push_size _ rfl⟩,by rw[dj na];exact fresh,w0⟩;rintro n s3 ⟨i,σ3,H3,I3,HV,BB,w3⟩;obtain⟨hz,cs⟩:=sJ i n σ3 H3 w3;rcases cs with⟨stop,qn⟩ |⟨kv,j3,N,hN,step⟩
  · refine wpAny_passesOwn hp (eJ (T.done X rfl rfl rfl hc i ah s3 σ3 H3 X.xe I3 (mO BB) HV ⟨stop,hz⟩) fun r s4⟨hr,I4⟩=>?_);subst hr;exact wpAny_execs_nil ⟨σ3,_,I4.Bc hz n0,qn⟩
  · refine wpAny_passesOwn hp (eJ (T.item X rfl rfl rfl hc i ah s3 σ3 H3 X.xe I3 (mO BB) HV ⟨(aD.mp j3).1,hz⟩) fun r s4⟨u,hr,h4⟩=>?_);subst hr;refine wpAny_passesOwn hp (eJ h4 fun _ s5⟨x,H5,I5,r5,⟨pt,kv',ex,tP,D8,eH⟩,z8,DV⟩=>?_);subst eH;rw[j3]at D8;cases D8
    subst ex;have K2:=I5.pinned (mO (DV _ (by simp))) (T.obj _ _ z8);refine wpAny_passesOwn hp (eJ (hg _ s5 σ3 _ _ u _ K2 r5 (step pt tP)) fun _ s6⟨σ6,H6,I6,q6⟩=>?_);refine wpAny_passesOwn hp (eJ (hb _ s6 σ6 H6 _ I6 q6) fun f s7 q7=>?_);have again:∀{σ7:St}{H7:Hp},Inv X (ah++Io [hv.objs.size] s5.heap) σ7 H7 s7->N σ7 H7->∃m,m<n/\∃i σ' H',Inv X ah σ' H' s7/\(∃ok ov,IsItemIter s7.heap hv.objs.size a i vs.length ep ok ov)/\H' hv.objs.size=none/\W i m σ' H':=fun{σ7 H7} I7 n7=>by obtain⟨m',hm,w7⟩:=hN σ7 H7 n7;refine⟨m',hm,i+1,σ7,H7,I7.i7,T.keep _ _ _ z8 fun b hb o e=>(I7.pin (b,o) (aI _ (aI _ (Fv hb e)))).1,?_,w7⟩;obtain⟨o,e,d⟩:=T.obj _ _ z8 hv.objs.size (by simp);exact(I7.pin (_,o) (aI _ (aI _ (Fv (by simp) e)))).2.1
    cases f with
    |next=>obtain⟨σ7,H7,I7,n7⟩:=q7;exact again I7 n7
    |cont=>obtain⟨σ7,H7,I7,n7⟩:=q7;exact again I7 n7
    |brk=>obtain⟨σ7,H7,I7,q7⟩:=q7;exact bE q7
    |ret v=>obtain⟨x7,σ7,H7,I7,r7,q7⟩:=q7;exact⟨x7,σ7,H7,I7.i7,r7,q7⟩
end
theorem zwi{a:Addr}{kvs:List (Key×V)}{o:Obj}{g:TG}{tb:TS}{D:Ends}{σ:St}{H:Hp}(Pv:Nat->St->Hp->Prop)(h0:Pv 0 σ H)(hz:∀i σ H,i<=kvs.length->Pv i σ H->H a=some (.jm o (.dK kvs)))(hs:∀i kv σ H p,kvs[i]?=some kv->Pv i σ H->H p=none->g (.ref p) σ (aH H p (.tup [kV kv.1,kv.2])) fun σ2 H2=>tb {D with nx:=Pv (i+1),ct:=Pv (i+1),bk:=fun _ _=>False} σ2 H2)(hd:∀σ H,Pv kvs.length σ H->D.nx σ (aH H a (.dK kvs))):
    ∃W:Nat->Nat->St->Hp->Prop,(∃m,W 0 m σ H)/\∀i m σ H,W i m σ H->
      H a=some (.jm o (.dK kvs))/\((kvs.length<=i/\D.nx σ (aH H a (.dK kvs)))\/(∃kv,kvs[i]?=some kv/\∃N:St->Hp->Prop,(∀σ' H',N σ' H'->∃m',m' < m/\W (i+1) m' σ' H')/\∀p,H p=none->g (.ref p) σ (aH H p (.tup [kV kv.1,kv.2])) fun σ2 H2=>tb {D with nx:=N,ct:=N,bk:=fun _ _=>False} σ2 H2)):=by
  refine⟨fun i m σ H=>m=kvs.length-i/\i<=kvs.length/\Pv i σ H,⟨kvs.length,by simp,bW _,h0⟩,?_⟩;rintro i m σ H ⟨rfl,hi,p⟩;refine⟨hz i σ H hi p,?_⟩;by_cases jT:i<kvs.length
  · exact .inr ⟨kvs[i],by simp[jT],Pv (i+1),fun σ' H' p'=>⟨kvs.length-(i+1),by omega,rfl,jT,p'⟩,fun q hq=>hs i _ σ H q (by simp[jT]) p hq⟩
  · have e:i=kvs.length:=by omega
    subst e;exact .inl ⟨aq _,hd σ H p⟩
section
variable{X:Cx}{ah:List (Addr×Obj)}{σ:St}{H:Hp}{s:Shared}{a vw:Addr}{kvs:List (Key×V)}{Q:VK}
end
section
variable{X:Cx}
end
section
variable{X:Cx}
end
def zzj(tl:TE):TI:=fun σ H R=>tl σ H fun x H1=>∃a kvs,x= .ref a/\H1 a=some (.dK kvs)/\∀o,R (NP a o kvs) (aH H1 a (.jm o (.dK kvs)))
section
variable{X:Cx}
theorem zyd{o:Expr}{gC gO Bd:Pos}{AI:List Expr}{x1}{tl:TE}(hl:PE X o tl)(nI:attributeBase o "items" X.env (eval o X.env)=eval o X.env:=by rfl)(nJ:(gC.endLine ==gO.line)=true:=by rfl):
    PI X (.Tuple AI x1 Bd) (.Call (.Attribute o "items" gC) [] [] gO) (zzj tl):=by
  intro ah s σ H R I h;refine wpAny_Call_method0_late nI nJ (eJ (hl ah s σ H _ I h) fun v s1⟨x,H1,I1,r1,a,kvs,ex,ha,kE⟩=>?_);subst ex;obtain rfl:v=Value.ref a:=r1;obtain⟨t1,t2,_⟩:=Pp I1 (.inl ⟨kvs,.inl ha⟩);obtain⟨z,hd,vs,jJ,o',es,ep,ho,hx⟩:=uH I1.eB ha;refine⟨"dict","dict.items",iO,iP,yD,t1,t2,Calls.callWith_builtin rfl (iC ?_)⟩;refine call_meetsIn iP t1 xK (wD _) (meets_dict_items (mw X.prog X.w) a hd) ⟨⟨vs,o',es,ep,ho,hx⟩,?_⟩;have Iv:Inv X ah σ H1 {s1 with heap:=s1.heap.push {cls:=.type "dict_items",data:=.fields #[.ref a]}}:=I1.kept (t':=s1.toks) fun b o e=>Heap.get?_push_of_some _ e;have AR:(s1.heap.push {cls:=.type "dict_items",data:=.fields #[.ref a]}).get? a=some o':=Heap.get?_push_of_some _ ho;have D9:(s1.heap.push {cls:=.type "dict_items",data:=.fields #[.ref a]}).IsItemsView s1.heap.objs.size a:=⟨_,Heap.get?_push_size _ rfl,rfl,rfl⟩;generalize s1.heap.push {cls:=.type "dict_items",data:=.fields #[.ref a]}=hv at Iv AR D9⊢;refine wpAny_pyIter_items (s:={s1 with heap:=hv}) (knd:=mw X.prog X.w) D9 ⟨o',es,AR,hx⟩ ?_;have fresh:H1 hv.objs.size=none:=Iv.eB.fresh (aq _);have na:hv.objs.size≠a:=fun y=>by rw[y,ha]at fresh;cases fresh
  have I2:Inv X ah σ (aH H1 a (.jm o' (.dK kvs))) {s1 with heap:=hv.push {cls:=.type "dict_itemiterator",data:=.fields #[.none,.bool false,.ref a,.int 0 0,.int vs.length 0,.int ep 0,.none,.none]}}:=
    (Iv.kept (t':=s1.toks) fun b o e=>Heap.get?_push_of_some _ e).frozen ha (Heap.get?_push_of_some _ AR);refine⟨hv.objs.size,[hv.objs.size],_,_,_,rfl,I2,Yn a _ jJ hx,⟨.none,.none,Heap.get?_push_size _ rfl⟩,fun b hb=>?_,kE o'⟩;have e:b=hv.objs.size:=by simpa using hb
  subst e;have IW:=Iv.zj (aq _) fresh;exact⟨by rw[dj na];exact fresh,IW.2⟩
def Ib(t:TE):TE:=fun σ H Q=>t σ H fun x H'=>∃a o kvs LQ,H a=some (.dK LQ)/\H' a=some (.jm o (.dK kvs))/\Q x (aH H' a (.dK kvs))
theorem Ss{e:Expr}{t:TE}(h:PE X e t):PE X e (Ib t):=by intro ah s σ H Q I q;refine eJ (h ah s σ H _ I q) fun v s1⟨x,H1,I1,r1,a,o,kvs,LQ,h0,h1,q1⟩=>?_;refine⟨x,_,I1.Bc h1 fun o' u e=>?_,r1,q1⟩;have:=I.base.mV a o' u e;rw[h0]at this;cases this
end
theorem zug{a:Addr}{kvs:List (Key×V)}{o:Obj}{g:TG}{tc:TT}{te:TE}{D:Addr}{τ:St}{H:Hp}{Q:VK}(Pv:Nat->St->Hp->Prop)(h0:Pv 0 τ H)(hz:∀i τ H,i<=kvs.length->Pv i τ H->H a=some (.jm o (.dK kvs)))(hs:∀i kv τ H p,kvs[i]?=some kv->Pv i τ H->H p=none->g (.ref p) τ (aH H p (.tup [kV kv.1,kv.2])) fun τ2 H3=>tc τ2 H3 fun b H4=>if b=true then te τ2 H4 fun y H5=>∃ys,H5 D=some (.lst ys)/\ys.length<sizeLine/\Pv (i+1) τ2 (aH H5 D (.lst (ys++[y])))else Pv (i+1) τ2 H4)(hd:∀τ H,Pv kvs.length τ H->Q (.ref D) H):pe (NP a o kvs) g tc te D τ H Q:=by
  refine⟨fun i m τ H=>m=kvs.length-i/\i<=kvs.length/\Pv i τ H,⟨kvs.length,by simp,bW _,h0⟩,?_⟩;rintro i m τ H ⟨rfl,hi,p⟩;have q:=hz i τ H hi p;by_cases jT:i<kvs.length
  · refine .inr ⟨⟨jT,q⟩,Pv (i+1),fun τ' H' p'=>⟨kvs.length-(i+1),by omega,rfl,jT,p'⟩,fun x H2 z=>?_⟩;obtain⟨b,kv,rfl,hb,j3,rfl⟩:=z;exact hs i kv τ H b j3 p hb
  · have e:i=kvs.length:=by omega
    subst e;exact .inl ⟨⟨aq _,q⟩,hd τ H p⟩
theorem YR{K:aa}{H:Hp}:∀(ns:List Str),jY K H (ns.map V.str) (ns.map PyData.str)
 |[]=>.nil
 |_::r=>.cons (.str _) (YR r)
theorem Zt{α β:Type}(f:α->β):∀(l:List α)(j:Nat),(l.map f).eraseIdx j=(l.eraseIdx j).map f
 |[],_=>rfl
 |_::_,0=>rfl
 |a::r,j+1=>by show f a::_=f a::_;rw[Zt f r j]
theorem TW{K:aa}{H:Hp}{l:Addr}{L:List Str}{x:Str}{Q:VK}(nd:L.Nodup)(hx:x∈L)(n9:L.length<=100)(ok:∀y∈L,PyData.strOk y=true)(h:H l=some (.lst (L.map V.str)))(q:Q .b7 (aH H l (.lst ((L.erase x).map V.str)))):Z0 K (.ref l) [.str x] H Q:=by
 obtain⟨j,hj⟩:=List.getElem?_of_mem hx;have jl:=(aD.mp hj).1;have es:L.erase x=L.eraseIdx j:=by rw[List.erase_eq_eraseIdx_of_idxOf];rw[<-(aD.mp hj).2];exact(nd.idxOf_getElem j jl)
 have okx:ir (.str x)=true:=by unfold ir;rw[fM,decide_eq_true_eq];exact⟨by simpa only[PyData.canLay0]using ok x hx,by simp[PyData.depth]⟩
 refine⟨l,L.map V.str,.str x,j,.str x,(L.take (j+1)).map PyData.str,rfl,rfl,h,eX (by rw[ae];omega),by rw[ae];exact jl,.str _,okx,?_,fun e he=>?_,?_,fun m e hmj he=>?_,?_⟩
 ·rw[<-List.map_take];exact YR _
 ·obtain⟨y,hy,rfl⟩:=av.mp he;unfold ir;rw[fM,decide_eq_true_eq];exact⟨by simpa only[PyData.canLay0]using ok y (p9 hy),by simp[PyData.depth]⟩
 ·rw[aK,lQ,if_pos (by omega),hj];simp[PyData.eqv]
 ·rw[aK,lQ,if_pos (by omega)]at he;cases hy:L[m]? with
  |none=>rw[hy]at he;simp at he
  |some y=>
   rw[hy]at he;have he:PyData.str y=e:=by simpa using he
   subst he;have ne:y≠x:=fun c=>by rw[c]at hy;have:=(FT jl nd).mp (hj.trans hy.symm);omega
   simp[PyData.eqv];exact ne
 ·rw[Zt,<-es];exact q
def p8:Option Str->V
 |none=>.b7
 |some x=>.str x
structure FR(fs:List (Str×V))(most:Int)(pm:Addr)(ch:V)(pt pg:Addr)(tu:Option Str):Prop where
 mo:fs.lookup ("most":Str)=some (.int most)
 me:fs.lookup ("members":Str)=some (.ref pm)
 ch:fs.lookup ("chosen":Str)=some ch
 qu:fs.lookup ("queue":Str)=some (.ref pt)
 re:fs.lookup ("rests":Str)=some (.ref pg)
 tu:fs.lookup ("turn":Str)=some (p8 tu)
 no:∀m:Str,¬m="most"->¬m="members"->¬m="chosen"->¬m="queue"->¬m="rests"->¬m="turn"->fs.lookup m=none
 len:fs.length<900
theorem FR.Jk(most:Int)(pm:Addr)(ch:V)(pt pg:Addr):FR (aE "turn" .b7 (aE "rests" (.ref pg) (aE "queue" (.ref pt) (aE "chosen" ch (aE "members" (.ref pm) (aE "most" (.int most) [])))))) most pm ch pt pg none:=by
 refine⟨?_,?_,?_,?_,?_,?_,fun m h1 h2 h3 h4 h5 h6=>?_,?_⟩
 ·rw[eF (by decide+kernel),eF (by decide+kernel),eF (by decide+kernel),eF (by decide+kernel),eF (by decide+kernel),pG]
 ·rw[eF (by decide+kernel),eF (by decide+kernel),eF (by decide+kernel),eF (by decide+kernel),pG]
 ·rw[eF (by decide+kernel),eF (by decide+kernel),eF (by decide+kernel),pG]
 ·rw[eF (by decide+kernel),eF (by decide+kernel),pG]
 ·rw[eF (by decide+kernel),pG]
 ·rw[pG];rfl
 ·rw[eF h6,eF h5,eF h4,eF h3,eF h2,eF h1];rfl
 ·have a1:=ki (fs:=[]) (f:="most") (v:=.int most);have a2:=ki (fs:=aE "most" (.int most) []) (f:="members") (v:=.ref pm);have a3:=ki (fs:=aE "members" (.ref pm) (aE "most" (.int most) [])) (f:="chosen") (v:=ch);have a4:=ki (fs:=aE "chosen" ch (aE "members" (.ref pm) (aE "most" (.int most) []))) (f:="queue") (v:=.ref pt);have a5:=ki (fs:=aE "queue" (.ref pt) (aE "chosen" ch (aE "members" (.ref pm) (aE "most" (.int most) [])))) (f:="rests") (v:=.ref pg);have a6:=ki (fs:=aE "rests" (.ref pg) (aE "queue" (.ref pt) (aE "chosen" ch (aE "members" (.ref pm) (aE "most" (.int most) []))))) (f:="turn") (v:=.b7);simp only[bU]at a1;omega
theorem FR.A2{fs:List (Str×V)}{most:Int}{pm:Addr}{ch ch':V}{pt pg:Addr}{tu:Option Str}(h:FR fs most pm ch pt pg tu):FR (aE "chosen" ch' fs) most pm ch' pt pg tu:=by
 refine⟨?_,?_,pG,?_,?_,?_,fun m h1 h2 h3 h4 h5 h6=>?_,?_⟩
 ·rw[eF (by decide+kernel)];exact h.mo
 ·rw[eF (by decide+kernel)];exact h.me
 ·rw[eF (by decide+kernel)];exact h.qu
 ·rw[eF (by decide+kernel)];exact h.re
 ·rw[eF (by decide+kernel)];exact h.tu
 ·rw[eF h3];exact h.no m h1 h2 h3 h4 h5 h6
 ·rw[Ik h.ch];exact h.len
theorem FR.Es{fs:List (Str×V)}{most:Int}{pm:Addr}{ch:V}{pt pg:Addr}{tu:Option Str}(Nc:Option Str)(h:FR fs most pm ch pt pg tu):FR (aE "turn" (p8 Nc) fs) most pm ch pt pg Nc:=by
 refine⟨?_,?_,?_,?_,?_,pG,fun m h1 h2 h3 h4 h5 h6=>?_,?_⟩
 ·rw[eF (by decide+kernel)];exact h.mo
 ·rw[eF (by decide+kernel)];exact h.me
 ·rw[eF (by decide+kernel)];exact h.ch
 ·rw[eF (by decide+kernel)];exact h.qu
 ·rw[eF (by decide+kernel)];exact h.re
 ·rw[eF h6];exact h.no m h1 h2 h3 h4 h5 h6
 ·rw[Ik h.tu];exact h.len
structure Rx(C Cm:Addr)(H:Hp)(a:lz)(most:Int)(nm:Nm)(q:List Str)(rs:Nm)(tu:Option Str)(ch:V):Prop where
 ex:∃dx fs,H a.p=some (.ins C dx fs)/\FR fs most a.pm ch a.pt a.pg tu
 mb:Mb Cm H a.pm a.ps nm
 hq:H a.pt=some (.lst (q.map V.str))
 hr:H a.pg=some (.dK (kvsOf rs))
 n3:a.pg≠a.ps
 n4:a.p≠a.pm
section
variable{C Cm:Addr}{H H':Hp}{a:lz}{most:Int}{nm A0:Nm}{q q':List Str}{rs rs':Nm}{tu Nc:Option Str}{ch ch':V}
theorem Rx.same(h:Rx C Cm H a most nm q rs tu ch)(s:bI H H'):Rx C Cm H' a most nm q rs tu ch:=by obtain⟨dx,fs,h1,h2⟩:=h.ex;exact⟨⟨dx,fs,s _ _ h1,h2⟩,h.mb.same s,s _ _ h.hq,s _ _ h.hr,h.n3,h.n4⟩
theorem Rx.Ew(S:Rx C Cm H a most nm q rs tu ch):Rx C Cm (aH H a.pt (.lst (q'.map V.str))) a most nm q' rs tu ch:=by
 obtain⟨dx,fs,h1,h2⟩:=S.ex;obtain⟨dm,fm,m1,m2⟩:=S.mb.ex;have kp:∀b o,b≠a.pt->H b=some o->aH H a.pt (.lst (q'.map V.str)) b=some o:=fun b o n e=>by rw[dj n];exact e
 exact⟨⟨dx,fs,kp _ _ (cj h1 S.hq (by intro z;cases z)) h1,h2⟩,⟨⟨dm,fm,kp _ _ (cj m1 S.hq (by intro z;cases z)) m1,m2⟩,kp _ _ (cj S.mb.hs S.hq (by intro z;cases z)) S.mb.hs⟩,bR,kp _ _ (cj S.hr S.hq (by intro z;cases z)) S.hr,S.n3,S.n4⟩
theorem Rx.zS(S:Rx C Cm H a most nm q rs tu ch):Rx C Cm (aH H a.pg (.dK (kvsOf rs'))) a most nm q rs' tu ch:=by
 obtain⟨dx,fs,h1,h2⟩:=S.ex;obtain⟨dm,fm,m1,m2⟩:=S.mb.ex;have kp:∀b o,b≠a.pg->H b=some o->aH H a.pg (.dK (kvsOf rs')) b=some o:=fun b o n e=>by rw[dj n];exact e
 exact⟨⟨dx,fs,kp _ _ (cj h1 S.hr (by intro z;cases z)) h1,h2⟩,⟨⟨dm,fm,kp _ _ (cj m1 S.hr (by intro z;cases z)) m1,m2⟩,kp _ _ S.n3.symm S.mb.hs⟩,kp _ _ (cj S.hq S.hr (by intro z;cases z)) S.hq,bR,S.n3,S.n4⟩
theorem Rx.zT(S:Rx C Cm H a most nm q rs tu ch):Rx C Cm (aH H a.ps (.dK (kvsOf A0))) a most A0 q rs tu ch:=by
 obtain⟨dx,fs,h1,h2⟩:=S.ex;have g1:=S.mb.hs;have kp:∀b o,b≠a.ps->H b=some o->aH H a.ps (.dK (kvsOf A0)) b=some o:=fun b o n e=>by rw[dj n];exact e
 exact⟨⟨dx,fs,kp _ _ (cj h1 g1 (by intro z;cases z)) h1,h2⟩,S.mb.put,kp _ _ (cj S.hq g1 (by intro z;cases z)) S.hq,kp _ _ S.n3 S.hr,S.n3,S.n4⟩
theorem Rx.wU{dx:Addr}{fs qp:List (Str×V)}(S:Rx C Cm H a most nm q rs tu ch)(h1:H a.p=some (.ins C dx fs))(ft:FR qp most a.pm ch' a.pt a.pg Nc):Rx C Cm (aH H a.p (.ins C dx qp)) a most nm q rs Nc ch':=by
 obtain⟨dm,fm,m1,m2⟩:=S.mb.ex;have kp:∀b o,b≠a.p->H b=some o->aH H a.p (.ins C dx qp) b=some o:=fun b o n e=>by rw[dj n];exact e
 exact⟨⟨dx,qp,bR,ft⟩,⟨⟨dm,fm,kp _ _ S.n4.symm m1,m2⟩,kp _ _ (cj S.mb.hs h1 (by intro z;cases z)) S.mb.hs⟩,kp _ _ (cj S.hq h1 (by intro z;cases z)) S.hq,kp _ _ (cj S.hr h1 (by intro z;cases z)) S.hr,S.n3,S.n4⟩
theorem Rx.nQ{m:Str}{Z:Prop}(S:Rx C Cm H a most nm q rs tu ch)(h:¬m="most"/\¬m="members"/\¬m="chosen"/\¬m="queue"/\¬m="rests"/\¬m="turn")(z:Z):wR C m (.ref a.p) H Z:=by obtain⟨dx,fs,hp,ft⟩:=S.ex;exact gq hp (ft.no _ h.1 h.2.1 h.2.2.1 h.2.2.2.1 h.2.2.2.2.1 h.2.2.2.2.2) z
theorem Rx.Mg{l:Addr}{xs:List V}(S:Rx C Cm H a most nm q rs tu ch)(ow:lS a H H')(h:H l=some (.lst xs))(n:l≠a.pt):H' l=some (.lst xs):=by obtain⟨dx,fs,h1,h2⟩:=S.ex;exact ow _ _ (cj h h1 (by intro z;cases z)) (cj h S.mb.hs (by intro z;cases z)) n (cj h S.hr (by intro z;cases z)) h
end
end L2
namespace Sw
open L2 PySem
theorem jz(nm:Nm)(x:Str)(s:Int):(putN nm x s).map (·.1)=nm.map (·.1):=by
 unfold putN;rw[bg];refine aO fun p _=>?_;by_cases h:p.1=x
 ·simp[h]
 ·simp[h]
theorem jt{nm:Nm}{x:Str}:aP nm x≠none↔x∈nm.map (·.1):=by
 constructor
 ·intro h;cases e:aP nm x with
  |none=>exact absurd e h
  |some s=>exact av.mpr ⟨_,Zr e,rfl⟩
 ·intro h;obtain⟨p,hp,e⟩:=av.mp h;have:(x,p.2)∈nm:=by rw[<-e];exact hp
  exact XX this
theorem j4{nm:Nm}{x:Str}:aP nm x=none↔x∉nm.map (·.1):=by
 constructor
 ·exact fun h z=>jt.mpr z h
 ·intro h;cases e:aP nm x with
  |none=>rfl
  |some s=>exact absurd (jt.mp (by rw[e];simp)) h
structure RI(most:Int)(nm:Nm)(q:List Str)(rs:Nm)(tu:Option Str):Prop where
 m0:1<=most
 ks:rs.map (·.1)=nm.map (·.1)
 nd:(nm.map (·.1)).Nodup
 pm:(q++tu.toList).Perm (nm.map (·.1))
 sh:∀x s,aP nm x=some s->1<=s/\s<=1000000
 bd:∀x s,aP nm x=some s->∃r,aP rs x=some r/\0-most<r/\r<=s*most/\(0<r->tu=some x)
section
variable{most:Int}{nm:Nm}{q:List Str}{rs:Nm}{tu:Option Str}
theorem RI.nil(h:1<=most):RI most [] [] [] none:=⟨h,rfl,.nil,.refl _,fun x s e=>(by cases e),fun x s e=>(by cases e)⟩
theorem RI.put(h:RI most nm q rs tu){x:Str}{s:Int}(hx:aP nm x=none)(s0:1<=s)(s1:s<=1000000):RI most (nm++[(x,s)]) (q++[x]) (rs++[(x,0)]) tu:=by
 have hr:aP rs x=none:=by rw[j4,h.ks,<-j4];exact hx
 refine⟨h.m0,?_,?_,?_,fun y t e=>?_,fun y t e=>?_⟩
 ·rw[aA,aA,h.ks];rfl
 ·rw[aA];refine cY.mpr ⟨h.nd,by simp,fun a ha b hb=>?_⟩;have:b=x:=by simpa using hb
  subst this;exact fun z=>j4.mp hx (z▸ha)
 ·rw[aA];have:=h.pm.append_right [x];refine Dh ?_ this;rw[FP,FP];exact List.Perm.append_left _ Cw
 ·rw[KL hx]at e;split at e
  ·cases e;exact⟨s0,s1⟩
  ·exact h.sh y t e
 ·rw[KL hx]at e;rw[KL hr];have m0:=h.m0;split at e
  ·rename_i c
   cases e;rw[if_pos c];have:=dS s0 h.m0 (by omega) (by omega)
   exact⟨0,rfl,by omega,by omega,fun z=>absurd z (by decide)⟩
  ·rename_i c
   rw[if_neg c];exact h.bd y t e
theorem RI.gH(h:RI most nm q rs tu){x:Str}{s r:Int}(hx:aP nm x≠none)(hr:aP rs x=some r)(s0:1<=s)(s1:s<=1000000):RI most (putN nm x s) q (putN rs x (if s*most<r then s*most else r)) tu:=by
 have m0:=h.m0;have sm:=dS s0 h.m0 (by omega) (by omega);refine⟨h.m0,by rw[jz,jz,h.ks],by rw[jz];exact h.nd,by rw[jz];exact h.pm,fun y t e=>?_,fun y t e=>?_⟩
 ·rw[GU]at e;split at e
  ·cases z:aP nm y with
   |none=>rw[z]at e;cases e
   |some v=>rw[z]at e;cases e;exact⟨s0,s1⟩
  ·exact h.sh y t e
 ·rw[GU]at e⊢;split at e
  ·rename_i c
   subst c;rw[if_pos rfl,hr];cases z:aP nm y with
   |none=>exact absurd z hx
   |some v=>
    rw[z]at e;have e:s=t:=by simpa using e
    subst e;obtain⟨r',a1,a2,a3,a4⟩:=h.bd y v z;rw[hr]at a1;cases a1
    refine⟨if s*most<r then s*most else r,rfl,by split <;> omega,by split <;> omega,fun y=>a4 ?_⟩;split at y <;> omega
  ·rename_i c
   rw[if_neg c];exact h.bd y t e
theorem RI.ends(h:RI most nm q rs tu){x:Str}{r:Int}(ht:tu=some x)(hr:aP rs x=some r):RI most nm (q++[x]) (putN rs x (if 0<r then 0 else r)) none:=by
 subst ht;have m0:=h.m0;refine⟨h.m0,by rw[jz,h.ks],h.nd,by rw[rF,bw];exact h.pm,h.sh,fun y t e=>?_⟩;obtain⟨r',a1,a2,a3,a4⟩:=h.bd y t e;obtain⟨t1,t2⟩:=h.sh y t e;rw[GU];by_cases c:y=x
 ·subst c;rw[if_pos rfl,hr];rw[hr]at a1;cases a1
  have:=dS t1 h.m0 (by omega) (by omega);refine⟨if 0<r then 0 else r,rfl,by split <;> omega,by split <;> omega,fun z=>?_⟩;exfalso;split at z <;> omega
 ·rw[if_neg c];refine⟨r',a1,a2,a3,fun z=>?_⟩;have:=a4 z;exact absurd (ak this).symm c
theorem RI.IK(h:RI most nm q rs none){x:Str}{r s:Int}(hq:x∈q)(hr:aP rs x=some r)(hs:aP nm x=some s):RI most nm (q.erase x) (putN rs x (r+s*most)) (some x)/\0<r+s*most:=by
 have m0:=h.m0;obtain⟨r',a1,a2,a3,a4⟩:=h.bd x s hs;rw[hr]at a1;cases a1
 have le:r<=0:=by
  rcases ou 0 r with z|z
  ·exact absurd (a4 z) (by simp)
  ·exact z
 obtain⟨t1,t2⟩:=h.sh x s hs;have sm:=eV t1 (show 0<=most by omega);refine⟨⟨h.m0,by rw[jz,h.ks],h.nd,?_,h.sh,fun y t e=>?_⟩,by omega⟩
 ·have pm:=h.pm;rw[rF,bw]at pm;refine Dh ?_ pm;show(q.erase x++[x]).Perm q;exact(Cw).trans (List.perm_cons_erase hq).symm
 ·obtain⟨r',b1,b2,b3,b4⟩:=h.bd y t e;rw[GU];by_cases c:y=x
  ·subst c;rw[hs]at e;cases e
   rw[if_pos rfl,hr];exact⟨r+s*most,rfl,by omega,by omega,fun _=>rfl⟩
  ·rw[if_neg c];refine⟨r',b1,b2,b3,fun z=>absurd (b4 z) (by simp)⟩
theorem RI.Rt(h:RI most nm q rs tu){x:Str}{r len:Int}(ht:tu=some x)(hr:aP rs x=some r)(r0:0<r)(l0:1<=len)(l1:len<=most):RI most nm q (putN rs x (r-len)) tu:=by
 refine⟨h.m0,by rw[jz,h.ks],h.nd,h.pm,h.sh,fun y t e=>?_⟩;obtain⟨r',b1,b2,b3,b4⟩:=h.bd y t e;rw[GU];by_cases c:y=x
 ·subst c;rw[if_pos rfl,hr];rw[hr]at b1;cases b1
  exact⟨r-len,rfl,by omega,by omega,fun _=>ht⟩
 ·rw[if_neg c];exact⟨r',b1,b2,b3,b4⟩
end
end Sw
namespace L2
open PySem PySem.Spec PyProof.Rows
section
variable{X:Cx}
end
def FJ(a:Addr)(o:Obj)(kvs:List (Key×V)):It:=
 ⟨fun i H=>i<kvs.length/\H a=some (.jm o (.dK kvs)),fun i H x H'=>H'=H/\∃kv,kvs[i]?=some kv/\x=kv.2,fun i H=>kvs.length<=i/\H a=some (.jm o (.dK kvs))⟩
theorem zrh{P:Program}{w:World}{K:aa}{tg:Expr}(a it:Addr){o:Obj}{kvs:List (Key×V)}{vs:List (Key×Value)}{es:Array DictEntry}{ep:Nat}(jJ:KV kvs vs)(ho:o.ExactDict/\o.data= .dict es ep/\KeysOf (mw P w) es/\Pairs (mw P w) es.toList vs/\(vs.map (·.1)).Nodup):vQ P w K tg (FJ a o kvs) [it] it (fun i h=>h.IsValIter it a i vs.length ep) where
  mem:=by simp
  obj:=fun i h st b hb=>by
    have e:b=it:=by simpa using hb
    subst e;obtain⟨o,e,c,d⟩:=st;exact⟨o,e,fun v z=>by rw[d]at z;cases z⟩
  keep:=fun i h h' st k=>by obtain⟨o,e,c⟩:=st;exact⟨o,k it (by simp) o e,c⟩
  item:=by
    intro X hP hw hK hc i ah s σ H E I hf st hg;subst hP hw hK;obtain⟨hi,hz⟩:=hg;obtain⟨f0,f1,f2,f3,f4,f5⟩:=hf it (by simp);have j3:kvs[i]?=some (kvs[i]'hi):=aU _;have BE:i<vs.length:=by rw[<-jJ.length];exact hi
    have hv:vs[i]?=some (vs[i]'BE):=aU _;obtain⟨q,hq,rq⟩:=OQ jJ j3;rw[hv]at hq;cases hq
    have da:s.heap.DictAt (mw X.prog X.w) a vs ep:=⟨o,es,(I.eB a _ hz).1,ho⟩;refine wpAny_pyNext_values_item (k:=(vs[i]'BE).1) (v:=(vs[i]'BE).2) st da hv fun h' yh sb=>?_;have I1:Inv X ah σ H {s with heap:=h'}:=I.turned (t':=s.toks) (fun b o hb e=>(sb.2 b hb).trans e) f0 f1 f3 f4 f5;obtain⟨oi,e,c,d⟩:=id yh;exact⟨(vs[i]'BE).2,rfl,wL (s:={s with heap:=h'}) e c d (by decide) ⟨(kvs[i]'hi).2,H,I1,rq.2,⟨rfl,_,j3,rfl⟩,yh,fun b hb=>(hf b hb).1⟩⟩
  done:=by intro X hP hw hK hc i ah s σ H E I hf st hg;subst hP hw hK;obtain⟨hi,hz⟩:=hg;obtain⟨f0,f1,f2,f3,f4,f5⟩:=hf it (by simp);have da:s.heap.DictAt (mw X.prog X.w) a vs ep:=⟨o,es,(I.eB a _ hz).1,ho⟩;exact wpAny_pyNext_values_end (I.ok.hd hc) st da (fT (by rw[<-jJ.length];exact hi)) fun h' eb=>⟨rfl,I.turned (t':=s.toks) (fun b o hb e=>eb b o hb e) f0 f1 f3 f4 f5⟩
  self:=fun _ _ _ _ _ st h=>wpAny_pyIter_valiter st h
section
variable{X:Cx}
end
def RX(t1 t2:TE):TE:=fun σ H Q=>t1 σ H Q\/t2 σ H Q
section
variable{X:Cx}
theorem Iq{e:Expr}{t1 t2:TE}(h1:PE X e t1)(h2:PE X e t2):PE X e (RX t1 t2):=fun ah s σ H Q I h=>h.elim (h1 ah s σ H Q I) (h2 ah s σ H Q I)
def RD:V->Option Int->Option Int->Hp->VK->Prop:=fun x lo hi H Q=>∃z,x= .str z/\z.length<=sizeLine/\Q (.str (Txt.slice z lo hi)) H
theorem zzk:NT X RD:=by
 intro ah s σ H x v vl vu lo hi sl Q I rx hs pl pu h;obtain⟨z,rfl,hz,q⟩:=h;obtain⟨t,rfl⟩:=rx;refine⟨"str",_,slot_str_getitem.lookup,typeIs_str s z t,?_⟩;have fin:∀l u:Option (Int×Tok),l.map (·.1)=lo->u.map (·.1)=hi->(sliceMade z t l u none).post (EP X ah σ Q) s:=fun l u el eu=>by
  unfold sliceMade;unfold Txt.slice at q;rw[<-el,<-eu]at q;have q:Q (.str (if((jH (fun x:Int×Tok=>x.1) none).getD 1 ==1 && (slicePicked z l u none).length ==z.length)=true then z else{cps:=(yz (fun x=>z.cps[x]?) (slicePicked z l u none)).toArray})) H:=q;split
  ·rename_i c
   rw[if_pos c]at q;exact⟨.str z,H,I,⟨_,rfl⟩,q⟩
  ·rename_i c
   rw[if_neg c]at q;have le:=Txt.slice_le z lo hi;unfold Txt.slice at le;rw[<-el,<-eu]at le;have le:(if((jH (fun x:Int×Tok=>x.1) none).getD 1 ==1 && (slicePicked z l u none).length ==z.length)=true then z else{cps:=(yz (fun x=>z.cps[x]?) (slicePicked z l u none)).toArray}).length<=z.length:=le;rw[if_neg c]at le;exact⟨bO le hz,.str _,H,I.tok _,⟨_,rfl⟩,q⟩
 cases pl with
 |none=>cases pu with
  |none=>exact wpAny_getItem_str_slice (l:=none) (u:=none) (st:=none) hs rfl (fin none none rfl rfl)
  |int j uj=>exact wpAny_getItem_str_slice (l:=none) (u:=some (j,uj)) (st:=none) hs rfl (fin none (some (j,uj)) rfl rfl)
 |int i ui=>cases pu with
  |none=>exact wpAny_getItem_str_slice (l:=some (i,ui)) (u:=none) (st:=none) hs rfl (fin (some (i,ui)) none rfl rfl)
  |int j uj=>exact wpAny_getItem_str_slice (l:=some (i,ui)) (u:=some (j,uj)) (st:=none) hs rfl (fin (some (i,ui)) (some (j,uj)) rfl rfl)
def Mt:R2:=fun x y H Q=>∃z n,x= .str z/\y= .int n/\0<=n/\n<1000/\z.length<1000/\Q (.str (Txt.mul z n)) H
theorem Su:oH X (binaryOp .Mult) Mt:=by
 intro ah s σ H x y v u Q I rx ry h;obtain⟨z,n,rfl,rfl,n0,n1,hz,q⟩:=h;obtain⟨t,rfl⟩:=rx;obtain⟨t',rfl⟩:=ry;refine SB.mul ⟨?_,fun a b=>?_,fun a b=>?_⟩ fun t' k=>⟨.str _,H,I.tok _,⟨_,rfl⟩,q⟩
 ·simp;omega
 ·have h1:(z.length:Int)*n<=2^63-1:=by have:=dS (show(z.length:Int)<=1000 by omega) (show n<=1000 by omega) n0 (by decide);omega
  have:=(Int.le_ediv_iff_mul_le (show 0<n by omega)).mpr h1;omega
 ·unfold Builtin.Str.tooLong;rw[decide_eq_false_iff_not];have h1:=Nat.mul_le_mul (show z.length<=1000 by omega) (show n.toNat<=1000 by omega);have hs:sizeLine=16777216:=sizeLine_eq;omega
end
theorem zuh{P:Program}{w:World}{A:Around}{Kt:Type}[DecidableEq Kt]{knd:KeyKind P w Kt}(hh:A.handled=none)(it a:Addr)(ne:it≠a)(vs:List (Kt×Value))(ep:Nat):
    WalksS P w A it [it,a] [it] (fun x y=>x=y) vs.length (fun i v=>∃k,vs[i]?=some (k,v)) (fun i s=>s.heap.IsValIter it a i vs.length ep/\s.heap.DictAt knd a vs ep) where
  sub:=fun b hb=>by rw[aC.mp hb];simp
  grefl:=fun _=>rfl
  gtrans:=fun _ _ _ h1 h2=>h1.trans h2
  frame:=fun i s h' tk⟨st,da⟩ _ hk=>by obtain⟨o,e,c⟩:=st;obtain⟨o',es,e',c'⟩:=da;exact⟨⟨o,hk it (by simp) o e,c⟩,o',es,hk a (by simp) o' e',c'⟩
  item:=fun i s Q E hi⟨st,da⟩ q=>by have hv:vs[i]?=some (vs[i]'hi):=aU _;refine wpAny_pyNext_values_item (k:=(vs[i]'hi).1) (v:=(vs[i]'hi).2) st da hv fun h' yh sb=>?_;obtain⟨o',es,e',c'⟩:=id da;exact q _ _ ⟨_,hv⟩ ⟨yh,o',es,(sb.2 a (fun z=>ne z.symm)).trans e',c'⟩ ⟨fun b o hb e=>(sb.2 b (by simpa using hb)).trans e,rfl,rfl,rfl,aq _⟩
  done:=fun s Q E⟨st,da⟩ q=>by refine wpAny_pyNext_values_end hh st da (fT (aq _)) fun h' eb=>q _ ⟨fun b o hb e=>eb b o (by simpa using hb) e,rfl,rfl,rfl,aq _⟩
  self:=fun i s Q E⟨st,_⟩ h=>wpAny_pyIter_valiter st h
theorem Sv{kvs:List (Key×V)}{vs:List (Key×Value)}(jJ:KV kvs vs){ns:List Int}(hk:kvs.map (·.2)=ns.map V.int){i:Nat}{k:Key}{v:Value}(h:vs[i]?=some (k,v)):∃t,v=Value.int (ns.getD i 0) t:=by
 have hi:i<kvs.length:=by rw[jJ.length];exact(aD.mp h).1
 have j3:kvs[i]?=some kvs[i]:=aU hi;obtain⟨q,hq,rq⟩:=OQ jJ j3;rw[h]at hq;cases hq
 have e:(kvs.map (·.2))[i]?=some kvs[i].2:=by rw[aK,j3];rfl
 rw[hk,aK]at e;cases en:ns[i]? with
 |none=>rw[en]at e;cases e
 |some n=>
  rw[en]at e;have e:V.int n=kvs[i].2:=ak e;have r:=rq.2;rw[<-e]at r;obtain⟨t,ht⟩:=r;exact⟨t,by rw[dR,en];exact ht⟩
theorem XZ:∀(ns:List Int)(k:Nat),k<=ns.length->preSum (fun i=>ns.getD i 0) k=(ns.take k).sum
 |_,0,_=>rfl
 |ns,k+1,h=>by have e:ns[k]?=some ns[k]:=aU (by omega);rw[L2.mP e,IE,List.sum_singleton,<-XZ ns k (by omega)];show preSum _ k+ns.getD k 0=_;rw[dR,e];rfl
def Ia(td:TE):TE:=fun σ H Q=>td σ H fun x H1=>∃(a:Addr)(kvs:List (Key×V))(ns:List Int),x= .ref a/\H1 a=some (.dK kvs)/\kvs.map (·.2)=ns.map V.int/\Q (.int ns.sum) H1
section
variable{X:Cx}
theorem Sy{o:Expr}{td:TE}{p pos gC gO:Pos}(hc:X.calm=true)(ho:PE X o td)(hg:Gl X "sum")(hm:X.mg "sum"=none)(nI:attributeBase o "values" X.env (eval o X.env)=eval o X.env:=by rfl)(nJ:(gC.endLine ==gO.line)=true:=by rfl)(hs:starEach [.Call (.Attribute o "values" gC) [] [] gO] X.env=(false,eval (.Call (.Attribute o "values" gC) [] [] gO) X.env)::starEach [] X.env:=by rfl)(Ak:(backTo pos (starEach [] X.env)).any (·.1)=false:=by rfl):
    PE X (.Call (.Name "sum" p) [.Call (.Attribute o "values" gC) [] [] gO] [] pos) (Ia td):=by
  intro ah s σ H Q I h;refine wpAny_Call_Name_kw (J4 I hg hm PyProof.Rows.boot_sum ?_ (by decide) (by decide));refine qo ?_ hs Ak;rw[hs];show wpAny _ _ (spliced ((false,eval _ X.env)::backTo pos (starEach [] X.env))) _ _ s;refine Calls.spliced_cons (wpAny_Call_method0_late nI nJ (eJ (ho ah s σ H _ I h) fun v s1⟨x,H1,I1,r1,a,kvs,ns,ex,ha,hk,q⟩=>?_));subst ex;obtain rfl:v=Value.ref a:=r1;obtain⟨t1,t2,_⟩:=Pp I1 (.inl ⟨kvs,.inl ha⟩);obtain⟨z,hd,vs,jJ,o',es,ep,Ai,hx⟩:=uH I1.eB ha;refine⟨"dict","dict.values",iO,iB,xM,t1,t2,Calls.callWith_builtin rfl (iC ?_)⟩;refine call_meetsIn iB t1 wE (vN _) (meets_dict_values (mw X.prog X.w) a hd) ⟨⟨vs,o',es,ep,Ai,hx⟩,?_⟩;have Iv:Inv X ah σ H1 {s1 with heap:=s1.heap.push {cls:=.type "dict_values",data:=.fields #[.ref a]}}:=I1.kept (t':=s1.toks) fun b o e=>Heap.get?_push_of_some _ e;have AR:(s1.heap.push {cls:=.type "dict_values",data:=.fields #[.ref a]}).get? a=some o':=Heap.get?_push_of_some _ Ai;have D9:(s1.heap.push {cls:=.type "dict_values",data:=.fields #[.ref a]}).IsValuesView s1.heap.objs.size a:=⟨_,Heap.get?_push_size _ rfl,rfl,rfl⟩;have ll:kvs.length=ns.length:=by have:=congrArg gG hk;rw[ae,ae]at this;exact this
  refine Calls.spliced_nil ?_;generalize s1.heap.push {cls:=.type "dict_values",data:=.fields #[.ref a]}=hv at Iv AR D9⊢;refine call_sum_walkAnyS (wpAny_pyIter_values (s:={s1 with heap:=hv}) (knd:=mw X.prog X.w) D9 ⟨o',es,AR,hx⟩ ?_);have fresh:H1 hv.objs.size=none:=Iv.eB.fresh (aq _);have na:hv.objs.size≠a:=fun y=>by rw[y,ha]at fresh;cases fresh
  have W:=zuh (P:=X.prog) (w:=X.w) (A:=X.A.in1) (knd:=mw X.prog X.w) (I1.ok.hd hc) hv.objs.size a na vs ep;refine⟨hv.objs.size,[hv.objs.size,a],[hv.objs.size],fun x y=>x=y,vs.length,_,_,fun i=>ns.getD i 0,rfl,W,⟨⟨_,Heap.get?_push_size _ rfl,rfl,rfl⟩,o',es,Heap.get?_push_of_some _ AR,hx⟩,fun b hb=>?_,fun i v⟨k,hv⟩=>Sv jJ hk hv,fun s' t' mv=>?_⟩
  · have l1:a<hv.objs.size:=Heap.lt_size AR;simp only[ao,bf,or_false]at hb;show b<(hv.push _).objs.size;rw[size_push'];rcases hb with rfl|rfl
    · exact vM _
    · exact gk l1
  · obtain⟨h',g',d',tk',Wi⟩:=s';obtain⟨m1,m2,m3,m4,m5⟩:=mv;cases m2
    cases m3;cases m4
    refine⟨.int ns.sum,H1,Iv.kept (t':=tk') fun b o e=>m1 b o ?_ (Heap.get?_push_of_some _ e),⟨t',?_⟩,q⟩
    · have:=Heap.lt_size e;intro z;have z:=aC.mp z;rw[z]at this;exact fN _ this
    · rw[<-jJ.length,ll,XZ ns ns.length (aq _),bC]
end
def sg(c:Nat):Str:=⟨#[c]⟩
def PJ(z:Str):It:=⟨fun i _=>i<z.length,fun i H x H'=>H'=H/\∃c,z.cps.toList[i]?=some c/\x= .str (sg c),fun i _=>z.length<=i⟩
theorem zye{P:Program}{w:World}{K:aa}{tg:Expr}(it:Addr)(z:Str)(t:Tok)(ty:String)(Fe:ty="str_ascii_iterator"\/ty="str_iterator"):vQ P w K tg (PJ z) [it] it (fun i h=>h.IsStrIter it ty z t i) where
 mem:=by simp
 obj:=fun i h st b hb=>by
  have e:b=it:=by simpa using hb
  subst e;obtain⟨o,e,c,d⟩:=st;exact⟨o,e,fun v z=>by rw[d]at z;cases z⟩
 keep:=fun i h h' st k=>by obtain⟨o,e,r⟩:=st;exact⟨o,k it (by simp) o e,r⟩
 item:=by
  intro X hP hw hK hc i ah s σ H E I hf st hg;subst hP hw hK;obtain⟨f0,f1,f2,f3,f4,f5⟩:=hf it (by simp);have hg:i<z.cps.size:=hg;have W:Walks X.prog X.w X.A it [it] [it] z.cps.size (SignAt z) (fun i h=>h.IsStrIter it ty z t i):=by
   rcases Fe with rfl|rfl
   ·exact Walks.strAscii (I.ok.hd hc) it z t
   ·exact Walks.strWide (I.ok.hd hc) it z t
  refine W.item i s _ _ hg st fun v h' tk hv yh kk=>?_;obtain⟨c,u,hc1,rfl⟩:=hv;have I1:Inv X ah σ H {s with heap:=h',toks:=tk}:=I.turned (fun b o hb e=>kk b o (by simpa using hb) e) f0 f1 f3 f4 f5;obtain⟨o,e,c1,d⟩:=id yh;refine⟨_,rfl,wL (s:={s with heap:=h',toks:=tk}) e c1 d (by rcases Fe with rfl|rfl <;> decide) ⟨.str (sg c),H,I1,⟨u,rfl⟩,⟨rfl,c,by rw[oq];exact hc1,rfl⟩,yh,fun b hb=>(hf b hb).1⟩⟩
 done:=by
  intro X hP hw hK hc i ah s σ H E I hf st hg;subst hP hw hK;obtain⟨f0,f1,f2,f3,f4,f5⟩:=hf it (by simp);have hg:z.cps.size<=i:=hg;rcases Fe with rfl|rfl
  ·exact wpAny_pyNext_ascii_end (I.ok.hd hc) st (by simpa using hg) fun h' eb=>⟨rfl,I.turned (t':=s.toks) (fun b o hb e=>eb b o hb e) f0 f1 f3 f4 f5⟩
  ·exact wpAny_pyNext_wide_end (I.ok.hd hc) st (by simpa using hg) fun h' eb=>⟨rfl,I.turned (t':=s.toks) (fun b o hb e=>eb b o hb e) f0 f1 f3 f4 f5⟩
 self:=fun _ _ _ _ _ st h=>by
  rcases Fe with rfl|rfl
  ·exact wpAny_pyIter_striter_ascii st h
  ·exact wpAny_pyIter_striter_wide st h
section
variable{X:Cx}{tg:Expr}
def LL(tl:TE):TI:=fun σ H R=>tl σ H fun x H1=>∃z,x= .str z/\R (PJ z) H1
theorem TX{l:Expr}{tl:TE}(hl:PE X l tl):PI X tg l (LL tl):=by
 intro ah s σ H R I h;refine eJ (hl ah s σ H _ I h) fun v s1⟨x,H1,I1,r1,q1⟩=>?_;obtain⟨z,rfl,q⟩:=q1;obtain⟨t,rfl⟩:=r1;have fin:∀ty,(ty="str_ascii_iterator"\/ty="str_iterator")->PM X ah σ tg R (.ref s1.heap.objs.size) {s1 with heap:=s1.heap.push {cls:=.type ty,data:=.fields #[.str z t,.int 0 0]}}:=fun ty Fe=>by
  refine⟨s1.heap.objs.size,[s1.heap.objs.size],_,_,H1,rfl,I1.kept (t':=s1.toks) fun b o e=>Heap.get?_push_of_some _ e,zye _ z t ty Fe,⟨_,Heap.get?_push_size _ rfl,rfl,rfl⟩,fun b hb=>?_,q⟩;have e:b=s1.heap.objs.size:=by simpa using hb
  subst e;exact I1.zj (aq _) (I1.eB.fresh (aq _))
 cases ha:z.cps.all (· < 128)
 ·exact wpAny_pyIter_wide ha (fin _ (.inr rfl))
 ·exact wpAny_pyIter_ascii ha (fin _ (.inl rfl))
end
theorem zyf{z:Str}{g:TG}{tc:TT}{te:TE}{D:Addr}{τ:St}{H:Hp}{Q:VK}(Pv:Nat->St->Hp->Prop)(h0:Pv 0 τ H)(hs:∀i c τ H,z.cps.toList[i]?=some c->Pv i τ H->g (.str (sg c)) τ H fun τ2 H3=>tc τ2 H3 fun b H4=>if b=true then te τ2 H4 fun y H5=>∃ys,H5 D=some (.lst ys)/\ys.length<sizeLine/\Pv (i+1) τ2 (aH H5 D (.lst (ys++[y])))else Pv (i+1) τ2 H4)(hd:∀τ H,Pv z.length τ H->Q (.ref D) H):pe (PJ z) g tc te D τ H Q:=by
  refine⟨fun i m τ H=>m=z.length-i/\i<=z.length/\Pv i τ H,⟨z.length,by simp,bW _,h0⟩,?_⟩;rintro i m τ H ⟨rfl,hi,p⟩;by_cases jT:i<z.length
  · refine .inr ⟨jT,Pv (i+1),fun τ' H' p'=>⟨z.length-(i+1),by omega,rfl,jT,p'⟩,fun x H' y=>?_⟩;obtain⟨e,c,hc,y⟩:=y;subst e y;exact hs i c τ H' hc p
  · have:i=z.length:=by omega
    subst this;exact .inl ⟨aq _,hd _ _ p⟩
section
variable{X:Cx}
def RC:R2:=fun x y H Q=>∃z w,x= .str z/\y= .str w/\Q (.bl (Txt.contains w z)) H
theorem TY:oH X (compareOp .In) RC:=by intro ah s σ H x y v u Q I rx ry h;obtain⟨z,w,rfl,rfl,q⟩:=h;obtain⟨t,rfl⟩:=rx;obtain⟨t',rfl⟩:=ry;exact SB.contains ⟨.bl _,H,I,rfl,q⟩
abbrev TJ:=St->Hp->Str->(Str->Hp->Prop)->Prop
end
theorem KN{X:Cx}{x z:Str}{pos:Pos}(hg:Gl X x)(hm:∃t,X.mg x=some (.str z t))(hd:(x ==("__debug__":Str))=false:=by decide):PE X (.Name x pos) (tC (.str z)):=by obtain⟨t,hm⟩:=hm;exact O8 hg hm ⟨t,rfl⟩ hd
section
variable{M:Model}{A:Around}{E:Value->Shared->Prop}{s:Shared}{B:Heap}{env:Env}{outer:List Env}{L e:Addr}{cls:Value}{iH:Option Addr}
end
section
variable{X:Cx}{ah:List (Addr×Obj)}{σ:St}{H H':Hp}{s:Shared}{h':Heap}
end
section
variable{P:Program}{w:World}{X:Cx}{scope:Scope}{cl:List (Str×Addr)}{N:List Str}{Ek:XH}{fp:List Addr}{s s':Shared}{H H':Hp}{ah:List (Addr×Obj)}{τ:St}
end
section
variable{P:Program}{w:World}{K:aa}{mg:Str->Option Value}{base:Heap}{N:List Str}{dQ:Str}{sc:Scope}{f:Addr}{cd:Value}{A:Around}{outer:List Env}{s₀:Shared}{H₀:Hp}{E:XK}
end
end L2
namespace Sw
open PySem L2
def Qe:Str:=Str.ofString "0123456789"
theorem in_str(x:Str)(c:Nat):Txt.contains x (sg c)=decide (c∈x.cps.toList):=StrLaws.found_one x c
theorem len_list(x:Str):x.cps.toList.length=x.length:=kP
def zzl(z:Str):Prop:=z.cps.toList[0]?=some 48/\1<z.length
def K1(z:Str):Prop:=∀c∈z.cps.toList,c∈Qe.cps.toList
instance (z:Str):Decidable (zzl z):=by unfold zzl;exact inferInstance
instance (z:Str):Decidable (K1 z):=by unfold K1;exact inferInstance
def NR(n:Int):Prop:=0<=n/\n<10000000000000
def N4(q:Q4):Prop:=NR q.1/\NR q.2.1/\NR q.2.2.1/\NR q.2.2.2
end Sw
namespace PySem
open Sem (wp)
open Builtin Builtin.Str Builtin.Int
namespace F
end F
section
variable{prog:Program}{w:World}{A:Around}{E:Value->Shared->Prop}{s:Shared}{I:Addr}{fp wr:List Addr}{G:Array GenState->Array GenState->Prop}{n:Nat}{P:Nat->Value->Prop}{St:Nat->Shared->Prop}
end
end PySem
namespace L2
open PySem PySem.Spec PyProof.Rows
section
variable{X:Cx}
end
section
variable{X:Cx}
end
end L2
namespace Sw
open PySem L2 PyProof.Rows
def Below(h:Str):Prop:=h.cps.toList[0]?=some 45
instance (h:Str):Decidable (Below h):=by unfold Below;exact inferInstance
end Sw
namespace L2
open PySem PySem.Spec PyProof.Rows
theorem gA{X:Cx}{i:Nat}{x:Str}{e:Expr}{te:TE}{tY pos:Pos}(hN:X.N.Nodup)(hi:X.N[i]?=some x)(he:PE X e te)(hx:Loc X.env.scope x:=by first|exact Or.inl rfl|exact Or.inr rfl)(hs:swapsWith e (some (.Name x tY)) pos.line X.env=pure false:=by rfl)(hf:X.fn x=true\/X.env.scope.names.lookup x=some .local:=by first|exact .inl rfl|exact .inr rfl|assumption):
    PS X (.Assign [.Name x tY] e pos) (wu te (nH i)):=Tj hN hi hx he hs hf
end L2
namespace Sw
open PySem L2 PyProof.Rows
abbrev dg(n:Nat):List Char:=Nat.toDigits 10 n
end Sw
namespace L2
open PySem PySem.Spec PyProof.Rows
section
variable{X:Cx}
end
end L2
namespace L2
open PySem PySem.Spec PyProof.Rows PySem.MeetsSeq
section
variable{X:Cx}
end
end L2
namespace L2
open PySem PySem.Spec PyProof.Rows
section
variable{X:Cx}
end
section
variable{X:Cx}
end
theorem zwj{a:Addr}{kvs:List (Key×V)}{o:Obj}{g:TG}{tc:TT}{te:TE}{D:Addr}{τ:St}{H:Hp}{Q:VK}(Pv:Nat->St->Hp->Prop)(h0:Pv 0 τ H)(hz:∀i τ H,i<=kvs.length->Pv i τ H->H a=some (.jm o (.dK kvs)))(hs:∀i kv τ H,kvs[i]?=some kv->Pv i τ H->g kv.2 τ H fun τ2 H3=>tc τ2 H3 fun b H4=>if b=true then te τ2 H4 fun y H5=>∃ys,H5 D=some (.lst ys)/\ys.length<sizeLine/\Pv (i+1) τ2 (aH H5 D (.lst (ys++[y])))else Pv (i+1) τ2 H4)(hd:∀τ H,Pv kvs.length τ H->Q (.ref D) H):pe (FJ a o kvs) g tc te D τ H Q:=by
  refine⟨fun i m τ H=>m=kvs.length-i/\i<=kvs.length/\Pv i τ H,⟨kvs.length,by simp,bW _,h0⟩,?_⟩;rintro i m τ H ⟨rfl,hi,p⟩;have q:=hz i τ H hi p;by_cases jT:i<kvs.length
  · refine .inr ⟨⟨jT,q⟩,Pv (i+1),fun τ' H' p'=>⟨kvs.length-(i+1),by omega,rfl,jT,p'⟩,fun x H2 z=>?_⟩;obtain⟨rfl,kv,j3,rfl⟩:=z;exact hs i kv τ _ j3 p
  · have e:i=kvs.length:=by omega
    subst e;exact .inl ⟨⟨aq _,q⟩,hd τ H p⟩
structure At(nm:Nm):Prop where
 nd:(nm.map (·.1)).Nodup
 sh:∀x s,aP nm x=some s->1<=s/\s<=1000000
 ok:∀y∈nm.map (·.1),PyData.strOk y=true
theorem At.nil:At []:=⟨.nil,fun x s e=>by(cases e),fun y h=>absurd h bf⟩
theorem At.put{nm:Nm}(h:At nm){x:Str}{s:Int}(hx:aP nm x=none)(s0:1<=s)(s1:s<=1000000)(ok:PyData.strOk x=true):At (nm++[(x,s)]):=by
 refine⟨?_,fun y t e=>?_,fun y hy=>?_⟩
 ·rw[aA];exact cY.mpr ⟨h.nd,by simp,fun y hy z hz=>by
   have:z=x:=by simpa using hz
   rw[this];intro e;exact(Sw.j4.mp hx) (e▸hy)⟩
 ·rw[KL hx]at e;split at e
  ·cases e;exact⟨s0,s1⟩
  ·exact h.sh y t e
 ·rw[aA]at hy;rcases ay.mp hy with z|z
  ·exact h.ok y z
  ·have:y=x:=by simpa using z
   rw[this];exact ok
theorem At.gH{nm:Nm}(h:At nm){x:Str}{s:Int}(s0:1<=s)(s1:s<=1000000):At (putN nm x s):=by
 refine⟨?_,fun y t e=>?_,fun y hy=>?_⟩
 ·rw[Sw.jz];exact h.nd
 ·rw[GU]at e;split at e
  ·cases e':aP nm y with
   |none=>rw[e']at e;cases e
   |some v=>rw[e']at e;cases e;exact⟨s0,s1⟩
  ·exact h.sh y t e
 ·rw[Sw.jz]at hy;exact h.ok y hy
inductive b5|st (nm:Nm) (tg gs:Str->Option Rat) (ck:Rat) (ch:V) (N:Nat)
 |rd (nm:Nm) (q:List Str) (rs:Nm) (tu:Option Str) (ch:V)
def b5.nm:b5->Nm
 | .st nm _ _ _ _ _=>nm
 | .rd nm _ _ _ _=>nm
def b5.sz:b5->Nat
 | .st _ _ _ _ _ N=>N
 | .rd nm _ _ _ _=>nm.length
def b5.Ok(m:Int):b5->Prop
 | .st nm tg gs _ _ _=>At nm/\∀x,aP nm x≠none->∃t g,tg x=some t/\gs x=some g
 | .rd nm q rs tu _=>At nm/\Sw.RI m nm q rs tu
theorem b5.Ok.F6{m:Int}:∀{c:b5},c.Ok m->At c.nm
 | .st ..,h=>h.1
 | .rd ..,h=>h.1
def b5.put(x:Str)(s:Int):b5->b5
 | .st nm tg gs ck ch N=>.st (nm++[(x,s)]) (gY tg x 0) (gY gs x 0) ck ch (N+3)
 | .rd nm q rs tu ch=>.rd (nm++[(x,s)]) (q++[x]) (rs++[(x,0)]) tu ch
def b5.gH(m:Int)(x:Str)(s:Int):b5->b5
 | .st nm tg gs ck ch N=>.st (putN nm x s) tg gs ck ch N
 | .rd nm q rs tu ch=>.rd (putN nm x s) q (putN rs x (if s*m<(aP rs x).getD 0 then s*m else(aP rs x).getD 0)) tu ch
def b5.new(JG:Bool):b5:=if JG then .rd [] [] [] none .b7 else .st [] (fun _=>none) (fun _=>none) 0 .b7 0
theorem b5.Eo{x:Str}{s:Int}(c:b5):(c.put x s).nm=c.nm++[(x,s)]:=by cases c <;> rfl
theorem b5.BJ{m:Int}{x:Str}{s:Int}(c:b5):(c.gH m x s).nm=putN c.nm x s:=by cases c <;> rfl
theorem b5.x9(b:Bool):(b5.new b).nm=[]:=by cases b <;> rfl
def yM(cS cR cM:Addr)(H:Hp)(a:lz)(m:Int):b5->Prop
 | .st nm tg gs ck ch N=>Sx cS cM H a m nm tg gs ck ch N
 | .rd nm q rs tu ch=>Rx cR cM H a m nm q rs tu ch
def lI(a:lz):List Addr:=[a.p,a.pm,a.ps,a.pt,a.pg]
theorem iS{a:lz}{b:Addr}:b∈lI a↔b=a.p\/b=a.pm\/b=a.ps\/b=a.pt\/b=a.pg:=by unfold lI;simp
section
variable{cS cR cM:Addr}{H H':Hp}{a:lz}{m:Int}{c:b5}
theorem yM.keep(h:yM cS cR cM H a m c)(e:∀b o,(b∈lI a\/∃xs,H b=some (.tup xs))->H b=some o->H' b=some o):yM cS cR cM H' a m c:=by
 have e1:∀b o,(b=a.p\/b=a.pm\/b=a.ps\/b=a.pt\/b=a.pg\/∃xs,H b=some (.tup xs))->H b=some o->H' b=some o:=fun b o hb=>e b o (by
  rcases hb with z|z|z|z|z|z
  ·exact .inl (iS.mpr (.inl z))
  ·exact .inl (iS.mpr (.inr (.inl z)))
  ·exact .inl (iS.mpr (.inr (.inr (.inl z))))
  ·exact .inl (iS.mpr (.inr (.inr (.inr (.inl z)))))
  ·exact .inl (iS.mpr (.inr (.inr (.inr (.inr z)))))
  ·exact .inr z)
 cases c with
 |st nm tg gs ck ch N=>
  have S:Sx cS cM H a m nm tg gs ck ch N:=h;obtain⟨dx,fs,pr,h1,h2,h3⟩:=S.ex;obtain⟨dm,fm,m1,m2,m3,m4⟩:=S.mb.ex;exact⟨⟨dx,fs,pr,e1 _ _ (.inl rfl) h1,h2,e1 _ _ (.inr (.inr (.inr (.inr (.inr ⟨_,h3⟩))))) h3⟩,⟨⟨dm,fm,e1 _ _ (.inr (.inl rfl)) m1,m2,m3,m4⟩,e1 _ _ (.inr (.inr (.inl rfl))) S.mb.hs⟩,
   S.dt.keep fun b o hb=>e1 b o (hb.elim (fun z=>.inr (.inr (.inr (.inl z)))) fun z=>.inr (.inr (.inr (.inr (.inr z))))),S.dg.keep fun b o hb=>e1 b o (hb.elim (fun z=>.inr (.inr (.inr (.inr (.inl z))))) fun z=>.inr (.inr (.inr (.inr (.inr z))))),S.nl,S.n1,S.n2,S.n3,S.n4⟩
 |rd nm q rs tu ch=>
  have S:Rx cR cM H a m nm q rs tu ch:=h;obtain⟨dx,fs,h1,h2⟩:=S.ex;obtain⟨dm,fm,m1,m2,m3,m4⟩:=S.mb.ex;exact⟨⟨dx,fs,e1 _ _ (.inl rfl) h1,h2⟩,⟨⟨dm,fm,e1 _ _ (.inr (.inl rfl)) m1,m2,m3,m4⟩,e1 _ _ (.inr (.inr (.inl rfl))) S.mb.hs⟩,e1 _ _ (.inr (.inr (.inr (.inl rfl)))) S.hq,e1 _ _ (.inr (.inr (.inr (.inr (.inl rfl))))) S.hr,S.n3,S.n4⟩
theorem yM.at(h:yM cS cR cM H a m c){b:Addr}(hb:b∈lI a):∃o,H b=some o/\∀xs,o≠.tup xs:=by
 cases c with
 |st nm tg gs ck ch N=>
  have S:Sx cS cM H a m nm tg gs ck ch N:=h;obtain⟨dx,fs,pr,h1,h2,h3⟩:=S.ex;obtain⟨dm,fm,m1,_⟩:=S.mb.ex;obtain⟨kt,t1,_⟩:=S.dt.ex;obtain⟨kg,g1,_⟩:=S.dg.ex;rcases iS.mp hb with z|z|z|z|z <;> subst z
  ·exact⟨_,h1,by intro xs y;cases y⟩
  ·exact⟨_,m1,by intro xs y;cases y⟩
  ·exact⟨_,S.mb.hs,by intro xs y;cases y⟩
  ·exact⟨_,t1,by intro xs y;cases y⟩
  ·exact⟨_,g1,by intro xs y;cases y⟩
 |rd nm q rs tu ch=>
  have S:Rx cR cM H a m nm q rs tu ch:=h;obtain⟨dx,fs,h1,h2⟩:=S.ex;obtain⟨dm,fm,m1,_⟩:=S.mb.ex;rcases iS.mp hb with z|z|z|z|z <;> subst z
  ·exact⟨_,h1,by intro xs y;cases y⟩
  ·exact⟨_,m1,by intro xs y;cases y⟩
  ·exact⟨_,S.mb.hs,by intro xs y;cases y⟩
  ·exact⟨_,S.hq,by intro xs y;cases y⟩
  ·exact⟨_,S.hr,by intro xs y;cases y⟩
end
theorem yM.nodup{cS cR cM:Addr}{H:Hp}{a:lz}{m:Int}{c:b5}(h:yM cS cR cM H a m c):(lI a).Nodup:=by
 have go:a.p≠a.pm->a.p≠a.ps->a.p≠a.pt->a.p≠a.pg->a.pm≠a.ps->a.pm≠a.pt->a.pm≠a.pg->a.ps≠a.pt->a.ps≠a.pg->a.pt≠a.pg->(lI a).Nodup:=by intro h1 h2 h3 h4 h5 h6 h7 h8 h9 yG;unfold lI;simp[h1,h2,h3,h4,h5,h6,h7,h8,h9,yG]
 cases c with
 |st nm tg gs ck ch N=>
  have S:Sx cS cM H a m nm tg gs ck ch N:=h;obtain⟨dx,fs,pr,h1,h2,h3⟩:=S.ex;obtain⟨dm,fm,m1,_⟩:=S.mb.ex;obtain⟨kt,t1,_⟩:=S.dt.ex;obtain⟨kg,g1,_⟩:=S.dg.ex;exact go S.n4 (cj h1 S.mb.hs (by intro z;cases z)) (cj h1 t1 (by intro z;cases z)) (cj h1 g1 (by intro z;cases z)) (cj m1 S.mb.hs (by intro z;cases z)) (cj m1 t1 (by intro z;cases z)) (cj m1 g1 (by intro z;cases z)) S.n2.symm S.n3.symm S.n1
 |rd nm q rs tu ch=>
  have S:Rx cR cM H a m nm q rs tu ch:=h;obtain⟨dx,fs,h1,h2⟩:=S.ex;obtain⟨dm,fm,m1,_⟩:=S.mb.ex;exact go S.n4 (cj h1 S.mb.hs (by intro z;cases z)) (cj h1 S.hq (by intro z;cases z)) (cj h1 S.hr (by intro z;cases z)) (cj m1 S.mb.hs (by intro z;cases z)) (cj m1 S.hq (by intro z;cases z)) (cj m1 S.hr (by intro z;cases z)) (cj S.mb.hs S.hq (by intro z;cases z)) S.n3.symm (cj S.hq S.hr (by intro z;cases z))
section
variable{m:Int}{c:b5}{x:Str}{s:Int}
theorem b5.Ok.put(h:c.Ok m)(hx:aP c.nm x=none)(s0:1<=s)(s1:s<=1000000)(ok:PyData.strOk x=true):(c.put x s).Ok m:=by
 cases c with
 |st nm tg gs ck ch N=>
  refine⟨h.1.put hx s0 s1 ok,fun y hy=>?_⟩;unfold gY;by_cases e:y=x
  ·rw[if_pos e,if_pos e];exact⟨_,_,rfl,rfl⟩
  ·have hx:aP nm x=none:=hx;rw[KL hx,if_neg e]at hy;rw[if_neg e,if_neg e];exact h.2 y hy
 |rd nm q rs tu ch=>exact⟨h.1.put hx s0 s1 ok,h.2.put hx s0 s1⟩
theorem b5.Ok.gH(h:c.Ok m)(hx:aP c.nm x≠none)(s0:1<=s)(s1:s<=1000000):(c.gH m x s).Ok m:=by
 cases c with
 |st nm tg gs ck ch N=>
  refine⟨h.1.gH s0 s1,fun y hy=>h.2 y fun z=>hy ?_⟩;rw[GU,z];split <;> rfl
 |rd nm q rs tu ch=>
  refine⟨h.1.gH s0 s1,?_⟩;have:aP rs x≠none:=by have hx:aP nm x≠none:=hx;rw[Sw.jt]at hx⊢;rw[h.2.ks];exact hx
  cases e:aP rs x with
  |none=>exact absurd e this
  |some r=>
   exact h.2.gH hx e s0 s1
theorem b5.Ok.new(h:1<=m)(b:Bool):(b5.new b).Ok m:=by
 cases b with
 |true=>exact⟨At.nil,.nil h⟩
 |false=>exact⟨At.nil,fun y hy=>absurd rfl hy⟩
end
def iJ(S:List Addr)(H H':Hp):Prop:=∀b o,b∉S->H b=some o->H' b=some o
theorem bI.kU{S:List Addr}{H H':Hp}(h:bI H H'):iJ S H H':=fun b o _ e=>h b o e
theorem iJ.trans{S:List Addr}{H H1 H2:Hp}(x:iJ S H H1)(y:iJ S H1 H2):iJ S H H2:=fun b o n e=>y b o n (x b o n e)
theorem iJ.mono{S S':List Addr}{H H1:Hp}(x:iJ S H H1)(h:∀b∈S,b∈S'):iJ S' H H1:=fun b o n e=>x b o (fun z=>n (h b z)) e
theorem lS.kU{a:lz}{H H':Hp}(w:lS a H H'):iJ (lI a) H H':=fun b o n e=>by rw[iS]at n;exact w b o (fun z=>n (.inl z)) (fun z=>n (.inr (.inr (.inl z)))) (fun z=>n (.inr (.inr (.inr (.inl z))))) (fun z=>n (.inr (.inr (.inr (.inr z))))) e
theorem Nv{S:List Addr}{H:Hp}{b:Addr}{o:HO}(h:b∈S):iJ S H (aH H b o):=fun c u n e=>by have:c≠b:=fun z=>n (by rw[z];exact h);rw[dj this];exact e
structure FN(fs:List (Str×V))(ab ch rm bk:V)(ql:Addr):Prop where
 ab:fs.lookup ("above":Str)=some ab
 ch:fs.lookup ("chooser":Str)=some ch
 rm:fs.lookup ("room":Str)=some rm
 bk:fs.lookup ("bucket":Str)=some bk
 qu:fs.lookup ("queue":Str)=some (.ref ql)
 no:∀m:Str,¬m="above"->¬m="chooser"->¬m="room"->¬m="bucket"->¬m="queue"->fs.lookup m=none
 len:fs.length<900
theorem FN.Jk(ab ch rm bk:V)(ql:Addr):FN (aE "queue" (.ref ql) (aE "bucket" bk (aE "room" rm (aE "chooser" ch (aE "above" ab []))))) ab ch rm bk ql:=by
 refine⟨?_,?_,?_,?_,?_,fun m h1 h2 h3 h4 h5=>?_,?_⟩
 ·rw[eF (by decide+kernel),eF (by decide+kernel),eF (by decide+kernel),eF (by decide+kernel),pG]
 ·rw[eF (by decide+kernel),eF (by decide+kernel),eF (by decide+kernel),pG]
 ·rw[eF (by decide+kernel),eF (by decide+kernel),pG]
 ·rw[eF (by decide+kernel),pG]
 ·rw[pG]
 ·rw[eF h5,eF h4,eF h3,eF h2,eF h1];rfl
 ·have l1:=ki (fs:=[]) (f:="above") (v:=ab);have l2:=ki (fs:=aE "above" ab []) (f:="chooser") (v:=ch);have l3:=ki (fs:=aE "chooser" ch (aE "above" ab [])) (f:="room") (v:=rm);have l4:=ki (fs:=aE "room" rm (aE "chooser" ch (aE "above" ab []))) (f:="bucket") (v:=bk);have l5:=ki (fs:=aE "bucket" bk (aE "room" rm (aE "chooser" ch (aE "above" ab [])))) (f:="queue") (v:=.ref ql);simp only[bU]at l1;omega
structure o9 where
 d:Int
 r:Rat
 s:Int
 l:Rat
structure ND where
 nm:Str
 p:Addr
 ql:Addr
 ab:Option Str
 ch:Option (lz×b5)
 rm:V
 bk:Option (Addr×o9)
 ps:List Addr
 qu:List D2
structure Cl where
 n:Addr
 s:Addr
 r:Addr
 m:Addr
 b:Addr
 t:Addr
def P1:Option (lz×b5)->List Addr
 |none=>[]
 |some c=>lI c.1
def Vc:Option (Addr×o9)->List Addr
 |none=>[]
 |some b=>[b.1]
def ND.foot(x:ND):List Addr:=x.p::x.ql::(P1 x.ch++Vc x.bk)
def Lb:Option (lz×b5)->V
 |none=>.b7
 |some c=>.ref c.1.p
def NV:Option (Addr×o9)->V
 |none=>.b7
 |some b=>.ref b.1
structure nD(C:Cl)(H:Hp)(m:Int)(x:ND):Prop where
 ex:∃dx fs,H x.p=some (.ins C.n dx fs)/\FN fs (p8 x.ab) (Lb x.ch) x.rm (NV x.bk) x.ql
 qu:U8 H x.ql x.ps x.qu
 ch:∀c,x.ch=some c->yM C.s C.r C.m H c.1 m c.2
 bk:∀b,x.bk=some b->Bk C.b H b.1 b.2.d b.2.r b.2.s b.2.l
section
variable{C:Cl}{H H':Hp}{m:Int}{x:ND}
theorem nD.keep(h:nD C H m x)(e:∀b o,(b∈x.foot\/∃xs,H b=some (.tup xs))->H b=some o->H' b=some o):nD C H' m x:=by
 obtain⟨dx,fs,h1,h2⟩:=h.ex;refine⟨⟨dx,fs,e _ _ (.inl (aj ..)) h1,h2⟩,⟨e _ _ (.inl (ai _ (aj ..))) h.qu.hl,h.qu.r.keep fun p z hp=>e _ _ (.inr ⟨_,hp⟩) hp⟩,fun c hc=>?_,fun b hb=>?_⟩
 ·refine(h.ch c hc).keep fun b o hb=>e b o (hb.imp (fun z=>?_) id);refine ai _ (ai _ (ay.mpr (.inl ?_)));rw[hc];exact z
 ·obtain⟨CB,qp,pr,pl,b1,b2,b3,b4⟩:=(h.bk b hb).ex;refine⟨CB,qp,pr,pl,e _ _ (.inl ?_) b1,b2,e _ _ (.inr ⟨_,b3⟩) b3,e _ _ (.inr ⟨_,b4⟩) b4⟩;refine ai _ (ai _ (ay.mpr (.inr ?_)));rw[hb];exact aC.mpr rfl
theorem nD.at(h:nD C H m x){b:Addr}(hb:b∈x.foot):∃o,H b=some o/\∀xs,o≠.tup xs:=by
 unfold ND.foot at hb;rcases ao.mp hb with z|hb
 ·obtain⟨dx,fs,h1,h2⟩:=h.ex;subst z;exact⟨_,h1,by intro xs y;cases y⟩
 rcases ao.mp hb with z|hb
 ·subst z;exact⟨_,h.qu.hl,by intro xs y;cases y⟩
 rcases ay.mp hb with z|z
 ·cases hc:x.ch with
  |none=>rw[hc]at z;cases z
  |some c=>rw[hc]at z;exact(h.ch c hc).at z
 ·cases hc:x.bk with
  |none=>rw[hc]at z;cases z
  |some c=>
   rw[hc]at z;obtain⟨CB,qp,pr,pl,b1,_⟩:=(h.bk c hc).ex;have:b=c.1:=aC.mp z;subst this;exact⟨_,b1,by intro xs y;cases y⟩
theorem nD.kU{S:List Addr}(h:nD C H m x)(d:iJ S H H')(f:∀b∈x.foot,b∉S)(nt:∀b∈S,∀xs,H b≠some (.tup xs)):nD C H' m x:=
 h.keep fun b o hb e=>d b o (hb.elim (fun z=>f b z) fun⟨xs,z⟩ y=>nt b y xs z) e
end
theorem nD.new{C:Cl}{H3 H4:Hp}{m:Int}{nm:Str}{x dx ql:Addr}{fs:List (Str×V)}{ab:Option Str}{ch:Option (lz×b5)}{rm:V}(hx:H3 x=none)(hd:H3 dx=none)(bt:vv x (aH (aH H3 dx (.own x)) x (.ins C.n dx [])) H4)(hq:aH (aH H3 dx (.own x)) x (.ins C.n dx []) ql=none)(h1:H4 x=some (.ins C.n dx fs))(h2:FN fs (p8 ab) (Lb ch) rm .b7 ql)(h3:H4 ql=some (.lst []))(hc:∀c,ch=some c->yM C.s C.r C.m H3 c.1 m c.2):
    bI H3 H4/\nD C H4 m ⟨nm,x,ql,ab,ch,rm,none,[],[]⟩/\(ND.foot ⟨nm,x,ql,ab,ch,rm,none,[],[]⟩).Nodup/\H3 ql=none:=by
  have sm:bI H3 H4:=fun b o e=>bt b o (kW e hx) (EY hx hd _ _ e);have Gw:ql≠x:=fun z=>by rw[z,bR]at hq;cases hq
  have q3:H3 ql=none:=by
    rw[dj Gw]at hq;by_cases e:ql=dx
    · rw[e,bR]at hq;cases hq
    · rw[dj e]at hq;exact hq
  refine⟨sm,⟨⟨dx,fs,h1,h2⟩,⟨h3,.nil⟩,fun c e=>(hc c e).keep fun b o _ e=>sm b o e,fun b e=>(by cases e)⟩,?_,q3⟩;show(x::ql::(P1 ch++[])).Nodup;rw[bw];cases ch with
  |none=>simp[P1,Gw.symm]
  |some c=>
    have C1:=hc c rfl;have n1:x∉lI c.1:=fun z=>by obtain⟨o,ho,_⟩:=C1.at z;rw[hx]at ho;cases ho
    have n2:ql∉lI c.1:=fun z=>by obtain⟨o,ho,_⟩:=C1.at z;rw[q3]at ho;cases ho
    rw[aY,aY];exact⟨by rw[ao,not_or];exact⟨Gw.symm,n1⟩,n2,C1.nodup⟩
structure As(fs:List (Str×V))(m:Int)(pn:Addr)(tm fr ct:Int)(pg:Addr):Prop where
 mo:fs.lookup ("most":Str)=some (.int m)
 no:fs.lookup ("nodes":Str)=some (.ref pn)
 ti:fs.lookup ("time":Str)=some (.int tm)
 fr:fs.lookup ("free":Str)=some (.int fr)
 co:fs.lookup ("counted":Str)=some (.int ct)
 go:fs.lookup ("gone":Str)=some (.ref pg)
 Ku:∀m:Str,¬m="most"->¬m="nodes"->¬m="time"->¬m="free"->¬m="counted"->¬m="gone"->fs.lookup m=none
 len:fs.length<900
theorem As.Jk(m:Int)(pn:Addr)(tm fr ct:Int)(pg:Addr):As (aE "gone" (.ref pg) (aE "counted" (.int ct) (aE "free" (.int fr) (aE "time" (.int tm) (aE "nodes" (.ref pn) (aE "most" (.int m) [])))))) m pn tm fr ct pg:=by
 refine⟨?_,?_,?_,?_,?_,?_,fun m h1 h2 h3 h4 h5 h6=>?_,?_⟩
 ·rw[eF (by decide+kernel),eF (by decide+kernel),eF (by decide+kernel),eF (by decide+kernel),eF (by decide+kernel),pG]
 ·rw[eF (by decide+kernel),eF (by decide+kernel),eF (by decide+kernel),eF (by decide+kernel),pG]
 ·rw[eF (by decide+kernel),eF (by decide+kernel),eF (by decide+kernel),pG]
 ·rw[eF (by decide+kernel),eF (by decide+kernel),pG]
 ·rw[eF (by decide+kernel),pG]
 ·rw[pG]
 ·rw[eF h6,eF h5,eF h4,eF h3,eF h2,eF h1];rfl
 ·have a1:=ki (fs:=[]) (f:="most") (v:=.int m);have a2:=ki (fs:=aE "most" (.int m) []) (f:="nodes") (v:=.ref pn);have a3:=ki (fs:=aE "nodes" (.ref pn) (aE "most" (.int m) [])) (f:="time") (v:=.int tm);have a4:=ki (fs:=aE "time" (.int tm) (aE "nodes" (.ref pn) (aE "most" (.int m) []))) (f:="free") (v:=.int fr);have a5:=ki (fs:=aE "free" (.int fr) (aE "time" (.int tm) (aE "nodes" (.ref pn) (aE "most" (.int m) [])))) (f:="counted") (v:=.int ct);have a6:=ki (fs:=aE "counted" (.int ct) (aE "free" (.int fr) (aE "time" (.int tm) (aE "nodes" (.ref pn) (aE "most" (.int m) []))))) (f:="gone") (v:=.ref pg);simp only[bU]at a1;omega
theorem As.Jw{fs:List (Str×V)}{m:Int}{pn:Addr}{tm fr ct P6:Int}{pg:Addr}(h:As fs m pn tm fr ct pg):As (aE "counted" (.int P6) fs) m pn tm fr P6 pg:=by
 refine⟨?_,?_,?_,?_,pG,?_,fun m h1 h2 h3 h4 h5 h6=>?_,?_⟩
 ·rw[eF (by decide+kernel)];exact h.mo
 ·rw[eF (by decide+kernel)];exact h.no
 ·rw[eF (by decide+kernel)];exact h.ti
 ·rw[eF (by decide+kernel)];exact h.fr
 ·rw[eF (by decide+kernel)];exact h.go
 ·rw[eF h5];exact h.Ku m h1 h2 h3 h4 h5 h6
 ·rw[Ik h.co];exact h.len
theorem As.Jz{fs:List (Str×V)}{m:Int}{pn:Addr}{tm RY fr ct:Int}{pg:Addr}(h:As fs m pn tm fr ct pg):As (aE "time" (.int RY) fs) m pn RY fr ct pg:=by
 refine⟨?_,?_,pG,?_,?_,?_,fun m h1 h2 h3 h4 h5 h6=>?_,?_⟩
 ·rw[eF (by decide+kernel)];exact h.mo
 ·rw[eF (by decide+kernel)];exact h.no
 ·rw[eF (by decide+kernel)];exact h.fr
 ·rw[eF (by decide+kernel)];exact h.co
 ·rw[eF (by decide+kernel)];exact h.go
 ·rw[eF h3];exact h.Ku m h1 h2 h3 h4 h5 h6
 ·rw[Ik h.ti];exact h.len
theorem As.Jx{fs:List (Str×V)}{m:Int}{pn:Addr}{tm fr Qg ct:Int}{pg:Addr}(h:As fs m pn tm fr ct pg):As (aE "free" (.int Qg) fs) m pn tm Qg ct pg:=by
 refine⟨?_,?_,?_,pG,?_,?_,fun m h1 h2 h3 h4 h5 h6=>?_,?_⟩
 ·rw[eF (by decide+kernel)];exact h.mo
 ·rw[eF (by decide+kernel)];exact h.no
 ·rw[eF (by decide+kernel)];exact h.ti
 ·rw[eF (by decide+kernel)];exact h.co
 ·rw[eF (by decide+kernel)];exact h.go
 ·rw[eF h4];exact h.Ku m h1 h2 h3 h4 h5 h6
 ·rw[Ik h.fr];exact h.len
abbrev D3:=Int×Int×Str
def NW(g:D3):List V:=[.int g.1,.int g.2.1,.str g.2.2]
structure TD where
 p:Addr
 pn:Addr
 pg:Addr
 most:Int
 tm:Int
 fr:Int
 ct:Int
 ns:List ND
 gp:List Addr
 gs:List D3
def TD.foot(D:TD):List Addr:=D.p::D.pn::D.pg::D.ns.flatMap ND.foot
def wP(ns:List ND):List (Key×V):=ns.map fun x=>((az x.nm:Key),V.ref x.p)
structure bQ(C:Cl)(H:Hp)(D:TD):Prop where
 ex:∃dx fs,H D.p=some (.ins C.t dx fs)/\As fs D.most D.pn D.tm D.fr D.ct D.pg
 hn:H D.pn=some (.dK (wP D.ns))
 nd:∀x∈D.ns,nD C H D.most x
 go:H D.pg=some (.lst (D.gp.map V.ref))
 gr:Paired (fun p g=>H p=some (.tup (NW g))) D.gp D.gs
 fd:D.foot.Nodup
theorem KD{α β:Type}{R S:α->β->Prop}(h:∀a b,R a b->S a b):∀{l:List α}{k:List β},Paired R l k->Paired S l k
 |_,_,.nil=>.nil
 |_,_,.cons a b=>.cons (h _ _ a) (KD h b)
section
variable{C:Cl}{H H':Hp}{D:TD}
theorem TD.e8{x:ND}{b:Addr}(hx:x∈D.ns)(hb:b∈x.foot):b∈D.foot:=
 ai _ (ai _ (ai _ (dH.mpr ⟨x,hx,hb⟩)))
theorem bQ.keep(h:bQ C H D)(e:∀b o,(b∈D.foot\/∃xs,H b=some (.tup xs))->H b=some o->H' b=some o):bQ C H' D:=by obtain⟨dx,fs,h1,h2⟩:=h.ex;exact⟨⟨dx,fs,e _ _ (.inl (aj ..)) h1,h2⟩,e _ _ (.inl (ai _ (aj ..))) h.hn,fun x hx=>(h.nd x hx).keep fun b o hb=>e b o (hb.imp (fun z=>TD.e8 hx z) id),e _ _ (.inl (ai _ (ai _ (aj ..)))) h.go,KD (fun a b z=>e _ _ (.inr ⟨_,z⟩) z) h.gr,h.fd⟩
theorem bQ.same(h:bQ C H D)(s:bI H H'):bQ C H' D:=h.keep fun b o _ e=>s b o e
theorem bQ.at(h:bQ C H D){b:Addr}(hb:b∈D.foot):∃o,H b=some o/\∀xs,o≠.tup xs:=by
 unfold TD.foot at hb;rcases ao.mp hb with z|hb
 ·obtain⟨dx,fs,h1,h2⟩:=h.ex;subst z;exact⟨_,h1,by intro xs y;cases y⟩
 rcases ao.mp hb with z|hb
 ·subst z;exact⟨_,h.hn,by intro xs y;cases y⟩
 rcases ao.mp hb with z|hb
 ·subst z;exact⟨_,h.go,by intro xs y;cases y⟩
 obtain⟨x,hx,z⟩:=dH.mp hb;exact(h.nd x hx).at z
theorem bQ.free(h:bQ C H D){b:Addr}(e:H b=none):b∉D.foot:=fun z=>by obtain⟨o,ho,_⟩:=h.at z;rw[ho]at e;cases e
theorem bQ.L7(h:bQ C H D){b:Addr}{xs:List V}(e:H b=some (.tup xs)):b∉D.foot:=fun z=>by obtain⟨o,ho,n⟩:=h.at z;rw[ho]at e;exact n xs (ak e)
theorem bQ.other(h:bQ C H D){b:Addr}{o o':HO}(f:b∉D.foot)(e:H b=some o)(nt:∀xs,o≠.tup xs):bQ C (aH H b o') D:=by
 refine h.keep fun c u hc hu=>?_;rw[dj fun z=>?_]
 ·exact hu
 ·subst z;rcases hc with z|⟨xs,z⟩
  ·exact f z
  ·rw[e]at z;exact nt xs (ak z)
end
def bz(ns:List ND)(x:Str):Option ND:=ns.find? fun n=>decide (n.nm=x)
theorem jK{ns:List ND}{x:Str}{n:ND}(h:bz ns x=some n):n∈ns/\n.nm=x:=by unfold bz at h;exact⟨iy h,of_decide_eq_true (oz (p:=fun n:ND=>decide (n.nm=x)) h)⟩
theorem nG{ns:List ND}{x:Str}:bz ns x=none↔x∉ns.map (·.nm):=by
 unfold bz;rw[sO];constructor
 ·intro h z;obtain⟨n,hn,e⟩:=av.mp z;exact h n hn (decide_eq_true e)
 ·intro h n hn e;exact h (av.mpr ⟨n,hn,of_decide_eq_true e⟩)
theorem sN{ns:List ND}(nd:(ns.map (·.nm)).Nodup){n:ND}(h:n∈ns):bz ns n.nm=some n:=by
 induction ns with
 |nil=>cases h
 |cons y r ih=>
  rw[au,aY]at nd;unfold bz;rw[bH];rcases ao.mp h with e|e
  ·subst e;simp
  ·have ne:decide (y.nm=n.nm)=false:=decide_eq_false fun z=>nd.1 (by rw[z];exact av.mpr ⟨n,e,rfl⟩);rw[ne];exact ih nd.2 e
theorem NG(ns:List ND)(x:Str):gv (wP ns) (az x:Key)=(bz ns x).map fun n=>V.ref n.p:=by
 induction ns with
 |nil=>rfl
 |cons p r ih=>
  unfold gv wP bz at ih⊢;rw[au,bH,bH];by_cases h:p.nm=x
  ·simp[h]
  ·have h2:¬(az p.nm:Key)=az x:=fun z=>h (fF z);simp only[decide_eq_false h,decide_eq_false h2];exact ih
theorem Z1(ns:List ND):(wP ns).length=ns.length:=ae _
theorem SA{ns:List ND}{n:ND}(h:bz ns n.nm=none):gu (wP ns) (az n.nm:Key) (.ref n.p)=wP (ns++[n]):=by
 unfold gu;have e:((wP ns).any fun kv=>decide (kv.1=(az n.nm:Key)))=false:=by rw[GS,NG,h];rfl
 rw[e,if_neg (by decide)];unfold wP;rw[aA];rfl
theorem SD{ns:List ND}{n:ND}(h:bz ns n.nm=none)(x:Str):bz (ns++[n]) x=if x=n.nm then some n else bz ns x:=by
 unfold bz at h⊢;rw[FQ];by_cases e:x=n.nm
 ·subst e;rw[if_pos rfl,h];simp
 ·rw[if_neg e];have:([n].find? fun y=>decide (y.nm=x))=none:=by have:¬n.nm=x:=fun z=>e z.symm;simp[this]
  rw[this];simp
def dF(ns:List ND)(n:ND):List ND:=ns.map fun y=>if y.nm=n.nm then n else y
theorem Z2(ns:List ND)(n:ND):(dF ns n).map (·.nm)=ns.map (·.nm):=by
 unfold dF;rw[bg];refine aO fun y _=>?_;show(if y.nm=n.nm then n else y).nm=y.nm;split
 ·rename_i h;exact h.symm
 ·rfl
theorem UL{ns:List ND}{n:ND}(x:Str):bz (dF ns n) x=if x=n.nm then(bz ns x).map (fun _=>n)else bz ns x:=by
 induction ns with
 |nil=>unfold bz dF;simp
 |cons p r ih=>
  unfold bz dF at ih⊢;rw[au,bH,bH];by_cases hp:p.nm=n.nm
  ·rw[if_pos hp];by_cases hy:p.nm=x
   ·have:n.nm=x:=hp▸hy;simp[hy,this]
   ·have:¬n.nm=x:=hp▸hy;simp only[decide_eq_false hy,decide_eq_false this];exact ih
  ·rw[if_neg hp];by_cases hy:p.nm=x
   ·have:¬x=n.nm:=fun z=>hp (hy.trans z);simp[hy,this]
   ·simp only[decide_eq_false hy];exact ih
theorem YS{l1 l2:List ND}{n n':ND}(e:n'.nm=n.nm)(nd:((l1++n::l2).map (·.nm)).Nodup):dF (l1++n::l2) n'=l1++n'::l2:=by
 unfold dF;rw[aA,cY,au,aY]at nd;rw[aA,au,if_pos e.symm];have h1:l1.map (fun y=>if y.nm=n'.nm then n' else y)=l1:=by
  conv=>rhs;rw[<-j9 l1]
  refine aO fun y hy=>?_;rw[if_neg];rfl;intro z;exact nd.2.2 y.nm (av.mpr ⟨y,hy,rfl⟩) n.nm (aj ..) (z.trans e)
 have h2:l2.map (fun y=>if y.nm=n'.nm then n' else y)=l2:=by
  conv=>rhs;rw[<-j9 l2]
  refine aO fun y hy=>?_;rw[if_neg];rfl;intro z;exact nd.2.1.1 (av.mpr ⟨y,hy,z.trans e⟩)
 rw[h1,h2]
section
variable{C:Cl}{H H':Hp}{D:TD}
theorem bQ.node(h:bQ C H D)(nd:(D.ns.map (·.nm)).Nodup){n n':ND}(hn:n∈D.ns)(e:n'.nm=n.nm)(ep:n'.p=n.p)(d:iJ n.foot H H')(ok:nD C H' D.most n')(fn:n'.foot.Nodup)(fr:∀b∈n'.foot,b∈n.foot\/H b=none):bQ C H' {D with ns:=dF D.ns n'}:=by
 obtain⟨l1,l2,el⟩:=i8 hn;have fd:=h.fd;unfold TD.foot at fd;rw[el,kT,ju]at fd;simp only[aY,ao,ay,not_or,cY]at fd;obtain⟨⟨a1,a2,a3,a4,a5⟩,⟨b1,b2,b3,b4⟩,⟨c1,c2,c3⟩,d1,⟨d2,d3,d4⟩,d5⟩:=fd;have nt:∀b∈n.foot,∀xs,H b≠some (.tup xs):=fun b hb xs z=>by obtain⟨o,ho,q⟩:=(h.nd n hn).at hb;rw[ho]at z;exact q xs (ak z)
 obtain⟨dx,fs,h1,h2⟩:=h.ex;have new:∀{b:Addr}{o:HO},H b=some o->b∉n.foot->b∉n'.foot:=fun{b o} ho hb z=>by
  rcases fr b z with y|y
  ·exact hb y
  ·rw[ho]at y;cases y
 have sp:dF D.ns n'=l1++n'::l2:=by rw[el]at nd⊢;exact YS e nd
 have hs:∀{b:Addr},b∈D.foot->∃o,H b=some o:=fun{b} hb=>(h.at hb).imp fun _ z=>z.1;refine⟨⟨dx,fs,d _ _ a4 h1,h2⟩,?_,fun x hx=>?_,d _ _ c2 h.go,KD (fun p g z=>d _ _ (fun y=>nt p y _ z) z) h.gr,?_⟩
 ·show H' D.pn=some (.dK (wP (dF D.ns n')));have:wP (dF D.ns n')=wP D.ns:=by rw[sp,el];unfold wP;rw[aA,aA,au,au,e,ep]
  rw[this];exact d _ _ b3 h.hn
 ·have hx:x∈l1++n'::l2:=sp▸hx;have Kv:x∈D.ns->(∀b∈x.foot,b∉n.foot)->nD C H' D.most x:=fun h1 h2=>(h.nd x h1).kU d h2 nt;rcases ay.mp hx with z|z
  ·exact Kv (el▸ay.mpr (.inl z)) fun b hb y=>d5 b (dH.mpr ⟨x,z,hb⟩) b (.inl y) rfl
  ·rcases ao.mp z with z|z
   ·rw[z];exact ok
   ·exact Kv (el▸ay.mpr (.inr (ai _ z))) fun b hb y=>d4 b y b (dH.mpr ⟨x,z,hb⟩) rfl
 ·show(D.p::D.pn::D.pg::(dF D.ns n').flatMap ND.foot).Nodup;rw[sp,kT,ju];simp only[aY,ao,ay,not_or,cY];have Lx:∀{b:Addr},b∈l1.flatMap ND.foot->∃o,H b=some o:=fun{b} hb=>by obtain⟨x,hx,y⟩:=dH.mp hb;exact hs (TD.e8 (el▸ay.mpr (.inl hx)) y)
  have Ds:∀{b:Addr},b∈l2.flatMap ND.foot->∃o,H b=some o:=fun{b} hb=>by obtain⟨x,hx,y⟩:=dH.mp hb;exact hs (TD.e8 (el▸ay.mpr (.inr (ai _ hx))) y)
  refine⟨⟨a1,a2,a3,new h1 a4,a5⟩,⟨b1,b2,new h.hn b3,b4⟩,⟨c1,new h.go c2,c3⟩,d1,⟨fn,d3,fun b hb c hc z=>?_⟩,fun b hb c hc z=>?_⟩
  ·subst z;obtain⟨o,ho⟩:=Ds hc;exact new ho (fun y=>d4 b y b hc rfl) hb
  ·subst z;obtain⟨o,ho⟩:=Lx hb;rcases hc with y|y
   ·exact new ho (fun q=>d5 b hb b (.inl q) rfl) y
   ·exact d5 b hb b (.inr y) rfl
end
def road:Str:=Str.ofString "road"
inductive Up(ns:List ND):Str->List Str->Prop
 |top {x:Str} {n:ND}:bz ns x=some n->n.ab=none->Up ns x [x]
 |on {x y:Str} {n:ND} {ys:List Str}:bz ns x=some n->n.ab=some y->Up ns y ys->Up ns x (x::ys)
theorem Up.Ho{ns:List ND}{x:Str}{ys:List Str}(h:Up ns x ys):∃n,bz ns x=some n:=by
 cases h with
 |top h _=>exact⟨_,h⟩
 |on h _ _=>exact⟨_,h⟩
theorem Up.det{ns:List ND}{x:Str}{ys zs:List Str}(h:Up ns x ys):Up ns x zs->ys=zs:=by
 induction h generalizing zs with
 |top h e=>
  intro k;cases k with
  |top _ _=>rfl
  |on h2 e2 _=>rw[h]at h2;cases h2;rw[e]at e2;cases e2
 |on h e r ih=>
  intro k;cases k with
  |top h2 e2=>rw[h]at h2;cases h2;rw[e]at e2;cases e2
  |on h2 e2 r2=>
   rw[h]at h2;cases h2;rw[e]at e2;cases e2
   rw[ih r2]
theorem Up.mono{ns We:List ND}{x:Str}{ys:List Str}(h:Up ns x ys):(∀z∈ys,∀n,bz ns z=some n->∃n',bz We z=some n'/\n'.ab=n.ab)->Up We x ys:=by
 induction h with
 |top h e=>
  intro k;obtain⟨n',h1,h2⟩:=k _ (aj ..) _ h;exact .top h1 (h2.trans e)
 |on h e r ih=>
  intro k;obtain⟨n',h1,h2⟩:=k _ (aj ..) _ h;exact .on h1 (h2.trans e) (ih fun z hz=>k z (ai _ hz))
theorem Up.pos{ns:List ND}{x:Str}{ys:List Str}(h:Up ns x ys):1<=ys.length:=by cases h <;> simp
theorem Up.last{ns:List ND}{x:Str}{ys:List Str}(h:Up ns x ys)(r:∀n∈ns,n.ab=none->n.nm=road):∃zs,ys=zs++[road]:=by
 induction h with
 |top h e=>
  obtain⟨a,b⟩:=jK h;exact⟨[],by rw[<-b,r _ a e];rfl⟩
 |on h e k ih=>
  obtain⟨zs,z⟩:=ih;exact⟨_::zs,by rw[z];rfl⟩
theorem Up.mem{ns:List ND}{x:Str}{ys:List Str}(h:Up ns x ys):∀z∈ys,∃n,bz ns z=some n:=by
 induction h with
 |top h e=>intro z hz;rw[aC.mp hz];exact⟨_,h⟩
 |on h e k ih=>
  intro z hz;rcases ao.mp hz with q|q
  ·rw[q];exact⟨_,h⟩
  ·exact ih z q
def iD(ns:List ND)(x:Str):List Str:=(ns.filter fun n=>decide (n.ab=some x)).map (·.nm)
structure TD.Wf(D:TD):Prop where
 nn:(D.ns.map (·.nm)).Nodup
 rd:∃n r,D.ns=n::r/\n.nm=road/\n.ab=none/\n.ch≠none
 ra:∀n∈D.ns,n.ab=none->n.nm=road
 up:∀n∈D.ns,∃ys,Up D.ns n.nm ys/\ys.length<=6
 Al:∀n∈D.ns,∀c,n.ch=some c->c.2.nm.map (·.1)=iD D.ns n.nm
 lf:∀n∈D.ns,n.ch=none->iD D.ns n.nm=[]
 k9:∀n∈D.ns,∀c,n.ch=some c->c.2.Ok D.most
 m1:1<=D.most/\D.most<=1000000
 HJ:∀n∈D.ns,PyData.strOk n.nm=true/\n.nm.length<=8
theorem TD.Wf.Mw{D:TD}(h:D.Wf):∃n,bz D.ns L2.road=some n/\n.ab=none/\n.ch≠none:=by obtain⟨n,r,e,h1,h2,h3⟩:=h.rd;have:=sN h.nn (n:=n) (by rw[e];exact aj ..);exact⟨n,h1▸this,h2,h3⟩
theorem zyg(ns:List ND)(n:ND)(x:Str):iD (ns++[n]) x=iD ns x++(if n.ab=some x then[n.nm]else[]):=by
 unfold iD;rw[fR,aA];congr 1;by_cases h:n.ab=some x
 ·simp[h]
 ·simp[h]
theorem Zu{ns:List ND}{n n':ND}(nd:(ns.map (·.nm)).Nodup)(hn:n∈ns)(e:n'.nm=n.nm)(ea:n'.ab=n.ab)(x:Str):iD (dF ns n') x=iD ns x:=by
 obtain⟨l1,l2,el⟩:=i8 hn;rw[el]at nd⊢;rw[YS e nd];unfold iD;rw[fR,fR,aA,aA];congr 1;rw[gx,gx,ea];by_cases h:n.ab=some x
 ·simp[h,e]
 ·simp[h]
theorem TD.Wf.set{D:TD}(h:D.Wf){n n':ND}(hn:n∈D.ns)(e:n'.nm=n.nm)(ea:n'.ab=n.ab)(ec:n'.ch=none↔n.ch=none)(ek:∀c c',n.ch=some c->n'.ch=some c'->c'.2.nm.map (·.1)=c.2.nm.map (·.1))(ok:∀c,n'.ch=some c->c.2.Ok D.most):{D with ns:=dF D.ns n'}.Wf:=by
 have fn:=sN h.nn hn;have fs:∀y,bz (dF D.ns n') y=if y=n.nm then some n' else bz D.ns y:=fun y=>by
  rw[UL,e];by_cases q:y=n.nm
  ·rw[if_pos q,if_pos q,q,fn];rfl
  ·rw[if_neg q,if_neg q]
 have mem:∀y∈dF D.ns n',y=n'\/y∈D.ns:=fun y hy=>by
  unfold dF at hy;obtain⟨z,hz,q⟩:=av.mp hy;split at q
  ·exact .inl q.symm
  ·exact .inr (q▸hz)
 have kd:=fun x=>Zu h.nn hn e ea x;have Kz:∀{x ys},Up D.ns x ys->Up (dF D.ns n') x ys:=fun{x ys} u=>u.mono fun z _ m hm=>by
  rw[fs];by_cases q:z=n.nm
  ·rw[if_pos q];rw[q,fn]at hm;cases hm
   exact⟨_,rfl,ea⟩
  ·rw[if_neg q];exact⟨m,hm,rfl⟩
 obtain⟨r,rs,er,r1,r2,r3⟩:=h.rd;refine⟨by show((dF D.ns n').map (·.nm)).Nodup;rw[Z2];exact h.nn,?_,fun y hy ha=>?_,fun y hy=>?_,fun y hy c hc=>?_,fun y hy hc=>?_,fun y hy c hc=>?_,h.m1,fun y hy=>?_⟩
 ·show ∃n r,dF D.ns n'=n::r/\_;rw[er];unfold dF;rw[au];by_cases q:r.nm=n'.nm
  ·rw[if_pos q];have:r=n:=by have h1:=sN h.nn (n:=r) (by rw[er];exact aj ..);rw[q,e,fn]at h1;exact(ak h1).symm
   subst this;exact⟨_,_,rfl,q▸r1,ea.trans r2,fun z=>r3 (ec.mp z)⟩
  ·rw[if_neg q];exact⟨_,_,rfl,r1,r2,r3⟩
 ·rcases mem y hy with z|z
  ·subst z;rw[e];exact h.ra n hn (ea▸ha)
  ·exact h.ra y z ha
 ·rcases mem y hy with z|z
  ·subst z;obtain⟨ys,u,l⟩:=h.up n hn;exact⟨ys,by rw[e];exact Kz u,l⟩
  ·obtain⟨ys,u,l⟩:=h.up y z;exact⟨ys,Kz u,l⟩
 ·show _=iD (dF D.ns n') y.nm;rw[kd];rcases mem y hy with z|z
  ·subst z;cases Qs:n.ch with
   |none=>rw[ec.mpr Qs]at hc;cases hc
   |some c0=>rw[ek c0 c Qs hc,e];exact h.Al n hn c0 Qs
  ·exact h.Al y z c hc
 ·show iD (dF D.ns n') y.nm=[];rw[kd];rcases mem y hy with z|z
  ·subst z;rw[e];exact h.lf n hn (ec.mp hc)
  ·exact h.lf y z hc
 ·rcases mem y hy with z|z
  ·subst z;exact ok c hc
  ·exact h.k9 y z c hc
 ·rcases mem y hy with z|z
  ·subst z;rw[e];exact h.HJ n hn
  ·exact h.HJ y z
theorem TD.Wf.put{D:TD}(h:D.Wf){u u' n:ND}{c:lz×b5}{s:Int}(hu:u∈D.ns)(hc:u.ch=some c)(eu:u'={u with ch:=some (c.1,c.2.put n.nm s)})(ok:(c.2.put n.nm s).Ok D.most)(hn:bz D.ns n.nm=none)(ea:n.ab=some u.nm)(dp:∀ys,Up D.ns u.nm ys->ys.length<=5)(nk:∀c,n.ch=some c->c.2.nm=[]/\c.2.Ok D.most)(sk:PyData.strOk n.nm=true/\n.nm.length<=8):{D with ns:=dF D.ns u'++[n]}.Wf:=by
 have en:u'.nm=u.nm:=by rw[eu]
 have NX:u'.ab=u.ab:=by rw[eu]
 have fu:=sN h.nn hu;have gf:n.nm∉D.ns.map (·.nm):=nG.mp hn;have nu:n.nm≠u.nm:=fun z=>gf (z▸av.mpr ⟨u,hu,rfl⟩);have fs:∀y,bz (dF D.ns u') y=if y=u.nm then some u' else bz D.ns y:=fun y=>by
  rw[UL,en];by_cases q:y=u.nm
  ·rw[if_pos q,if_pos q,q,fu];rfl
  ·rw[if_neg q,if_neg q]
 have N9:bz (dF D.ns u') n.nm=none:=by rw[fs,if_neg nu];exact hn
 have ff:=fun y=>SD (n:=n) N9 y;have mem:∀y∈dF D.ns u'++[n],y=n\/y=u'\/(y∈D.ns/\y.nm≠u.nm):=fun y hy=>by
  rcases ay.mp hy with hy|hy
  ·unfold dF at hy;obtain⟨z,hz,q⟩:=av.mp hy;split at q
   ·exact .inr (.inl q.symm)
   ·rename_i k
    exact .inr (.inr ⟨q▸hz,fun w=>k (by rw[q,w,en])⟩)
  ·exact .inl (aC.mp hy)
 have Kz:∀{x ys},Up D.ns x ys->Up (dF D.ns u'++[n]) x ys:=fun{x ys} w=>w.mono fun z _ m hm=>by
  rw[ff,fs];have z1:z≠n.nm:=fun q=>by rw[q,hn]at hm;cases hm
  rw[if_neg z1];by_cases q:z=u.nm
  ·rw[if_pos q];rw[q,fu]at hm;cases hm
   exact⟨_,rfl,NX⟩
  ·rw[if_neg q];exact⟨m,hm,rfl⟩
 have kd:∀x,iD (dF D.ns u'++[n]) x=iD D.ns x++(if x=u.nm then[n.nm]else[]):=fun x=>by
  rw[zyg,Zu h.nn hu en NX,ea];by_cases q:x=u.nm
  ·rw[if_pos q,if_pos (by rw[q])]
  ·rw[if_neg q,if_neg (fun z=>q (ak z).symm)]
 have Hy:iD D.ns n.nm=[]:=by
  unfold iD;rw[DJ,Bj];intro y hy z;have z:=of_decide_eq_true z;obtain⟨ys,w,_⟩:=h.up y hy;cases w with
  |top h1 h2=>rw[sN h.nn hy]at h1;cases h1;rw[z]at h2;cases h2
  |on h1 h2 w=>
   rw[sN h.nn hy]at h1;cases h1;rw[z]at h2;cases h2
   obtain⟨m,hm⟩:=w.Ho;rw[hn]at hm;cases hm
 obtain⟨r,rs,er,r1,r2,r3⟩:=h.rd;refine⟨?_,?_,fun y hy ha=>?_,fun y hy=>?_,fun y hy d hd=>?_,fun y hy hd=>?_,fun y hy d hd=>?_,h.m1,fun y hy=>?_⟩
 ·show((dF D.ns u'++[n]).map (·.nm)).Nodup;rw[aA,Z2,cY];refine⟨h.nn,by simp,fun a ha b hb z=>?_⟩;have:b=n.nm:=aC.mp hb;subst this;subst z;exact gf ha
 ·show ∃m r,dF D.ns u'++[n]=m::r/\_;rw[er];unfold dF;rw[au,gw];by_cases q:r.nm=u'.nm
  ·rw[if_pos q];have:r=u:=by have h1:=sN h.nn (n:=r) (by rw[er];exact aj ..);rw[q,en,fu]at h1;exact(ak h1).symm
   subst this;exact⟨_,_,rfl,q▸r1,NX.trans r2,by rw[eu];simp⟩
  ·rw[if_neg q];exact⟨_,_,rfl,r1,r2,r3⟩
 ·rcases mem y hy with z|z|z
  ·subst z;rw[ea]at ha;cases ha
  ·subst z;rw[en];exact h.ra u hu (NX▸ha)
  ·exact h.ra y z.1 ha
 ·rcases mem y hy with z|z|z
  ·subst z;obtain⟨ys,w,_⟩:=h.up u hu;refine⟨y.nm::ys,.on (n:=y) (by rw[ff,if_pos rfl]) ea (Kz w),?_⟩;have:=dp ys w;rw[bj];omega
  ·subst z;obtain⟨ys,w,l⟩:=h.up u hu;exact⟨ys,by rw[en];exact Kz w,l⟩
  ·obtain⟨ys,w,l⟩:=h.up y z.1;exact⟨ys,Kz w,l⟩
 ·show _=iD (dF D.ns u'++[n]) y.nm;rw[kd];rcases mem y hy with z|z|z
  ·subst z;rw[(nk d hd).1,Hy,if_neg nu];rfl
  ·subst z;rw[en,if_pos rfl];have:d=(c.1,c.2.put n.nm s):=by rw[eu]at hd;exact(ak hd).symm
   rw[this];show(c.2.put n.nm s).nm.map (·.1)=_;rw[b5.Eo,aA,h.Al u hu c hc];rfl
  ·rw[if_neg z.2,bw];exact h.Al y z.1 d hd
 ·show iD (dF D.ns u'++[n]) y.nm=[];rw[kd];rcases mem y hy with z|z|z
  ·subst z;rw[Hy,if_neg nu];rfl
  ·subst z;rw[eu]at hd;cases hd
  ·rw[if_neg z.2,bw];exact h.lf y z.1 hd
 ·rcases mem y hy with z|z|z
  ·subst z;exact(nk d hd).2
  ·subst z;have:d=(c.1,c.2.put n.nm s):=by rw[eu]at hd;exact(ak hd).symm
   rw[this];exact ok
  ·exact h.k9 y z.1 d hd
 ·rcases mem y hy with z|z|z
  ·subst z;exact sk
  ·subst z;rw[en];exact h.HJ u hu
  ·exact h.HJ y z.1
theorem TD.Wf.new{D:TD}{n:ND}{a:lz}{b:Bool}(e:D.ns=[n])(h1:n.nm=road)(h2:n.ab=none)(h3:n.ch=some (a,b5.new b))(m1:1<=D.most/\D.most<=1000000):D.Wf:=by
 have one:∀{y},y∈D.ns->y=n:=fun{y} hy=>by rw[e]at hy;exact aC.mp hy
 have f:bz D.ns n.nm=some n:=by rw[e];unfold bz;simp
 have kd:∀x,iD D.ns x=[]:=fun x=>by rw[e];unfold iD;simp[h2]
 refine⟨by rw[e];simp,⟨n,[],e,h1,h2,by rw[h3];simp⟩,fun y hy _=>one hy▸h1,fun y hy=>?_,fun y hy c hc=>?_,fun y hy _=>kd _,fun y hy c hc=>?_,m1,fun y hy=>?_⟩
 ·rw[one hy];exact⟨[n.nm],.top f h2,by simp⟩
 ·rw[kd];rw[one hy,h3]at hc;cases hc
  show(b5.new b).nm.map _=[];rw[b5.x9];rfl
 ·rw[one hy,h3]at hc;cases hc
  exact b5.Ok.new m1.1 b
 ·rw[one hy,h1];exact⟨by decide+kernel,by decide+kernel⟩
theorem TD.Wf.lj{D:TD}(h:D.Wf){n:ND}(hn:n∈D.ns){c:lz×b5}(hc:n.ch=some c):c.2.nm.length<=D.ns.length:=by have:=congrArg gG (h.Al n hn c hc);unfold iD at this;rw[ae,ae]at this;rw[this];exact eN _ _
section
variable{C:Cl}{H H':Hp}{D:TD}
theorem bQ.En(h:bQ C H D){n:ND}(hn:n∈D.ns):n.foot.Nodup:=by have fd:=h.fd;unfold TD.foot at fd;obtain⟨l1,l2,el⟩:=i8 hn;rw[el,kT,ju]at fd;simp only[aY,cY]at fd;exact fd.2.2.2.2.1.1
theorem bQ.uf(h:bQ C H D)(nd:(D.ns.map (·.nm)).Nodup){n:ND}(hn:n∈D.ns){a:lz}{c c':b5}(hc:n.ch=some (a,c))(ow:lS a H H')(C':yM C.s C.r C.m H' a D.most c'):bQ C H' {D with ns:=dF D.ns {n with ch:=some (a,c')}}:=by
 have fn:=h.En hn;have N:=h.nd n hn;have ef:ND.foot {n with ch:=some (a,c')}=n.foot:=by unfold ND.foot;rw[hc];rfl
 have sub:∀b∈lI a,b∈n.foot:=fun b hb=>by unfold ND.foot;rw[hc];exact ai _ (ai _ (ay.mpr (.inl hb)))
 have fd:n.foot=n.p::n.ql::(lI a++Vc n.bk):=by unfold ND.foot;rw[hc];rfl
 have IV:=fn;rw[fd]at IV;simp only[aY,ao,ay,not_or,cY]at IV;obtain⟨⟨f1,f2,f3⟩,⟨f4,f5⟩,f6,f7,f8⟩:=IV;have dd:=ow.kU;have nt:∀{b xs},H b=some (.tup xs)->b∉lI a:=fun{b xs} e z=>by obtain⟨o,ho,q⟩:=(N.ch _ hc).at z;rw[e]at ho;exact q xs (ak ho).symm
 obtain⟨dx,fs,h1,h2⟩:=N.ex;refine h.node nd hn rfl rfl (dd.mono sub) ⟨⟨dx,fs,dd _ _ f2 h1,by rw[hc]at h2;exact h2⟩,⟨dd _ _ f4 N.qu.hl,N.qu.r.keep fun p z hp=>dd _ _ (nt hp) hp⟩,fun d hd=>?_,fun b hb=>?_⟩ (by rw[ef];exact fn) fun b hb=>.inl (by rw[ef]at hb;exact hb)
 ·cases hd;exact C'
 ·obtain⟨CB,qp,pr,pl,b1,b2,b3,b4⟩:=(N.bk b hb).ex;have:b.1∉lI a:=fun z=>f8 b.1 z b.1 (by rw[show n.bk=some b from hb];exact aC.mpr rfl) rfl;exact⟨CB,qp,pr,pl,dd _ _ this b1,b2,dd _ _ (nt b3) b3,dd _ _ (nt b4) b4⟩
theorem bQ.snoc(h:bQ C H D){n:ND}(s:bI H H')(ok:nD C H' D.most n)(fn:n.foot.Nodup)(fr:∀b∈n.foot,H b=none):bQ C (aH H' D.pn (.dK (wP (D.ns++[n])))) {D with ns:=D.ns++[n]}:=by
 have fd:=h.fd;unfold TD.foot at fd;simp only[aY,ao,not_or]at fd;obtain⟨⟨a1,a2,a3⟩,⟨b1,b2⟩,c1,d1⟩:=fd;have nf:∀b∈D.foot,b∉n.foot:=fun b hb z=>by obtain⟨o,ho,_⟩:=h.at hb;rw[fr b z]at ho;cases ho
 have kp:∀b o,b≠D.pn->H' b=some o->aH H' D.pn (.dK (wP (D.ns++[n]))) b=some o:=fun b o q e=>by rw[dj q];exact e
 have tp:∀{b xs},H' b=some (.tup xs)->b≠D.pn:=fun{b xs} e z=>by rw[z,s _ _ h.hn]at e;cases e
 obtain⟨dx,fs,h1,h2⟩:=h.ex;have h':=h.same s;refine⟨⟨dx,fs,kp _ _ a1 (s _ _ h1),h2⟩,bR,fun x hx=>?_,kp _ _ (d8 b1) (s _ _ h.go),KD (fun p g z=>kp _ _ (tp z) z) h'.gr,?_⟩
 ·rcases ay.mp hx with z|z
  ·refine(h'.nd x z).keep fun b o hb e=>kp b o ?_ e;rcases hb with q|⟨xs,q⟩
   ·exact fun w=>b2 (w▸dH.mpr ⟨x,z,q⟩)
   ·exact tp q
  ·rw[aC.mp z];refine ok.keep fun b o hb e=>kp b o ?_ e;rcases hb with q|⟨xs,q⟩
   ·exact fun w=>nf D.pn (ai _ (aj ..)) (w▸q)
   ·exact tp q
 ·show(D.p::D.pn::D.pg::(D.ns++[n]).flatMap ND.foot).Nodup;rw[kT,ju,G5,bw];simp only[aY,ao,ay,not_or,cY];have f1:=nf D.p (aj ..);have f2:=nf D.pn (ai _ (aj ..));have f3:=nf D.pg (ai _ (ai _ (aj ..)));refine⟨⟨a1,a2,a3,f1⟩,⟨b1,b2,f2⟩,⟨c1,f3⟩,d1,fn,fun b hb c hc z=>?_⟩;subst z;obtain⟨x,hx,y⟩:=dH.mp hb;exact nf b (TD.e8 hx y) hc
end
theorem Fx{n:Nat}(h:n<=1000000):n<sizeLine:=by rw[sizeLine_eq];omega
theorem SE{n:Nat}(h:n<=1000000):n<=sizeLine:=oF (Fx h)
theorem Cp{α:Type}{l:List α}{i:Nat}{a:α}(h:l[i]?=some a):l.take (i+1)=l.take i++[a]:=by obtain⟨hi,e⟩:=aD.mp h;rw[List.take_succ_eq_append_getElem hi,e]
def PP(n:Nat)(z:Str):Prop:=PyData.strOk z=true/\z.length<=n
theorem TZ{z:Str}:PyData.strOk z=true↔∀c∈z.cps.toList,c<1114112:=by unfold PyData.strOk;rw[Array.all_eq_true_iff_forall_mem];simp
def lets:Str:=Str.ofString "abcdefghijklmnopqrstuvwxyz"
def xu(z:Str):Prop:=(1<=z.length/\z.length<=8)/\∀c∈z.cps.toList,c∈lets.cps.toList
instance (z:Str):Decidable (xu z):=by unfold xu;exact inferInstance
def kj(kd:Str):Prop:=kd=Str.ofString "starts"\/kd=Str.ofString "rounds"
instance (kd:Str):Decidable (kj kd):=by unfold kj;exact inferInstance
def um(kd:Str):Bool:=decide (kd=Str.ofString "rounds")
theorem Zv{kd:Str}:Gi (.str kd) [.str (Str.ofString "starts"),.str (Str.ofString "rounds")]=decide (kj kd):=by rw[fk,decide_eq_true_iff];show(Str.ofString "starts" ==kd||(Str.ofString "rounds" ==kd||false))=true↔kd=Str.ofString "starts"\/kd=Str.ofString "rounds";rw[Bool.or_false,Bool.or_eq_true,beq_iff_eq,beq_iff_eq];exact⟨fun h=>h.imp Iu Iu,fun h=>h.imp Iu Iu⟩
theorem jW{C:Cl}{H:Hp}{D:TD}{x:Str}{n:ND}(O:bQ C H D)(h:bz D.ns x=some n):ia H D.pn (.str x) (some (.ref n.p)):=by have:=ia.k (k:=az x) O.hn;rw[NG,h]at this;exact this
def nK(kd:Str):Prop:=kd=Str.ofString "leaf"\/kj kd
instance (kd:Str):Decidable (nK kd):=by unfold nK;exact inferInstance
inductive Rf|name|taken|cls|place|share|length
open Classical in
noncomputable def lH(D:TD)(x u kd:Str)(s:Int)(rm:V):Option Rf:=
 if ¬xu x then some .name
 else if bz D.ns x≠none then some .taken
 else match bz D.ns u with
  |none=>some .cls
  |some n=>if ¬(nK kd/\n.ch≠none/\∀ys,Up D.ns u ys->ys.length<=5)then some .place
   else if ¬(1<=s/\s<=1000000)then some .share
   else if kd=Str.ofString "leaf"/\∃r:Int,rm= .int r/\r<0 then some .length
   else none
section
variable{D:TD}{x u kd:Str}{s:Int}{rm:V}{n:ND}
theorem Zw(h:¬xu x):lH D x u kd s rm=some .name:=by unfold lH;rw[if_pos h]
theorem YT(h:xu x)(hx:bz D.ns x≠none):lH D x u kd s rm=some .taken:=by unfold lH;rw[if_neg (fun z=>z h),if_pos hx]
theorem Z3(h:xu x)(hx:bz D.ns x=none)(hu:bz D.ns u=none):lH D x u kd s rm=some .cls:=by unfold lH;rw[if_neg (fun z=>z h),if_neg (fun z=>z hx),hu]
theorem YU(h:xu x)(hx:bz D.ns x=none)(hu:bz D.ns u=some n)(c:¬(nK kd/\n.ch≠none/\∀ys,Up D.ns u ys->ys.length<=5)):lH D x u kd s rm=some .place:=by unfold lH;rw[if_neg (fun z=>z h),if_neg (fun z=>z hx),hu];exact if_pos c
theorem YV(h:xu x)(hx:bz D.ns x=none)(hu:bz D.ns u=some n)(c:nK kd/\n.ch≠none/\∀ys,Up D.ns u ys->ys.length<=5)(d:¬(1<=s/\s<=1000000)):lH D x u kd s rm=some .share:=by unfold lH;rw[if_neg (fun z=>z h),if_neg (fun z=>z hx),hu];exact(if_neg (fun z=>z c)).trans (if_pos d)
theorem zui(h:xu x)(hx:bz D.ns x=none)(hu:bz D.ns u=some n)(c:nK kd/\n.ch≠none/\∀ys,Up D.ns u ys->ys.length<=5)(d:1<=s/\s<=1000000)(e:kd=Str.ofString "leaf"/\∃r:Int,rm= .int r/\r<0):lH D x u kd s rm=some .length:=by unfold lH;rw[if_neg (fun z=>z h),if_neg (fun z=>z hx),hu];exact(if_neg (fun z=>z c)).trans ((if_neg (fun z=>z d)).trans (if_pos e))
theorem Zx(h:xu x)(hx:bz D.ns x=none)(hu:bz D.ns u=some n)(c:nK kd/\n.ch≠none/\∀ys,Up D.ns u ys->ys.length<=5)(d:1<=s/\s<=1000000)(e:¬(kd=Str.ofString "leaf"/\∃r:Int,rm= .int r/\r<0)):lH D x u kd s rm=none:=by unfold lH;rw[if_neg (fun z=>z h),if_neg (fun z=>z hx),hu];exact(if_neg (fun z=>z c)).trans ((if_neg (fun z=>z d)).trans (if_neg e))
end
def Rf.at(cN cT cC cP cS cL:Addr):Rf->Addr
 | .name=>cN
 | .taken=>cT
 | .cls=>cC
 | .place=>cP
 | .share=>cS
 | .length=>cL
def TD.put(D:TD)(u:ND)(c:lz×b5)(s:Int)(n:ND):TD:={D with ns:=dF D.ns {u with ch:=some (c.1,c.2.put n.nm s)}++[n]}
def TD.full(D:TD):Prop:=D.ns.length<=60/\∀n∈D.ns,∀c,n.ch=some c->c.2.sz<=4*D.ns.length
def TD.fit(D:TD):Prop:=D.ns.length<=60/\∀n∈D.ns,∀c,n.ch=some c->c.2.sz<=800
section
variable{X:Cx}
end
theorem Q9{K:aa}{H:Hp}{l:Addr}{ks:List Str}{Q:VK}{y:Int}(hl:H l=some (.lst (ks.map V.str)))(h0:0<=y)(h1:y<ks.length)(k:∀z∈ks,Q (.str z) H):CW K (.ref l) (.int y) H Q:=by have e:=KO (xs:=ks.map V.str) (j:=y.toNat) (v:=V.str (ks[y.toNat]'(by omega))) (by simp);rw[rQ h0]at e;exact NL (.of hl) e (k _ (nv _))
theorem zyh{c:TT}{t1 t2:TS}{D:Ends}{σ:St}{H:Hp}(h:∀G:St->Hp->Prop,(∀σ H,t1 D σ H->G σ H)->rh c (fun _ σ H=>G σ H) t2 D σ H):rh c t1 t2 D σ H:=h (t1 D) fun _ _ z=>z
section
variable{C:Cl}{H H':Hp}{D:TD}
theorem bQ.apart(h:bQ C H D){x:ND}(hx:x∈D.ns){b:Addr}(hb:b∈x.foot):b≠D.p/\b≠D.pn/\b≠D.pg:=by have fd:=h.fd;unfold TD.foot at fd;simp only[aY,ao,not_or]at fd;have m:=dH.mpr ⟨x,hx,hb⟩;exact⟨fun z=>fd.1.2.2 (z▸m),fun z=>fd.2.1.2 (z▸m),fun z=>fd.2.2.1 (z▸m)⟩
theorem bQ.field(h:bQ C H D){dx:Addr}{fs qp:List (Str×V)}{tm fr ct:Int}(hp:H D.p=some (.ins C.t dx fs))(ft:As qp D.most D.pn tm fr ct D.pg):bQ C (aH H D.p (.ins C.t dx qp)) {D with tm:=tm,fr:=fr,ct:=ct}:=by
 have fd:=h.fd;unfold TD.foot at fd;simp only[aY,ao,not_or]at fd;have kp:∀b o,b≠D.p->H b=some o->aH H D.p (.ins C.t dx qp) b=some o:=fun b o q e=>by rw[dj q];exact e
 have tp:∀{b xs},H b=some (.tup xs)->b≠D.p:=fun{b xs} e z=>by rw[z,hp]at e;cases e
 refine⟨⟨dx,qp,bR,ft⟩,kp _ _ (d8 fd.1.1) h.hn,fun x hx=>(h.nd x hx).keep fun b o hb e=>kp b o ?_ e,kp _ _ (d8 fd.1.2.1) h.go,KD (fun p g z=>kp _ _ (tp z) z) h.gr,h.fd⟩;rcases hb with q|⟨xs,q⟩
 ·exact(h.apart hx q).1
 ·exact tp q
theorem bQ.queue(h:bQ C H D)(nd:(D.ns.map (·.nm)).Nodup){n:ND}(hn:n∈D.ns){ps:List Addr}{qu:List D2}(r:tq H ps qu):bQ C (aH H n.ql (.lst (ps.map V.ref))) {D with ns:=dF D.ns {n with ps:=ps,qu:=qu}}:=by
 have fn:=h.En hn;have N:=h.nd n hn;have IV:=fn;unfold ND.foot at IV;simp only[aY,ao,ay,not_or]at IV;obtain⟨⟨f1,f2,f3⟩,⟨f4,f5⟩,f6⟩:=IV;have kp:∀b o,b≠n.ql->H b=some o->aH H n.ql (.lst (ps.map V.ref)) b=some o:=fun b o q e=>by rw[dj q];exact e
 have tp:∀{b xs},H b=some (.tup xs)->b≠n.ql:=fun{b xs} e z=>by rw[z,N.qu.hl]at e;cases e
 obtain⟨dx,fs,h1,h2⟩:=N.ex;refine h.node nd hn rfl rfl (Nv (ai _ (aj ..))) ⟨⟨dx,fs,kp _ _ f1 h1,h2⟩,⟨bR,r.keep fun p z hp=>kp _ _ (tp hp) hp⟩,fun c hc=>?_,fun b hb=>?_⟩ fn fun b hb=>.inl hb
 ·refine(N.ch c hc).keep fun b o hb e=>kp b o ?_ e;rcases hb with q|⟨xs,q⟩
  ·exact fun z=>f4 (by rw[show n.ch=some c from hc];exact z▸q)
  ·exact tp q
 ·obtain⟨CB,qp,pr,pl,b1,b2,b3,b4⟩:=(N.bk b hb).ex;have:b.1≠n.ql:=fun z=>f5 (by rw[show n.bk=some b from hb];exact aC.mpr z.symm);exact⟨CB,qp,pr,pl,kp _ _ this b1,b2,kp _ _ (tp b3) b3,kp _ _ (tp b4) b4⟩
end
section
variable{C:Cl}{H H':Hp}{D:TD}
end
theorem UM{X:Cx}(K:aa)(h:X.K=K){e:Expr}{f:Str}{pos:Pos}{ta:TE}(he:PE X e ta)(hb:attributeBase e f X.env (eval e X.env)=eval e X.env):PE X (.Attribute e f pos) (JR K ta f):=h▸eK he hb
def TD.gH(D:TD)(un:ND)(c:lz×b5)(x:Str)(s:Int):TD:={D with ns:=dF D.ns {un with ch:=some (c.1,c.2.gH D.most x s)}}
theorem TD.Wf.gH{D:TD}(h:D.Wf){un:ND}{c:lz×b5}{x:Str}{s:Int}(hu:un∈D.ns)(hc:un.ch=some c)(hx:aP c.2.nm x≠none)(s0:1<=s)(s1:s<=1000000):(D.gH un c x s).Wf:=by
 refine h.set hu rfl rfl ⟨fun z=>(by cases z),fun z=>(by rw[hc]at z;cases z)⟩ (fun d d' e1 e2=>?_) (fun d e=>?_)
 ·rw[hc]at e1;cases e1
  cases e2;show(c.2.gH D.most x s).nm.map (·.1)=_
  rw[b5.BJ,Sw.jz]
 ·cases e;exact(h.k9 un hu c hc).gH hx s0 s1
theorem TD.Wf.above{D:TD}(W:D.Wf){x:Str}{n:ND}(nr:x≠road)(hx:bz D.ns x=some n):∃u c,n.ab=some u.nm/\u∈D.ns/\bz D.ns u.nm=some u/\u.ch=some c/\aP c.2.nm x≠none:=by
 obtain⟨gf,ne⟩:=jK hx;cases h:n.ab with
 |none=>exact absurd (ne▸W.ra n gf h) nr
 |some y=>
  obtain⟨ys,U,_⟩:=W.up n gf;cases U with
  |top q1 q2=>rw[ne,hx]at q1;cases q1;rw[h]at q2;cases q2
  |on q1 q2 q3=>
   rw[ne,hx]at q1;cases q1
   rw[h]at q2;cases q2
   obtain⟨u,hu⟩:=q3.Ho;obtain⟨gZ,ue⟩:=jK hu;subst ue;have w:n.nm∈iD D.ns u.nm:=av.mpr ⟨n,dw.mpr ⟨gf,decide_eq_true h⟩,rfl⟩;cases hc:u.ch with
   |none=>rw[W.lf u gZ hc]at w;cases w
   |some c=>
    refine⟨u,c,rfl,gZ,hu,hc,?_⟩;rw[Sw.jt,W.Al u gZ c hc,<-ne];exact w
section
variable{prog:Program}{w:World}{A:Around}{R:Result->Shared->Prop}
def T4(ns:List Int)(j:Nat)(AE:Array Value):Prop:=(j=0/\AE= #[])\/∃m t,AE= #[.int m t,.int m t]/\m∈ns.take j/\∀n∈ns.take j,m<=n
def zzm(ns:List Int)(d v:Value):Prop:=(ns=[]/\v=d)\/∃m t,v= .int m t/\m∈ns/\∀n∈ns,m<=n
theorem zyi{l it S:Addr}{ns:List Int}{c7:List Value}{d:Value}(hh:A.handled=none)(QF:l≠it)(F7:S≠it)(Lo:S≠l)(rv:b8 (ns.map V.int) c7):
    ∀(k j:Nat)(s:Shared)(AE:Array Value)(c:Nat),c7.length-j=k->j<=c7.length->s.heap.IsListIter it l j->s.heap.IsList l c7.toArray->T4 ns j AE->
    s.heap.get? S=some {cls:=.type "list",dict:=none,data:=.seq AE c,slots:=#[]}->
    (∀v h' tk,zzm ns d v->(∀b o,b≠it->b≠S->s.heap.get? b=some o->h'.get? b=some o)->R (.ok (.ret v)) {s with heap:=h',toks:=tk})->
    codeAny (model prog w) A (.builtin "min.loop" ⟨[.ref it,.none,.ref S],[("default",d)]⟩) R s:=by
  have fK:ns.length=c7.length:=by have:=rv.length;rwa [ae]at this
  have nm:(toString "min" ++toString ".loop":String)="min.loop":=by decide
  intro k
  induction k with
  |zero=>
    intro j s AE c hk hj CJ Gb hb uI fin;have ej:j=c7.length:=by omega
    refine codeAny_builtin F.entry_min_loop ?_;rw[Around.under_plainId F.plain_min_loop _];show wpAny _ A.in1 (seqItems? (.ref S) >>=_) _ _ s;refine wpAny_bind (wpAny_seqItems uI rfl ?_);show wpAny _ A.in1 (tryCatch (pyNext (.ref it)) _ >>=_) _ _ s;refine wpAny_bind (wpAny_tryCatch (wpAny_pyNext_list_end (A:=A.in1) hh CJ Gb (by simp[ej]) fun h' ek=>?_));have AM:=ek S _ F7 uI;rcases hb with⟨e0,rfl⟩ |⟨m,t,rfl,hm,kE⟩
    · refine wpAny_bind (wpAny_rule (wpAny_pure ?_));refine fin d h' s.toks (.inl ⟨Aw.mp (by omega),rfl⟩) fun b o n1 _ e=>ek b o n1 e
    · show wpAny _ A.in1 (updateSeq S (fun _=>#[]) >>=_) _ _ _;refine wpAny_bind (wpAny_updateSeq AM rfl (wpAny_bind (wpAny_letGo (wpAny_pure ?_))));rw[jy (by omega)]at hm kE;exact fin _ _ s.toks (.inr ⟨m,t,rfl,hm,kE⟩) fun b o n1 n2 e=>(Heap.get?_update_other _ _ (d8 n2)).trans (ek b o n1 e)
  |succ k ih=>
    intro j s AE c hk hj CJ Gb hb uI fin;have jT:j<c7.length:=by omega
    refine codeAny_builtin F.entry_min_loop ?_;rw[Around.under_plainId F.plain_min_loop _];show wpAny _ A.in1 (seqItems? (.ref S) >>=_) _ _ s;refine wpAny_bind (wpAny_seqItems uI rfl ?_);show wpAny _ A.in1 (tryCatch (pyNext (.ref it)) _ >>=_) _ _ s;have hv:c7.toArray[j]?=some c7[j]:=by simp[jT]
    refine wpAny_bind (wpAny_tryCatch (wpAny_pyNext_list_item CJ Gb hv fun h' xV uh=>?_));obtain⟨n,t,en,ev⟩:=Zh rv hv;rw[ev];have AM:=uh.extBut S _ F7 uI;have AO:h'.IsList l c7.toArray:=Gb.extBut uh.extBut QF;have step:∀(m:Int)(tt:Tok)(s2:Shared)(c2:Nat),s2.heap.IsListIter it l (j+1)->s2.heap.IsList l c7.toArray->s2.heap.get? S=some {cls:=.type "list",dict:=none,data:=.seq #[.int m tt,.int m tt] c2,slots:=#[]}->
        m∈ns.take (j+1)->(∀z∈ns.take (j+1),m<=z)->(∀b o,b≠it->b≠S->s.heap.get? b=some o->s2.heap.get? b=some o)->s2.gens=s.gens->s2.drawn=s.drawn->s2.os=s.os->
        codeAny (model prog w) A (.builtin "min.loop" ⟨[.ref it,.none,.ref S],[("default",d)]⟩) R s2:=fun m tt s2 c2 i1 i2 i3 i4 i5 i6 g1 g2 g3=>by
      refine ih (j+1) s2 _ c2 (by omega) jT i1 i2 (.inr ⟨m,tt,rfl,i4,i5⟩) i3 fun v Qm JT r1 r2=>?_;have:=fin v Qm JT r1 fun b o n1 n2 e=>r2 b o n1 n2 (i6 b o n1 n2 e);obtain⟨q1,q2,q3,q4,q5⟩:=s2;obtain⟨p1,p2,p3,p4,p5⟩:=s;cases g1;cases g2;cases g3
      exact this
    have l6:=OR en;have nY:∀(g:Obj->Obj) b o,b≠it->b≠S->s.heap.get? b=some o->(h'.update S g).get? b=some o:=fun g b o n1 n2 e=>(Heap.get?_update_other _ _ (d8 n2)).trans (uh.extBut b o n1 e);rcases hb with⟨e0,rfl⟩ |⟨m,t0,rfl,hm,kE⟩
    · show wpAny _ A.in1 (updateSeq S (fun _=>_) >>=_) _ _ _;refine wpAny_bind (wpAny_updateSeq AM rfl ?_);rw[nm];refine wpAny_pure ⟨plainId_quiet F.plain_min_loop _,step n t _ _ (xV.at fun o e=>(Heap.get?_update_other _ _ F7).trans e) (AO.at fun o e=>(Heap.get?_update_other _ _ Lo).trans e) (Heap.get?_update_self _ AM rfl) ?_ ?_ (nY _) rfl rfl rfl⟩
      · rw[l6];simp
      · rw[l6,e0];simp
    · show wpAny _ A.in1 (tryCatch (holding [.int n t,.int n t] (richCompare .Lt (.int n t) (.int m t0) >>=_)) _ >>=_) _ _ _;refine wpAny_bind (wpAny_tryCatch (wpAny_holding (wpAny_bind (richCompare_gives (op:=.Lt) (typeIs_int _ _ t) (typeIs_int _ _ t0) F.slot_int_lt F.entry_int_lt (F.args_int_lt_2 _ _) (gives_int_lt _ _ t t0) (fun x=>nomatch x) ?_))));refine wpAny_bind (wpAny_holding (wpAny_truthy_bool (wpAny_bind (wpAny_letGo (wpAny_pure ?_)))));by_cases Lw:n<m
      · simp only[Lw,decide_true,if_true];refine wpAny_bind (wpAny_updateSeq AM rfl (wpAny_bind (wpAny_letGo ?_)));rw[nm];refine wpAny_pure ⟨plainId_quiet F.plain_min_loop _,step n t _ _ (xV.at fun o e=>(Heap.get?_update_other _ _ F7).trans e) (AO.at fun o e=>(Heap.get?_update_other _ _ Lo).trans e) (Heap.get?_update_self _ AM rfl) ?_ ?_ (nY _) rfl rfl rfl⟩
        · rw[l6];simp
        · rw[l6];intro z hz;rcases ay.mp hz with hz|hz
          · have:=kE z hz;omega
          · have:z=n:=by simpa using hz
            omega
      · simp only[Lw,decide_false,fQ,if_false];refine wpAny_bind (wpAny_letGo ?_);rw[nm];refine wpAny_pure ⟨plainId_quiet F.plain_min_loop _,step m t0 _ c xV AO AM ?_ ?_ (fun b o n1 _ e=>uh.extBut b o n1 e) rfl rfl rfl⟩
        · rw[l6];exact eZ _ hm
        · rw[l6];intro z hz;rcases ay.mp hz with hz|hz
          · exact kE z hz
          · have:z=n:=by simpa using hz
            omega
theorem zwn(a d:Value):argsOk "min" ⟨[a],[("default",d)]⟩:=by unfold argsOk;kernel_rfl
theorem zwo{E:Value->Shared->Prop}{s:Shared}{l:Addr}{ns:List Int}{c7:List Value}{d:Value}{Q:Value->Shared->Prop}(hh:A.handled=none)(hl:s.heap.IsList l c7.toArray)(rv:b8 (ns.map V.int) c7)(h:∀v h' tk,zzm ns d v->(∀b o,s.heap.get? b=some o->h'.get? b=some o)->Q v {s with heap:=h',toks:=tk}):
    wpAny (model prog w) A (call (.builtin "min") [.ref l] [("default",d)]) Q E s:=by
  have nm:(toString "min" ++toString ".loop":String)="min.loop":=by decide
  refine wpAny_call (codeAny_call_builtin F.plain_min F.entry_min ?_);have ca:checkBuiltinCall "min" ⟨[.ref l],[("default",d)]⟩=pure ():=by
    simp only[checkBuiltinCall,F.kind_min];cases Je:Manifest.signature? "min"with
    |none=>rfl
    |some sig=>
      have ha:=zwn (.ref l) d;simp only[argsOk,Je]at ha;exact ha
  rw[ca];refine wpAny_pure ?_;show wpAny _ A.in1 (Builtin.Builtins.bindParams "min" ["key","default"] 0 ⟨[],[("default",d)]⟩ >>=_) _ _ s;refine wpAny_bind (wpAny_of_eq (show Builtin.Builtins.bindParams "min" ["key","default"] 0 ⟨[],[("default",d)]⟩=pure [none,some d]from rfl) ?_);refine wpAny_bind (wpAny_pure ?_);have jT:l<s.heap.objs.size:=by obtain⟨_,e,_⟩:=id hl;exact Heap.lt_size e
  refine wpAny_bind (wpAny_pyIter_list hl ?_);refine wpAny_bind (wpAny_newObj_type ?_);rw[nm];have kp:∀(x y:Obj) b o,s.heap.get? b=some o->((s.heap.push x).push y).get? b=some o:=fun x y b o e=>Heap.get?_push_of_some _ (Heap.get?_push_of_some _ e);refine wpAny_pure ⟨plainId_quiet F.plain_min_loop _,?_⟩;refine zyi (it:=s.heap.objs.size) (S:=(s.heap.push _).objs.size) hh (bq jT) (by rw[Heap.size_push];exact II _) (by rw[Heap.size_push];exact oG (gk jT)) rv c7.length 0 _ #[] 0 rfl (bW _)
    ⟨_,Heap.get?_push_of_some _ (Heap.get?_push_size _ rfl),rfl,rfl⟩ (hl.at fun o e=>kp _ _ _ _ e) (.inl ⟨rfl,rfl⟩) (Heap.get?_push_size _ rfl) fun v h' tk r1 r2=>?_;refine h v h' tk r1 fun b o e=>r2 b o (bq (Heap.lt_size e)) (bq ?_) (kp _ _ _ _ e);rw[Heap.size_push];exact gk (Heap.lt_size e)
end
def HZ(K:aa)(t:TA)(td:TE):TE:=fun σ H Q=>t σ H fun xs H1=>td σ H1 fun y H2=>∃(p:Addr)(ns:List Int),xs=[.ref p]/\j1 K H2 p (ns.map V.int)/\(ns=[]->Q y H2)/\∀m,m∈ns->(∀n∈ns,m<=n)->Q (.int m) H2
theorem SG{X:Cx}(K:aa)(hK:X.K=K)(hc:X.calm=true){l d:Expr}{t:TA}{td:TE}{p pos Gn:Pos}(hg:Gl X "min")(hm:X.mg "min"=none)(hl:PA X [l] t)(hd:PE X d td)(he:starEach [l] X.env=[(false,eval l X.env)]:=by rfl):
    PE X (.Call (.Name "min" p) [l] [⟨some "default",d,Gn⟩] pos) (HZ K t td):=by
  subst hK;intro ah s σ H Q I h;refine wpAny_Call_Name_kw (J4 I hg hm boot_min ?_);refine callWith_kw (he:=by rw[he];rfl) (hplain:=by rw[he];rfl) ?_;refine eJ (hl pos ah s σ H _ I h) fun us s1⟨xs,H1,I1,r1,q1⟩=>?_;refine kws_cons (eJ (hd ah s1 σ H1 _ I1 q1) fun y s2⟨yv,H2,I2,r2,q2⟩=>kws_nil ?_);obtain⟨a,ns,rfl,hq,f0,fin⟩:=q2;obtain⟨u,rfl,ru⟩:=vals1 r1;cases(show u=Value.ref a from ru)
  obtain⟨c7,rv,hp,hz⟩:=I2.list hq;refine zwo (I2.ok.hd hc) hp.isList rv fun v h' tk r k=>?_;rcases r with⟨e,rfl⟩ |⟨m,t3,rfl,e1,e2⟩
  · exact⟨yv,H2,I2.kept (t':=tk) k,r2,f0 e⟩
  · exact⟨.int m,H2,I2.kept (t':=tk) k,⟨_,rfl⟩,fin m e1 e2⟩
theorem zyj{X:Cx}{e:Expr}:PE X e (fun _ _ _=>False):=fun _ _ _ _ _ _ h=>h.elim
section
variable{prog:Program}{w:World}{A:Around}{E:Value->Shared->Prop}{s:Shared}
end
section
variable{X:Cx}
end
def o9.lv(b:o9)(t:Int):Rat:=Sw.lvl b.d b.r b.s b.l t
structure kQ(m:Int)(b:o9):Prop where
 m1:1<=m
 d1:m<=b.d
 d2:b.d<=1000000000000
 r0:0<b.r
 rz:Sw.eY 70 b.r
 rd:(b.r.den:Int)<=1000000
 n:∃n:Int,b.l=(n:Rat) / ((b.r.den:Int):Rat)/\0<=n/\n<=b.d*(b.r.den:Int)
 s0:0<=b.s
theorem kQ.num{m:Int}{b:o9}(h:kQ m b):0<b.r.num:=by
 have:=h.r0;have e:0<b.r↔0<b.r.num:=by rw[<-Sw.Mp];show(0:Int)*_ < _* ((1:Nat):Int)↔_;omega
 exact e.mp this
theorem SH{d:Int}{r:Rat}{s n t:Int}:Sw.lvl d r s ((n:Rat) / ((r.den:Int):Rat)) t=((if n+r.num*(t-s)<d*(r.den:Int)then n+r.num*(t-s)else d*(r.den:Int):Int):Rat) / ((r.den:Int):Rat):=by
 have dn:=Sw.cy (Sw.eT r);have e3:((n+r.num*(t-s):Int):Rat) / ((r.den:Int):Rat)=(n:Rat) / ((r.den:Int):Rat)+r*((t-s:Int):Rat):=by rw[gg,aG,Sw.pC r];grind
 have e4:((d*(r.den:Int):Int):Rat) / ((r.den:Int):Rat)=(d:Rat):=by rw[aG];grind
 have e5:n+r.num*(t-s)<d*(r.den:Int)↔(n:Rat) / ((r.den:Int):Rat)+r*((t-s:Int):Rat)<(d:Rat):=by rw[<-e3,zzh]
 unfold Sw.lvl;rw[kA];by_cases hc:n+r.num*(t-s)<d*(r.den:Int)
 ·rw[if_pos hc,e3];rw[e5]at hc;grind
 ·rw[if_neg hc,e4];rw[e5]at hc;grind
theorem kQ.V5{m:Int}{b:o9}(h:kQ m b){t:Int}(ht:b.s<=t):∃level:Int,b.lv t=(level:Rat) / ((b.r.den:Int):Rat)/\0<=level/\level<=b.d*(b.r.den:Int):=by
 obtain⟨n,e,n0,n1⟩:=h.n;refine⟨if n+b.r.num*(t-b.s)<b.d*(b.r.den:Int)then n+b.r.num*(t-b.s)else b.d*(b.r.den:Int),?_,?_,?_⟩
 ·unfold o9.lv;rw[e];exact SH
 ·have:=gB (iu h.num) (show 0<=t-b.s by omega);split <;> omega
 ·split <;> omega
theorem kQ.mono{m:Int}{b:o9}(h:kQ m b){t u:Int}(tu:t<=u):b.lv t<=b.lv u:=by unfold o9.lv Sw.lvl;have hr:=h.r0;have e:((t-b.s:Int):Rat)<=((u-b.s:Int):Rat):=bX.mpr (by omega);have e2:b.r*((t-b.s:Int):Rat)<=b.r*((u-b.s:Int):Rat):=kB e (uE hr);rw[kA,kA];grind
def o9.yw(b:o9)(t len:Int):Int:=if(len:Rat)<=b.lv t then t else t+(((len:Rat)-b.lv t) / b.r).ceil
theorem Ej{a b:Int}{r:Rat}:(b:Rat)<=(a:Rat) / ((r.den:Int):Rat)↔b*(r.den:Int)<=a:=by
 have:=zzh (a:=a) (b:=b) (r:=r);constructor
 ·intro h;rcases ou a (b*(r.den:Int))with z|z
  ·have:=this.mpr z;grind
  ·exact z
 ·intro h;rcases Rat.le_total (a:=(b:Rat)) (b:=(a:Rat) / ((r.den:Int):Rat))with z|z
  ·exact z
  ·rcases E9.mp z with y|y
   ·have:=this.mp y;omega
   ·rw[y];exact ku
theorem kQ.GP{m:Int}{b:o9}(h:kQ m b)(t len:Int):t<=b.yw t len:=by
 unfold o9.yw;split
 ·exact gi _
 ·rename_i c
  have hr:=h.r0;have:(0:Rat)<=((len:Rat)-b.lv t) / b.r:=by refine FZ.mp fun z=>?_;rw[qB hr]at z;grind
  have h2:(0:Rat)<=((((len:Rat)-b.lv t) / b.r).ceil:Rat):=lG this DP;have h3:((0:Int):Rat)<=((((len:Rat)-b.lv t) / b.r).ceil:Rat):=h2;have:=bX.mp h3;omega
theorem T5{b:o9}{t u:Int}(hr:0<b.r)(tu:t<=u):b.lv u=min (b.lv t+b.r*((u-t:Int):Rat)) (b.d:Rat):=by
 unfold o9.lv Sw.lvl;have e:((u-b.s:Int):Rat)=((t-b.s:Int):Rat)+((u-t:Int):Rat):=by rw[<-gg];congr 1;omega
 have e2:(0:Rat)<=b.r*((u-t:Int):Rat):=by refine lZ (uE hr) ?_;have:((0:Int):Rat)<=((u-t:Int):Rat):=bX.mpr (by omega);exact this
 rw[e,Rat.mul_add,kA,kA,kA];grind
theorem kQ.Be{m:Int}{b:o9}(h:kQ m b){t len:Int}(hl:len<=m):(len:Rat)<=b.lv (b.yw t len):=by
 by_cases c:(len:Rat)<=b.lv t
 ·have:b.yw t len=t:=by unfold o9.yw;rw[if_pos c]
  rw[this];exact c
 ·have hg:=h.GP t len;have hr:=h.r0;rw[T5 hr hg];have hd:(len:Rat)<=(b.d:Rat):=bX.mpr (by have:=h.d1;omega);have e:b.yw t len-t=(((len:Rat)-b.lv t) / b.r).ceil:=by unfold o9.yw;rw[if_neg c];omega
  rw[e];have h1:((len:Rat)-b.lv t) / b.r<=((((len:Rat)-b.lv t) / b.r).ceil:Rat):=DP;have h2:b.r*(((len:Rat)-b.lv t) / b.r)<=b.r*((((len:Rat)-b.lv t) / b.r).ceil:Rat):=kB h1 (uE hr);have h3:b.r*(((len:Rat)-b.lv t) / b.r)=(len:Rat)-b.lv t:=by
   have:b.r≠0:=by grind
   grind
  rw[kA];grind
theorem kQ.GQ{m:Int}{b:o9}(h:kQ m b){t len:Int}(ht:b.s<=t)(l0:0<=len)(hl:len<=1000000):b.yw t len<=t+1000000000000:=by
 obtain⟨level,el,v0,v1⟩:=h.V5 ht;unfold o9.yw;split
 ·omega
 ·rename_i c
  rw[el]at c⊢;have c2:¬len*(b.r.den:Int)<=level:=fun z=>c (Ej.mpr z);have:=Sj h.num v0 l0 c2;have e:ww len level b.r=(((len:Rat)-(level:Rat) / ((b.r.den:Int):Rat)) / b.r).ceil:=rfl;rw[<-e];have d0:=Sw.iI b.r;have:len*(b.r.den:Int)<=1000000*1000000:=dS hl h.rd (iu d0) (by decide);omega
def o9.Hz(b:o9)(t len:Int):o9:={b with s:=t,l:=b.lv t-(len:Rat)}
theorem kQ.Hz{m:Int}{b:o9}(h:kQ m b){t len:Int}(ht:b.s<=t)(l0:0<=len)(hl:(len:Rat)<=b.lv t):kQ m (b.Hz t len):=by obtain⟨level,el,v0,v1⟩:=h.V5 ht;rw[el,Ej]at hl;have np:0<=len*(b.r.den:Int):=gB l0 (iu (Sw.iI b.r));refine⟨h.m1,h.d1,h.d2,h.r0,h.rz,h.rd,⟨level-len*(b.r.den:Int),?_,by omega,by show _<=b.d*(b.r.den:Int);omega⟩,by have:=h.s0;show 0<=t;omega⟩;show b.lv t-(len:Rat)=((level-len*(b.r.den:Int):Int):Rat) / ((b.r.den:Int):Rat);have dn:=Sw.cy (Sw.eT b.r);rw[el,xP,aG];grind
structure FM(bs:List o9)(t len a:Int):Prop where
 ge:t<=a
 ok:∀b∈bs,(len:Rat)<=b.lv a
 le:∀u,t<=u->(∀b∈bs,(len:Rat)<=b.lv u)->a<=u
theorem FM.now{bs:List o9}{t len a:Int}(h:FM bs t len a):a=t↔∀b∈bs,(len:Rat)<=b.lv t:=by
 constructor
 ·intro e;subst e;exact h.ok
 ·intro k;have:=h.le t (gi _) k;have:=h.ge;omega
theorem FM.bound{m:Int}{bs:List o9}{t len a:Int}(h:FM bs t len a)(ok:∀b∈bs,kQ m b)(hl:len<=m)(l0:0<=len)(m6:m<=1000000)(hs:∀b∈bs,b.s<=t):a<=t+1000000000000:=by refine h.le _ (by omega) fun b hb=>?_;exact lG ((ok b hb).Be hl) ((ok b hb).mono ((ok b hb).GQ (hs b hb) l0 (by omega)))
def Bf(rs:Nm)(x:Str):Int:=(aP rs x).getD 0
def DU(q:List Str):Option Str->List Str
 |none=>q
 |some t=>q++[t]
def CD(rs:Nm):Option Str->Nm
 |none=>rs
 |some t=>putN rs t (if 0<Bf rs t then 0 else Bf rs t)
def qI(rs:Nm)(rd:List Str):Option Str->Bool
 |none=>false
 |some t=>decide (t∈rd) && decide (0<Bf rs t)
theorem KE(rs:Nm)(rd:List Str)(t:Str):qI rs rd (some t)=(decide (t∈rd) && decide (0<Bf rs t)):=rfl
theorem zwp(rs:Nm)(t:Str):CD rs (some t)=putN rs t (if 0<Bf rs t then 0 else Bf rs t):=rfl
def qX(q:List Str)(rs:Nm)(tu:Option Str)(rd:List Str):Option Str:=if qI rs rd tu then tu else(DU q tu).find? fun x=>decide (x∈rd)
def u5(q:List Str)(rs:Nm)(tu:Option Str)(rd:List Str)(x:Str):List Str:=if qI rs rd tu then q else(DU q tu).erase x
def sZ(most:Int)(nm:Nm)(rs:Nm)(tu:Option Str)(rd:List Str)(x:Str):Nm:=if qI rs rd tu then rs else putN (CD rs tu) x (Bf (CD rs tu) x+(aP nm x).getD 0*most)
section
variable{most:Int}{nm:Nm}{q:List Str}{rs:Nm}{tu:Option Str}
theorem zQ(h:Sw.RI most nm q rs tu){x:Str}:aP rs x≠none↔aP nm x≠none:=by rw[Sw.jt,Sw.jt,h.ks]
theorem BU(h:Sw.RI most nm q rs tu){t:Str}(ht:tu=some t):aP nm t≠none:=by rw[Sw.jt,<-h.pm.mem_iff,ht];simp
theorem Pq(h:Sw.RI most nm q rs tu):rs.length=nm.length/\q.length<=nm.length:=by have e1:=congrArg gG h.ks;have e2:=h.pm.length_eq;rw[ae,ae]at e1;rw[bF,ae]at e2;exact⟨e1,by omega⟩
theorem zzn(h:Sw.RI most nm q rs tu):Sw.RI most nm (DU q tu) (CD rs tu) none:=by
 cases tu with
 |none=>exact h
 |some t=>
  have e:=(zQ h).mpr (BU h rfl);cases er:aP rs t with
  |none=>exact absurd er e
  |some r=>
   have:=h.ends rfl er;rw[zwp];unfold Bf;rw[er];exact this
theorem Mx(h:Sw.RI most nm q rs tu):q.Nodup:=(cY.mp (h.pm.nodup_iff.mpr h.nd)).1
theorem RH(h:Sw.RI most nm q rs tu){y:Str}(hy:y∈q):y∈nm.map (·.1):=h.pm.mem_iff.mp (ay.mpr (.inl hy))
theorem Z4(h:Sw.RI most nm q rs none){rd:List Str}(ne:rd≠[])(sub:∀x∈rd,aP nm x≠none):∃x s r,q.find? (fun x=>decide (x∈rd))=some x/\x∈rd/\x∈q/\aP nm x=some s/\aP rs x=some r:=by
 cases rd with
 |nil=>exact absurd rfl ne
 |cons y l=>
  have hy:=Sw.jt.mp (sub y (by simp));have yq:y∈q:=by
   have:=h.pm.mem_iff.mpr hy
   rwa [rF,bw]at this
  cases hf:q.find? fun x=>decide (x∈y::l)with
  |none=>
   have:=sO.mp hf y yq;simp at this
  |some x=>
   have xr:x∈y::l:=by have:=oz hf;exact of_decide_eq_true this
   have hx:=sub x xr;have hr:=(zQ h).mpr hx;cases e1:aP nm x with
   |none=>exact absurd e1 hx
   |some s=>
    cases e2:aP rs x with
    |none=>exact absurd e2 hr
    |some r=>exact⟨x,s,r,rfl,xr,iy hf,e1,e2⟩
theorem SI(h:Sw.RI most nm q rs tu){rd:List Str}(ne:rd≠[])(sub:∀x∈rd,aP nm x≠none):
    ∃x,qX q rs tu rd=some x/\x∈rd/\Sw.RI most nm (u5 q rs tu rd x) (sZ most nm rs tu rd x) (some x)/\∃r,aP (sZ most nm rs tu rd x) x=some r/\0<r:=by
  unfold qX u5 sZ;by_cases c:qI rs rd tu=true
  · cases tu with
    |none=>cases c
    |some t=>
      rw[KE,fM,decide_eq_true_eq,decide_eq_true_eq]at c;have c':qI rs rd (some t)=true:=by rw[KE,decide_eq_true c.1,decide_eq_true c.2];rfl
      refine⟨t,by rw[if_pos c'],c.1,by rw[if_pos c',if_pos c'];exact h,?_⟩;rw[if_pos c'];cases e:aP rs t with
      |none=>exact absurd e ((zQ h).mpr (BU h rfl))
      |some r=>
        have:=c.2;unfold Bf at this;rw[e]at this;exact⟨r,rfl,this⟩
  · have h1:=zzn h;obtain⟨x,s,r,hf,xr,xq,e1,e2⟩:=Z4 h1 ne sub;obtain⟨h2,pos⟩:=h1.IK xq e2 e1;refine⟨x,by rw[if_neg c];exact hf,xr,?_,?_⟩
    · rw[if_neg c,if_neg c];unfold Bf;rw[e1,e2];exact h2
    · rw[if_neg c];unfold Bf;rw[e1,e2,GU,if_pos rfl,e2];exact⟨_,rfl,pos⟩
end
structure DM(H:Hp)(a:lz)(most:Int)(nm:Nm)(q:List Str)(rs:Nm)(tu:Option Str)(rl:Addr)(rd:List Str):Prop where
 ri:Sw.RI most nm q rs tu
 m1:most<=1000000
 nl:nm.length<=90
 ok:∀y∈nm.map (·.1),PyData.strOk y=true
 hl:H rl=some (.lst (rd.map V.str))
 nq:rl≠a.pt
 ne:rd≠[]
 sb:∀x∈rd,aP nm x≠none
noncomputable def b5.qW(rd:List Str):b5->Option Str
 | .st nm tg _ ck _ _=>g8 (fun x=>decide (x∈rd)) (fun x=>max ((tg x).getD 0) ck) (nm.map (·.1)) none
 | .rd _ q rs tu _=>qX q rs tu rd
noncomputable def b5.ie(m:Int)(rd:List Str)(x:Str):b5->b5
 | .st nm tg gs ck _ N=>.st nm tg gs (max ((tg x).getD 0) ck) (.str x) N
 | .rd nm q rs tu _=>.rd nm (u5 q rs tu rd x) (sZ m nm rs tu rd x) (some x) (.str x)
noncomputable def b5.qV(x:Str)(len:Int):b5->b5
 | .st nm tg gs ck ch N=>.st nm (gY tg x (ck+(len:Rat) / (((aP nm x).getD 1:Int):Rat))) (gY gs x (max ((gs x).getD 0) ((len:Rat) / (((aP nm x).getD 1:Int):Rat)))) ck ch (N+2)
 | .rd nm q rs tu ch=>.rd nm q (putN rs x ((aP rs x).getD 0-len)) tu ch
theorem b5.l9{m:Int}{rd:List Str}{x:Str}(c:b5):(c.ie m rd x).nm=c.nm:=by cases c <;> rfl
theorem b5.Gu{x:Str}{len:Int}(c:b5):(c.qV x len).nm=c.nm:=by cases c <;> rfl
def b5.Due(x:Str):b5->Prop
 | .st _ _ _ _ ch _=>ch= .str x
 | .rd _ _ rs tu ch=>ch= .str x/\tu=some x/\∃r,aP rs x=some r/\0<r
theorem b5.CV{m:Int}{c:b5}(h:c.Ok m){rd:List Str}(ne:rd≠[])(sub:∀x∈rd,aP c.nm x≠none):∃x,c.qW rd=some x/\x∈rd/\(c.ie m rd x).Ok m/\(c.ie m rd x).Due x:=by
 cases c with
 |st nm tg gs ck ch N=>
  have hp:g8 (fun x=>decide (x∈rd)) (fun x=>max ((tg x).getD 0) ck) (nm.map (·.1)) none≠none:=by
   refine Uu (.inr ?_);cases rd with
   |nil=>exact absurd rfl ne
   |cons y r=>exact⟨y,Sw.jt.mp (sub y (by simp)),by simp⟩
  cases e:g8 (fun x=>decide (x∈rd)) (fun x=>max ((tg x).getD 0) ck) (nm.map (·.1)) none with
  |none=>exact absurd e hp
  |some x=>
   refine⟨x,e,?_,h,rfl⟩;rcases Nq e with⟨_,q⟩ |q
   ·exact of_decide_eq_true q
   ·cases q
 |rd nm q rs tu ch=>
  obtain⟨x,e,xr,ri,r,hr,r0⟩:=SI h.2 ne sub;exact⟨x,e,xr,⟨h.1,ri⟩,rfl,rfl,r,hr,r0⟩
theorem b5.Ok.qV{m:Int}{c:b5}(h:c.Ok m){x:Str}{len:Int}(d:c.Due x)(hx:aP c.nm x≠none)(l0:1<=len)(l1:len<=m):(c.qV x len).Ok m:=by
 cases c with
 |st nm tg gs ck ch N=>
  refine⟨h.1,fun y hy=>?_⟩;show ∃t g,gY tg x _ y=some t/\gY gs x _ y=some g;unfold gY;by_cases e:y=x
  ·rw[if_pos e,if_pos e];exact⟨_,_,rfl,rfl⟩
  ·rw[if_neg e,if_neg e];exact h.2 y hy
 |rd nm q rs tu ch=>
  obtain⟨_,d2,r,hr,r0⟩:=d;refine⟨h.1,?_⟩;show Sw.RI m nm q (putN rs x ((aP rs x).getD 0-len)) tu;rw[hr];exact h.2.Rt d2 hr r0 l0 l1
def b5.jj(p:Nat):b5->Prop
 | .st _ tg gs ck _ _=>∃G:Int,0<G/\Sw.Sz (20*p+1) G/\(Sw.yx G ck/\0<=ck/\ck<=(((p:Int)*1000000:Int):Rat))/\(∀x t,tg x=some t->Sw.yx G t/\0<=t/\t<=(((p:Int)*1000000:Int):Rat))/\∀x g,gs x=some g->0<=g/\Sw.eY 70 g
 | .rd ..=>True
theorem b5.jj.new(b:Bool):(b5.new b).jj 0:=by
 cases b with
 |true=>trivial
 |false=>exact⟨1,by decide,Sw.Sz.one 0,⟨⟨0,by grind⟩,ku,ku⟩,fun x t e=>(by cases e),fun x g e=>(by cases e)⟩
theorem Z5{p p':Nat}(h:p<=p'):(((p:Int)*1000000:Int):Rat)<=(((p':Int)*1000000:Int):Rat):=bX.mpr (by omega)
theorem U0(p:Nat):(0:Rat)<=(((p:Int)*1000000:Int):Rat):=by have:((0:Int):Rat)<=(((p:Int)*1000000:Int):Rat):=bX.mpr (by omega);exact this
theorem b5.jj.mono{p p':Nat}{c:b5}(h:c.jj p)(l:p<=p'):c.jj p':=by
 cases c with
 |st nm tg gs ck ch N=>
  obtain⟨G,g0,gz,⟨c1,c2,c3⟩,ht,hg⟩:=h;have:=Z5 l;exact⟨G,g0,gz.mono (by omega),⟨c1,c2,lG c3 this⟩,fun x t e=>⟨(ht x t e).1,(ht x t e).2.1,lG (ht x t e).2.2 this⟩,hg⟩
 |rd=>trivial
theorem b5.jj.put{p:Nat}{c:b5}(h:c.jj p)(x:Str)(s:Int):(c.put x s).jj p:=by
 cases c with
 |st nm tg gs ck ch N=>
  obtain⟨G,g0,gz,hc,ht,hg⟩:=h;refine⟨G,g0,gz,hc,fun y t e=>?_,fun y g e=>?_⟩
  ·have e:gY tg x 0 y=some t:=e;unfold gY at e;split at e
   ·cases e;exact⟨⟨0,by grind⟩,ku,U0 p⟩
   ·exact ht y t e
  ·have e:gY gs x 0 y=some g:=e;unfold gY at e;split at e
   ·cases e;exact⟨ku,Sw.eY.int (n:=0) (z:=69) (Sw.Sz.jI (by decide) (by decide))⟩
   ·exact hg y g e
 |rd=>trivial
theorem b5.jj.gH{p:Nat}{c:b5}(h:c.jj p)(m:Int)(x:Str)(s:Int):(c.gH m x s).jj p:=by
 cases c with
 |st nm tg gs ck ch N=>exact h
 |rd=>trivial
theorem b5.jj.ie{p:Nat}{c:b5}(h:c.jj p)(m:Int)(rd:List Str)(x:Str):(c.ie m rd x).jj p:=by
 cases c with
 |st nm tg gs ck ch N=>
  obtain⟨G,g0,gz,hc,ht,hg⟩:=h;refine⟨G,g0,gz,?_,ht,hg⟩;have h1:Sw.yx G ((tg x).getD 0)/\0<=(tg x).getD 0/\(tg x).getD 0<=(((p:Int)*1000000:Int):Rat):=by
   cases e:tg x with
   |none=>exact⟨⟨0,by show(0:Rat)=_;grind⟩,ku,U0 p⟩
   |some t=>exact ht x t e
  rw[gI];split
  ·exact hc
  ·exact h1
 |rd=>trivial
theorem b5.jj.qV{p:Nat}{c:b5}(h:c.jj p){x:Str}{s len:Int}(hs:aP c.nm x=some s)(s0:1<=s/\s<=1000000)(l0:0<=len)(l1:len<=1000000):(c.qV x len).jj (p+1):=by
 cases c with
 |st nm tg gs ck ch N=>
  obtain⟨G,g0,gz,⟨c1,c2,c3⟩,ht,hg⟩:=h;have hs:aP nm x=some s:=hs;have sn:s≠0:=by omega
  have gn:G≠0:=by omega
  have sp:=Sw.jq (show 0<s by omega);have le:=Z5 (show p<=p+1 by omega);have d0:(0:Rat)<=(len:Rat) / (s:Rat):=by refine FZ.mp fun z=>?_;rw[qB sp]at z;have:((0:Int):Rat)<=(len:Rat):=bX.mpr l0;have e:((0:Int):Rat)=0:=rfl;grind
  have d1:(len:Rat) / (s:Rat)<=((1000000:Int):Rat):=by refine FZ.mp fun z=>?_;rw[Rat.lt_div_iff sp,<-aG,jB]at z;omega
  have e1:(((p+1:Nat):Int)*1000000:Int)=(p:Int)*1000000+1000000:=by omega
  have dg:Sw.yx (G*s) ((len:Rat) / (s:Rat)):=⟨len*G,by have h1:=Sw.cy gn;have h2:=Sw.cy sn;rw[aG,aG];grind⟩
  refine⟨G*s,Int.mul_pos g0 (by omega),(gz.mul (show Sw.Sz 20 s by unfold Sw.Sz;omega)).mono (by omega),⟨c1.more gn sn,c2,lG c3 le⟩,fun y t e=>?_,fun y g e=>?_⟩
  ·have e:gY tg x (ck+(len:Rat) / (((aP nm x).getD 1:Int):Rat)) y=some t:=e;rw[hs]at e;have e:gY tg x (ck+(len:Rat) / (s:Rat)) y=some t:=e;unfold gY at e;split at e
   ·cases e;refine⟨(c1.more gn sn).add dg,by grind,?_⟩;rw[e1,gg];grind
   ·obtain⟨t1,t2,t3⟩:=ht y t e;exact⟨t1.more gn sn,t2,lG t3 le⟩
  ·have e:gY gs x (max ((gs x).getD 0) ((len:Rat) / (((aP nm x).getD 1:Int):Rat))) y=some g:=e;rw[hs]at e;have e:gY gs x (max ((gs x).getD 0) ((len:Rat) / (s:Rat))) y=some g:=e;unfold gY at e;split at e
   ·cases e;have h1:0<=(gs x).getD 0/\Sw.eY 70 ((gs x).getD 0):=by
     cases e:gs x with
     |none=>exact⟨ku,Sw.eY.int (n:=0) (z:=69) (Sw.Sz.jI (by decide) (by decide))⟩
     |some g=>exact hg x g e
    have h2:Sw.eY 70 ((len:Rat) / (s:Rat)):=Sw.eY.of sn rfl (Sw.Sz.jI (by omega) (by omega)) (Sw.Sz.jI (by omega) (by omega));rw[gI];split
    ·exact⟨d0,h2⟩
    ·exact h1
   ·exact hg y g e
 |rd=>trivial
theorem b5.wY{m:Int}{rd:List Str}{x:Str}(c:b5):(c.ie m rd x).sz=c.sz:=by cases c <;> rfl
theorem b5.Gz{x:Str}{len:Int}(c:b5):(c.qV x len).sz<=c.sz+2:=by
 cases c with
 |st=>exact aq _
 |rd nm q rs tu ch=>show nm.length<=nm.length+2;omega
theorem UN{p:Nat}{G:Int}{q:Rat}(h:p<=120)(g0:0<G)(gz:Sw.Sz (20*p+1) G)(hq:Sw.yx G q)(q0:0<=q)(q1:q<=(((p:Int)*1000000:Int):Rat)):Sw.eY 2490 q:=by
 have z:Sw.Sz 30 ((p:Int)*1000000):=by unfold Sw.Sz;omega
 refine(Sw.yx.sz hq g0 gz z ?_ q1 (by decide)).mono (by omega);have:=U0 p;grind
def k8(ns:List ND)(ys:List Str):List o9:=ys.filterMap fun y=>((bz ns y).bind (·.bk)).map (·.2)
def yC(D:TD)(x:Str)(u:Int):Prop:=∃n ys g r,bz D.ns x=some n/\n.qu=g::r/\Up D.ns x ys/\∀b∈k8 D.ns ys,(g.2:Rat)<=b.lv u
def fO(D:TD)(u:Int)(y:Str):Prop:=∃x ys,yC D x u/\Up D.ns x ys/\y∈ys
open Classical in
noncomputable def sA(c:b5)(R:Str->Prop):List Str:=(c.nm.map (·.1)).filter fun y=>decide (R y)
open Classical in
theorem uo{c:b5}{R:Str->Prop}{y:Str}:y∈sA c R↔y∈c.nm.map (·.1)/\R y:=by unfold sA;rw[dw,decide_eq_true_iff]
inductive IC(ns:List ND)(R:Str->Prop):List Str->Str->Prop
 |nil:IC ns R [] road
 |snoc {pre:List Str} {y z:Str} {n:ND} {c:lz×b5}:IC ns R pre y->bz ns y=some n->n.ch=some c->c.2.qW (sA c.2 R)=some z->IC ns R (y::pre) z
theorem Up.child{ns:List ND}{x:Str}{ys:List Str}(h:Up ns x ys):∀y∈ys,y=x\/∃z∈ys,z∈iD ns y:=by
 induction h with
 |top h e=>intro y hy;exact .inl (aC.mp hy)
 | @on x y0 n ys h e k ih=>
  intro y hy;rcases ao.mp hy with q|q
  ·exact .inl q
  ·right;rcases ih y q with z|⟨z,hz,hk⟩
   ·obtain⟨a,b⟩:=jK h;exact⟨x,aj ..,av.mpr ⟨n,dw.mpr ⟨a,decide_eq_true (by rw[e,z])⟩,b⟩⟩
   ·exact⟨z,ai _ hz,hk⟩
theorem UO{ns:List ND}(nn:(ns.map (·.nm)).Nodup){z y:Str}(h:z∈iD ns y):∃n,bz ns z=some n/\n.ab=some y:=by unfold iD at h;obtain⟨n,hn,e⟩:=av.mp h;obtain⟨h1,h2⟩:=dw.mp hn;exact⟨n,by rw[<-e];exact sN nn h1,of_decide_eq_true h2⟩
def TD.Lv(D:TD):Prop:=∀n∈D.ns,n.qu≠[]->n.ch=none
section
variable{D:TD}{u:Int}
theorem yC.leaf(L:D.Lv){x:Str}(h:yC D x u){n:ND}(hn:bz D.ns x=some n):n.ch=none/\n.qu≠[]:=by
 obtain⟨n',ys,g,r,h1,h2,_⟩:=h;rw[hn]at h1;cases h1
 exact⟨L n (jK hn).1 (by rw[h2];simp),by rw[h2];simp⟩
theorem fO.child(W:D.Wf)(L:D.Lv){y:Str}(h:fO D u y){n:ND}{c:lz×b5}(hn:bz D.ns y=some n)(hc:n.ch=some c):sA c.2 (fO D u)≠[]:=by
 obtain⟨x,ys,m,U,hy⟩:=h;rcases U.child y hy with e|⟨z,hz,hk⟩
 ·subst e;rw[(m.leaf L hn).1]at hc;cases hc
 ·have:z∈sA c.2 (fO D u):=uo.mpr ⟨by rw[W.Al n (jK hn).1 c hc,(jK hn).2];exact hk,x,ys,m,U,hz⟩;intro e;rw[e]at this;cases this
theorem fO.leaf(W:D.Wf){y:Str}(h:fO D u y){n:ND}(hn:bz D.ns y=some n)(hc:n.ch=none):yC D y u:=by
 obtain⟨x,ys,m,U,hy⟩:=h;rcases U.child y hy with e|⟨z,hz,hk⟩
 ·rw[e];exact m
 ·obtain⟨a,b⟩:=jK hn;rw[<-b,W.lf n a hc]at hk;cases hk
theorem yC.road(W:D.Wf){x:Str}(h:yC D x u):fO D u road:=by obtain⟨n,ys,g,r,h1,h2,U,h3⟩:=h;obtain⟨zs,e⟩:=U.last W.ra;exact⟨x,ys,⟨n,ys,g,r,h1,h2,U,h3⟩,U,by rw[e];simp⟩
end
noncomputable def b5.kL(m:Int)(R:Str->Prop)(c:b5):b5:=match c.qW (sA c R)with
 |some z=>c.ie m (sA c R) z
 |none=>c
noncomputable def b5.go(m:Int)(R:Str->Prop)(len:Int)(c:b5):b5:=match c.qW (sA c R)with
 |some z=>(c.ie m (sA c R) z).qV z len
 |none=>c
noncomputable def kh(m:Int)(R:Str->Prop)(S:List Str)(n:ND):ND:=if n.nm∈S then{n with ch:=n.ch.map fun c=>(c.1,c.2.kL m R)}else n
noncomputable def stN(m:Int)(R:Str->Prop)(S:List Str)(t len:Int)(n:ND):ND:=if n.nm∈S then{n with ch:=n.ch.map fun c=>(c.1,c.2.go m R len),bk:=n.bk.map fun b=>(b.1,b.2.Hz t len),ps:=n.ps.tail,qu:=n.qu.tail}else n
noncomputable def jn(m:Int)(R:Str->Prop)(S:List Str)(x:Str)(T:List Str)(t len:Int)(n:ND):ND:=if n.nm∈T then stN m R S t len n else if n.nm=x then{kh m R S n with ps:=n.ps.tail,qu:=n.qu.tail}else kh m R S n
section
variable{m:Int}{R:Str->Prop}{S T:List Str}{x:Str}{t len:Int}
theorem GZ(n:ND):(kh m R S n).nm=n.nm:=by unfold kh;split <;> rfl
theorem T6(n:ND):(kh m R S n).ab=n.ab:=by unfold kh;split <;> rfl
theorem U1(n:ND):(kh m R S n).bk=n.bk:=by unfold kh;split <;> rfl
theorem T7(n:ND):(kh m R S n).qu=n.qu/\(kh m R S n).ps=n.ps/\(kh m R S n).ql=n.ql/\(kh m R S n).rm=n.rm:=by unfold kh;split <;> exact⟨rfl,rfl,rfl,rfl⟩
theorem SJ(n:ND):kh m R [] n=n:=by unfold kh;rw[if_neg bf]
theorem zzo(n:ND):(stN m R S t len n).nm=n.nm:=by unfold stN;split <;> rfl
theorem zzp(n:ND):(stN m R S t len n).ab=n.ab:=by unfold stN;split <;> rfl
theorem MZ(n:ND):(stN m R S t len n).p=n.p/\(stN m R S t len n).ql=n.ql/\(stN m R S t len n).rm=n.rm:=by unfold stN;split <;> exact⟨rfl,rfl,rfl⟩
theorem NH(n:ND):(jn m R S x T t len n).nm=n.nm:=by
 unfold jn;split
 ·exact zzo n
 ·split
  ·exact GZ n
  ·exact GZ n
theorem Hr(c:b5):(c.go m R len).nm=c.nm:=by
 unfold b5.go;split
 ·rw[b5.Gu,b5.l9]
 ·rfl
theorem zyk(c:b5):(c.kL m R).nm=c.nm:=by
 unfold b5.kL;split
 ·rw[b5.l9]
 ·rfl
theorem Zy(n:ND):(stN m R S t len n).foot=n.foot:=by
 unfold stN;split
 ·unfold ND.foot;cases n.ch <;> cases n.bk <;> rfl
 ·rfl
theorem OS(n:ND):(jn m R S x T t len n).foot=n.foot:=by
 unfold jn;split
 ·exact Zy n
 ·unfold kh;split
  ·split
   ·unfold ND.foot;cases n.ch <;> rfl
   ·rfl
  ·split
   ·unfold ND.foot;cases n.ch <;> rfl
   ·rfl
end
theorem Ny{ns:List ND}(nd:(ns.map (·.nm)).Nodup){f g:ND->ND}{n n':ND}(hf:∀y,(f y).nm=y.nm)(hn:n∈ns)(e:n'.nm=n.nm)(h1:g n=n')(h2:∀y∈ns,y.nm≠n.nm->g y=f y):dF (ns.map f) n'=ns.map g:=by
 unfold dF;rw[bg];refine aO fun y hy=>?_;show(if(f y).nm=n'.nm then n' else f y)=g y;rw[hf,e];by_cases q:y.nm=n.nm
 ·rw[if_pos q];have a:=sN nd hy;rw[q,sN nd hn]at a;rw[<-ak a,h1]
 ·rw[if_neg q,h2 y hy q]
theorem Pf{ns:List ND}{f:ND->ND}(hf:∀y,(f y).nm=y.nm)(x:Str):bz (ns.map f) x=(bz ns x).map f:=by
 induction ns with
 |nil=>rfl
 |cons p r ih=>
  unfold bz at ih⊢;rw[au,bH,bH,hf];by_cases h:p.nm=x
  ·rw[decide_eq_true h];rfl
  ·rw[decide_eq_false h];exact ih
theorem zzq{ns:List ND}{f:ND->ND}(hf:∀y,(f y).nm=y.nm)(ha:∀y,(f y).ab=y.ab){x:Str}{ys:List Str}(h:Up ns x ys):Up (ns.map f) x ys:=h.mono fun z _ n hn=>⟨f n,by rw[Pf hf,hn];rfl,ha n⟩
theorem Zz{ns:List ND}{f:ND->ND}(hf:∀y,(f y).nm=y.nm)(ha:∀y,(f y).ab=y.ab)(x:Str):iD (ns.map f) x=iD ns x:=by
 unfold iD;rw[List.filter_map,bg];have:(fun n:ND=>decide (n.ab=some x))∘f=fun n=>decide (n.ab=some x):=by funext n;show decide ((f n).ab=some x)=_;rw[ha]
 rw[this];refine aO fun n _=>hf n
theorem TD.Wf.map{D:TD}(W:D.Wf){f:ND->ND}(hf:∀y,(f y).nm=y.nm)(ha:∀y,(f y).ab=y.ab)(hc:∀n∈D.ns,∀c',(f n).ch=some c'->∃c,n.ch=some c/\c'.2.nm=c.2.nm/\c'.2.Ok D.most)(hn:∀n∈D.ns,(f n).ch=none->n.ch=none):{D with ns:=D.ns.map f}.Wf:=by
 have en:(D.ns.map f).map (·.nm)=D.ns.map (·.nm):=by rw[bg];exact aO fun y _=>hf y
 refine⟨by show((D.ns.map f).map (·.nm)).Nodup;rw[en];exact W.nn,?_,fun y hy ea=>?_,fun y hy=>?_,fun y hy c Lr=>?_,fun y hy Lr=>?_,fun y hy c Lr=>?_,W.m1,fun y hy=>?_⟩
 ·obtain⟨r,rs,er,r1,r2,r3⟩:=W.rd;refine⟨f r,rs.map f,by show D.ns.map f=_;rw[er];rfl,by rw[hf];exact r1,by rw[ha];exact r2,fun z=>r3 (hn r (by rw[er];exact aj ..) z)⟩
 ·obtain⟨z,hz,rfl⟩:=av.mp hy;rw[hf];rw[ha]at ea;exact W.ra z hz ea
 ·obtain⟨z,hz,rfl⟩:=av.mp hy;obtain⟨ys,U,l⟩:=W.up z hz;exact⟨ys,by rw[hf];exact zzq hf ha U,l⟩
 ·obtain⟨z,hz,rfl⟩:=av.mp hy;obtain⟨c0,e0,e1,_⟩:=hc z hz c Lr;show c.2.nm.map (·.1)=iD (D.ns.map f) (f z).nm;rw[Zz hf ha,hf,e1];exact W.Al z hz c0 e0
 ·obtain⟨z,hz,rfl⟩:=av.mp hy;show iD (D.ns.map f) (f z).nm=[];rw[Zz hf ha,hf];exact W.lf z hz (hn z hz Lr)
 ·obtain⟨z,hz,rfl⟩:=av.mp hy;obtain⟨c0,e0,e1,e2⟩:=hc z hz c Lr;exact e2
 ·obtain⟨z,hz,rfl⟩:=av.mp hy;rw[hf];exact W.HJ z hz
def dh(ns:List ND):Nat:=(ns.map fun n=>n.qu.length).sum
structure TD.Dy(D:TD)(τ:Int)(v:Nat):Prop where
 W:D.Wf
 fin:∀n∈D.ns,∀c,n.ch=some c->c.2.jj D.gs.length/\c.2.sz<=3*v+2*D.gs.length
 bk:∀n∈D.ns,∀b,n.bk=some b->kQ D.most b.2/\b.2.s<=τ
 lv:D.Lv
 qu:∀n∈D.ns,∀g∈n.qu,1<=g.2/\g.2<=D.most
 CA:dh D.ns+D.gs.length<=120
 ln:D.ns.length<=60
 vl:v<=180
theorem TD.Dy.fit{D:TD}{τ:Int}{v:Nat}(h:D.Dy τ v):D.fit:=⟨h.ln,fun n hn c hc=>by have:=(h.fin n hn c hc).2;have:=h.CA;have:=h.vl;omega⟩
theorem zwu{ns:List ND}{n:ND}(h:n∈ns):n.qu.length<=dh ns:=by
 induction ns with
 |nil=>cases h
 |cons p r ih=>
  unfold dh at ih⊢;rw[au,dU];rcases ao.mp h with q|q
  ·rw[q];omega
  ·have:=ih q;omega
noncomputable def TD.step(D:TD)(R:Str->Prop)(S:List Str)(x:Str)(t:Int)(g:D2)(p:Addr):TD:={D with ns:=D.ns.map (stN D.most R S t g.2),fr:=t+g.2,gp:=D.gp++[p],gs:=D.gs++[(t,g.1,x)]}
structure yR(D:TD)(t:Int)(x:Str)(pre:List Str)(g:D2):Prop where
 led:IC D.ns (fO D t) pre x
 may:yC D x t
 up:Up D.ns x (x::pre)
 q:∃n r,bz D.ns x=some n/\n.ch=none/\n.qu=g::r/\∀b∈k8 D.ns (x::pre),(g.2:Rat)<=b.lv t
def gm(ns:List ND):List Str:=(ns.filter fun n=>decide (n.ps≠[])).map (·.nm)
theorem YW{ns:List ND}(nn:(ns.map (·.nm)).Nodup){x:Str}:x∈gm ns↔∃n,bz ns x=some n/\n.ps≠[]:=by
 unfold gm;rw[av];constructor
 ·rintro⟨n,hn,e⟩;obtain⟨h1,h2⟩:=dw.mp hn;exact⟨n,by rw[<-e];exact sN nn h1,of_decide_eq_true h2⟩
 ·rintro⟨n,hn,h⟩;exact⟨n,dw.mpr ⟨(jK hn).1,decide_eq_true h⟩,(jK hn).2⟩
def A3(ks:List Str):List (Key×V):=ks.map fun y=>((az y:Key),V.bl true)
def yZ(ks:List Str)(y:Str):List Str:=if y∈ks then ks else ks++[y]
theorem zyl{ks:List Str}{y z:Str}:z∈yZ ks y↔z∈ks\/z=y:=by
 unfold yZ;split
 ·rename_i h
  constructor
  ·exact .inl
  ·rintro(q|q)
   ·exact q
   ·rw[q];exact h
 ·rw[ay,aC]
theorem zym(ks:List Str)(y:Str):(yZ ks y).length<=ks.length+1:=by
 unfold yZ;split
 ·omega
 ·rw[bF];exact aq _
theorem SK(ks:List Str)(y:Str):gu (A3 ks) (az y:Key) (.bl true)=A3 (yZ ks y):=by
 unfold gu yZ;have e:((A3 ks).any fun kv=>decide (kv.1=(az y:Key)))=decide (y∈ks):=by
  unfold A3;rw[Bh,fk,G4,decide_eq_true_iff];constructor
  ·rintro⟨z,hz,q⟩;have q:(az z:Key)=az y:=of_decide_eq_true q;rw[<-fF q];exact hz
  ·intro h;exact⟨y,h,decide_eq_true rfl⟩
 rw[e];by_cases h:y∈ks
 ·rw[if_pos h,if_pos (decide_eq_true h)];unfold A3;rw[bg];refine aO fun z _=>?_;show(if(az z:Key)=az y then((az z:Key),V.bl true)else(az z,V.bl true))=_;split <;> rfl
 ·rw[if_neg h,if_neg (by simp[h])];unfold A3;rw[aA];rfl
theorem SM(ks:List Str)(y:Str):(gv (A3 ks) (az y:Key)).isSome=decide (y∈ks):=by
 induction ks with
 |nil=>rfl
 |cons z r ih=>
  unfold A3 at ih⊢;rw[au];by_cases h:z=y
  ·subst h;rw[Co rfl];simp
  ·rw[Am (fun q=>h (fF q)),ih];simp[d8 h]
structure Nx(D:TD)(a:Int):Prop where
 may:∃x,yC D x a
 ge:D.tm<=a/\D.fr<=a
 le:∀x u,D.tm<=u->D.fr<=u->yC D x u->a<=u
def DQ(D:TD)(t:Int):Prop:=∀x u,D.tm<=u->D.fr<=u->yC D x u->t<=u
inductive Runs(t:Int):TD->TD->Prop
 |stop {D:TD}:DQ D t->Runs t D D
 |go {D D':TD} {a:Int} {x:Str} {pre:List Str} {g:D2} {p:Addr}:Nx D a->a<t->yR D a x pre g->Runs t (D.step (fO D a) (x::pre) x a g p) D'->Runs t D D'
end L2
def L2.yV(D:L2.TD):Prop:=∀n∈D.ns,n.bk=none
namespace L2
open PySem PySem.Spec PyProof.Rows
def La(ns:List ND)(ys:List Str):List V:=ys.map fun y=>NV ((bz ns y).bind (·.bk))
theorem zwv{D:TD}(h:yV D)(ys:List Str):k8 D.ns ys=[]:=by
 unfold k8;rw[List.filterMap_eq_nil_iff];intro y _;cases e:bz D.ns y with
 |none=>rfl
 |some n=>show jH _ n.bk=none;rw[h n (jK e).1];rfl
theorem SN{D:TD}(h:yV D)(ys:List Str):La D.ns ys=ys.map fun _=>V.b7:=by
 unfold La;refine aO fun y _=>?_;cases e:bz D.ns y with
 |none=>rfl
 |some n=>show NV n.bk= .b7;rw[h n (jK e).1];rfl
theorem FM.nil(t len:Int):FM [] t len t:=⟨gi _,fun b hb=>absurd hb bf,fun _ h _=>h⟩
theorem SO{ns:List ND}{ys:List Str}{b:o9}(h:b∈k8 ns ys):∃y∈ys,∃n a,bz ns y=some n/\n.bk=some (a,b):=by
 unfold k8 at h;obtain⟨y,hy,e⟩:=eU.mp h;cases hn:bz ns y with
 |none=>rw[hn]at e;cases e
 |some n=>
  rw[hn]at e;cases hb:n.bk with
  |none=>rw[show(some n).bind (fun z:ND=>z.bk)=n.bk from rfl,hb]at e;cases e
  |some c=>
   rw[show(some n).bind (fun z:ND=>z.bk)=n.bk from rfl,hb]at e;exact⟨y,hy,n,c.1,hn,by rw[hb,<-ak e]⟩
theorem Z6{ns:List ND}{ys:List Str}{y:Str}{n:ND}{c:Addr×o9}(hy:y∈ys)(hn:bz ns y=some n)(hb:n.bk=some c):c.2∈k8 ns ys:=by unfold k8;refine eU.mpr ⟨y,hy,?_⟩;rw[hn];show jH _ n.bk=_;rw[hb];rfl
theorem UP{D:TD}{x:Str}{n:ND}{g:D2}{r:List D2}{ys:List Str}(hx:bz D.ns x=some n)(hq:n.qu=g::r)(U:Up D.ns x ys)(t:Int):yC D x t↔∀b∈k8 D.ns ys,(g.2:Rat)<=b.lv t:=by
 constructor
 ·rintro⟨n',Nj,g',r',h1,h2,h3,h4⟩;rw[hx]at h1;cases h1
  rw[hq]at h2;cases h2
  rw[U.det h3];exact h4
 ·intro h;exact⟨n,ys,g,r,hx,hq,U,h⟩
theorem TD.Dy.leaf{D:TD}{τ:Int}{v:Nat}(h:D.Dy τ v){C:Cl}{H:Hp}(O:bQ C H D){x:Str}(hx:x∈gm D.ns):∃n g r ys,bz D.ns x=some n/\n.qu=g::r/\Up D.ns x ys/\ys.length<=6/\(1<=g.2/\g.2<=D.most/\D.most<=1000000)/\∀b∈k8 D.ns ys,kQ D.most b/\b.s<=τ:=by
 obtain⟨n,hn,np⟩:=(YW h.W.nn).mp hx;obtain⟨gf,ne⟩:=jK hn;have ln:=(O.nd n gf).qu.r.len;cases hq:n.qu with
 |nil=>
  rw[hq]at ln;exact absurd (j8 ln) np
 |cons g r=>
  obtain⟨ys,U,yl⟩:=h.W.up n gf;rw[ne]at U;have gb:=h.qu n gf g (by rw[hq];exact aj ..);refine⟨n,g,r,ys,hn,hq,U,yl,⟨gb.1,gb.2,h.W.m1.2⟩,fun b hb=>?_⟩;obtain⟨y,_,m,a,hm,hmb⟩:=SO hb;exact h.bk m (jK hm).1 _ hmb
theorem TD.Dy.full{D:TD}{τ:Int}{v:Nat}(h:D.Dy τ v){C:Cl}{H:Hp}(O:bQ C H D){x:Str}{t:Int}(m:yC D x t):x∈gm D.ns:=by obtain⟨n,ys,g,r,h1,h2,_⟩:=m;refine(YW h.W.nn).mpr ⟨n,h1,fun z=>?_⟩;have ln:=(O.nd n (jK h1).1).qu.r.len;rw[z,h2]at ln;cases ln
def FL(D:TD)(t:Int)(x:Str)(a:Int):Prop:=∃n g r ys,bz D.ns x=some n/\n.qu=g::r/\Up D.ns x ys/\FM (k8 D.ns ys) t g.2 a/\a<=t+1000000000000
theorem FL.may{D:TD}{t a:Int}{x:Str}(h:FL D t x a):yC D x a/\t<=a/\∀u,t<=u->yC D x u->a<=u:=by obtain⟨n,g,r,ys,h1,h2,h3,h4,_⟩:=h;exact⟨(UP h1 h2 h3 a).mpr h4.ok,h4.ge,fun u tu m=>h4.le u tu ((UP h1 h2 h3 u).mp m)⟩
theorem Yo{α β:Type}{R:α->β->Prop}:∀{l:List α}{k:List β},Paired R l k->∀b∈k,∃a∈l,R a b
 |_,_,.nil,b,hb=>absurd hb bf
 |_,_,.cons h t,b,hb=>by
  rcases ao.mp hb with q|q
  ·exact⟨_,aj ..,q▸h⟩
  ·obtain⟨a,ha,r⟩:=Yo t b q;exact⟨a,ai _ ha,r⟩
theorem X0{α β:Type}{R:α->β->Prop}:∀{l:List α}{k:List β},Paired R l k->∀a∈l,∃b∈k,R a b
 |_,_,.nil,b,hb=>absurd hb bf
 |_,_,.cons h t,b,hb=>by
  rcases ao.mp hb with q|q
  ·exact⟨_,aj ..,q▸h⟩
  ·obtain⟨a,ha,r⟩:=X0 t b q;exact⟨a,ai _ ha,r⟩
theorem zwx{ns:List ND}(nd:(ns.map (·.nm)).Nodup){n:ND}(hn:n∈ns):dF ns n=ns:=by
 have:=Ny (ns:=ns) nd (f:=id) (g:=id) (n:=n) (n':=n) (fun _=>rfl) hn rfl rfl (fun _ _ _=>rfl)
 rwa [j9]at this
def b5.yF:b5->Str
 | .st _ _ _ _ (.str x) _=>x
 | .rd _ _ _ _ (.str x)=>x
 |_=>road
def b5.DL:b5->Prop
 | .st nm tg gs ck ch N=>∃x s g,ch= .str x/\aP nm x=some s/\(1<=s/\s<=1000000)/\tg x≠none/\gs x=some g/\Sw.eY 70 g/\Sw.eY 2490 ck/\N<890
 | .rd _ _ rs _ ch=>∃x r,ch= .str x/\aP rs x=some r/\rs.length<90
noncomputable def ND.chg(t len:Int)(n:ND):ND:={n with ch:=n.ch.map fun c=>(c.1,c.2.qV c.2.yF len),bk:=n.bk.map fun b=>(b.1,b.2.Hz t len)}
theorem b5.Due.yF{x:Str}{c:b5}(h:c.Due x):c.yF=x:=by
 cases c with
 |st nm tg gs ck ch N=>
  have h:ch= .str x:=h;rw[h];rfl
 |rd nm q rs tu ch=>
  have h:ch= .str x:=h.1;rw[h];rfl
theorem b5.Mi{m:Int}{p:Nat}{x:Str}{c:b5}(h:c.Ok m)(f:c.jj p)(p1:p<=120)(d:c.Due x)(hx:aP c.nm x≠none)(sz:c.sz<890)(nl:c.nm.length<90):c.DL:=by
 cases c with
 |st nm tg gs ck ch N=>
  obtain⟨G,g0,gz,⟨c1,c2,c3⟩,ht,hg⟩:=f;have hx:aP nm x≠none:=hx;cases e:aP nm x with
  |none=>exact absurd e hx
  |some s=>
   obtain⟨t,g,e1,e2⟩:=h.2 x hx;exact⟨x,s,g,d,e,h.1.sh x s e,by rw[e1];simp,e2,(hg x g e2).2,UN p1 g0 gz c1 c2 c3,sz⟩
 |rd nm q rs tu ch=>
  obtain⟨d1,d2,r,hr,_⟩:=d;refine⟨x,r,d1,hr,?_⟩;have:=Pq h.2;have nl:nm.length<90:=nl;omega
section
variable{C:Cl}{H H':Hp}{D:TD}
theorem bQ.gone(h:bQ C H D){p:Addr}{g:D3}(hp:H p=some (.tup (NW g))):bQ C (aH H D.pg (.lst ((D.gp++[p]).map V.ref))) {D with gp:=D.gp++[p],gs:=D.gs++[g]}:=by
 have fd:=h.fd;unfold TD.foot at fd;simp only[aY,ao,not_or]at fd;have kp:∀b o,b≠D.pg->H b=some o->aH H D.pg (.lst ((D.gp++[p]).map V.ref)) b=some o:=fun b o q e=>by rw[dj q];exact e
 have tp:∀{b xs},H b=some (.tup xs)->b≠D.pg:=fun{b xs} e z=>by rw[z,h.go]at e;cases e
 obtain⟨dx,fs,h1,h2⟩:=h.ex;refine⟨⟨dx,fs,kp _ _ fd.1.2.1 h1,h2⟩,kp _ _ fd.2.1.1 h.hn,fun x hx=>(h.nd x hx).keep fun b o hb e=>kp b o ?_ e,bR,OP (F:=fun a b=>aH H D.pg (.lst ((D.gp++[p]).map V.ref)) a=some (.tup (NW b))) (kp _ _ (tp hp) hp) (KD (fun a b z=>kp _ _ (tp z) z) h.gr),h.fd⟩;rcases hb with q|⟨xs,q⟩
 ·exact(h.apart hx q).2.2
 ·exact tp q
end
theorem ZA{D:TD}{f:ND->ND}(hf:∀n,(f n).foot=n.foot):TD.foot {D with ns:=D.ns.map f}=D.foot:=by unfold TD.foot;show D.p::D.pn::D.pg::(D.ns.map f).flatMap ND.foot=_;rw[List.flatMap_map,show(fun a=>ND.foot (f a))=ND.foot from funext hf]
theorem Up.suffix{ns:List ND}{x:Str}{ys:List Str}(h:Up ns x ys):∀{as:List Str}{y:Str}{bs:List Str},ys=as++y::bs->Up ns y (y::bs):=by
 induction h with
 | @top x n h e=>
  intro as y bs q;cases as with
  |nil=>cases q;exact .top h e
  |cons a r=>
   have:=congrArg gG q;simp at this
 | @on x y0 n ys h e k ih=>
  intro as y bs q;cases as with
  |nil=>cases q;exact .on h e k
  |cons a r=>
   rw[gw]at q;exact ih (List.cons.inj q).2
theorem Up.nodup{ns:List ND}{x:Str}{ys:List Str}(h:Up ns x ys):ys.Nodup:=by
 induction h with
 |top h e=>simp
 | @on x y0 n ys h e k ih=>
  rw[aY];refine⟨fun z=>?_,ih⟩;obtain⟨as,bs,q⟩:=i8 z;have u1:=k.suffix q;have u2:Up ns x (x::ys):=.on h e k;have:=congrArg gG (u1.det u2);rw[q]at this;simp at this;omega
theorem IC.LN{ns:List ND}{R:Str->Prop}{pre:List Str}{x:Str}(h:IC ns R pre x):∀y∈pre,∃n c z,bz ns y=some n/\n.ch=some c/\c.2.qW (sA c.2 R)=some z:=by
 induction h with
 |nil=>intro y hy;cases hy
 | @snoc pre y z n c _ h1 h2 h3 ih=>
  intro y' hy;rcases ao.mp hy with q|q
  ·rw[q];exact⟨n,c,z,h1,h2,h3⟩
  ·exact ih y' q
theorem YX{rd:List Str}{z:Str}:∀{c:b5},c.qW rd=some z->z∈rd
 | .st nm tg gs ck ch N,h=>by
  have h:g8 (fun x=>decide (x∈rd)) (fun x=>max ((tg x).getD 0) ck) (nm.map (·.1)) none=some z:=h;rcases Nq h with⟨_,q⟩ |q
  ·exact of_decide_eq_true q
  ·cases q
 | .rd nm q rs tu ch,h=>by
  have h:qX q rs tu rd=some z:=h;unfold qX at h;by_cases c:qI rs rd tu=true
  ·rw[if_pos c]at h;subst h;rw[KE,fM,decide_eq_true_eq]at c;exact c.1
  ·rw[if_neg c]at h;exact of_decide_eq_true (oz (p:=fun x=>decide (x∈rd)) h)
section
variable{D:TD}{R:Str->Prop}{t len:Int}{x:Str}
theorem OZ{τ:Int}{v:Nat}(Y:D.Dy τ v){n:ND}(gf:n∈D.ns){c:lz×b5}(hc:n.ch=some c){z:Str}(hz:c.2.qW (sA c.2 R)=some z):(c.2.kL D.most R)=c.2.ie D.most (sA c.2 R) z/\(c.2.kL D.most R).Ok D.most/\(c.2.kL D.most R).Due z/\(c.2.kL D.most R).DL/\aP c.2.nm z≠none/\((c.2.kL D.most R).qV z len=c.2.go D.most R len):=by
 have e:c.2.kL D.most R=c.2.ie D.most (sA c.2 R) z:=by unfold b5.kL;rw[hz]
 have ne:sA c.2 R≠[]:=fun q=>by have:=YX hz;rw[q]at this;cases this
 have k9:=Y.W.k9 n gf c hc;have sub:∀y∈sA c.2 R,aP c.2.nm y≠none:=fun y hy=>Sw.jt.mpr (uo.mp hy).1;obtain⟨z',e1,e2,e3,e4⟩:=b5.CV k9 ne sub;rw[hz]at e1;cases e1
 have hs:=sub z e2;obtain⟨f1,f2⟩:=Y.fin n gf c hc;have:=Y.CA;have:=Y.vl;have kl:=Y.W.lj gf hc;have:=Y.ln;rw[e];refine⟨rfl,e3,e4,b5.Mi e3 (f1.ie D.most _ z) (by omega) e4 (by rw[b5.l9];exact hs) (by rw[b5.wY];omega) (by rw[b5.l9];omega),hs,?_⟩;unfold b5.go;rw[hz]
theorem Lv.ps{C:Cl}{H:Hp}(O:bQ C H D)(L:D.Lv){n:ND}(gf:n∈D.ns)(hc:n.ch≠none):n.qu=[]/\n.ps=[]:=by have q:n.qu=[]:=Classical.byContradiction fun z=>hc (L n gf z);refine⟨q,?_⟩;have ln:=(O.nd n gf).qu.r.len;rw[q]at ln;exact j8 ln
end
theorem SQ{D:TD}{t:Int}{x:Str}{pre:List Str}{g:D2}{v:Nat}(Y:D.Dy t v)(G:yR D t x pre g)(LC:∀n∈D.ns,n.ch≠none->n.qu=[]/\n.ps=[]){T:List Str}{n:ND}(gf:n∈D.ns)(hn:n.nm∈x::pre)(hT:n.nm∉T):(jn D.most (fO D t) (x::pre) x T t g.2 n).chg t g.2=stN D.most (fO D t) (x::pre) t g.2 n:=by
 obtain⟨nx,r,hx,Lq,Ge,_⟩:=G.q;unfold jn;rw[if_neg hT];by_cases e:n.nm=x
 ·have:n=nx:=by have:=sN Y.W.nn gf;rw[e,hx]at this;exact(ak this).symm
  subst this;rw[if_pos e];unfold kh stN ND.chg;rw[if_pos hn,if_pos hn,Lq];rfl
 ·rw[if_neg e];have hp:n.nm∈pre:=(ao.mp hn).resolve_left e;obtain⟨n',c,z,h1,h2,h3⟩:=G.led.LN n.nm hp;rw[sN Y.W.nn gf]at h1;cases h1
  obtain⟨q1,q2⟩:=LC n gf (by rw[h2];simp);obtain⟨p1,p2,p3,p4,p5,p6⟩:=OZ (R:=fO D t) (len:=g.2) Y gf h2 h3;unfold kh stN ND.chg;rw[if_pos hn,if_pos hn,h2];show({n with ch:=some (c.1,(c.2.kL D.most (fO D t)).qV (c.2.kL D.most (fO D t)).yF g.2),bk:=n.bk.map fun b=>(b.1,b.2.Hz t g.2)}:ND)={n with ch:=some (c.1,c.2.go D.most (fO D t) g.2),bk:=n.bk.map fun b=>(b.1,b.2.Hz t g.2),ps:=n.ps.tail,qu:=n.qu.tail};rw[p3.yF,p6,q1,q2];obtain⟨a1,a2,a3,a4,a5,a6,a7,a8,a9⟩:=n;cases q1
  cases q2;rfl
theorem OT{f:ND->ND}:∀{ns:List ND},(∀n∈ns,(f n).qu.length<=n.qu.length)->dh (ns.map f)<=dh ns
 |[],_=>aq _
 |p::r,h=>by have:=OT (f:=f) (ns:=r) fun n hn=>h n (ai _ hn);have h0:=h p (aj ..);unfold dh at this⊢;rw[au,au,au,dU,dU];omega
theorem ZB{f:ND->ND}:∀{ns:List ND},(∀n∈ns,(f n).qu.length<=n.qu.length)->(∃n∈ns,(f n).qu.length<n.qu.length)->dh (ns.map f)+1<=dh ns
 |[],_,⟨n,hn,_⟩=>absurd hn bf
 |p::r,h,⟨n,hn,l⟩=>by
  have h0:=h p (aj ..);have h1:∀n∈r,(f n).qu.length<=n.qu.length:=fun n hn=>h n (ai _ hn);rcases ao.mp hn with q|q
  ·subst q;have:=OT h1;unfold dh at this⊢;rw[au,au,au,dU,dU];omega
  ·have:=ZB h1 ⟨n,q,l⟩;unfold dh at this⊢;rw[au,au,au,dU,dU];omega
theorem yR.dy{D:TD}{t τ:Int}{v:Nat}{x:Str}{pre:List Str}{g:D2}(Y:D.Dy τ v)(G:yR D t x pre g)(τt:τ<=t)(p:Addr):(D.step (fO D t) (x::pre) x t g p).Dy t v/\dh (D.step (fO D t) (x::pre) x t g p).ns+1<=dh D.ns:=by
 obtain⟨nx,r,hx,Lq,Ge,Qq⟩:=G.q;obtain⟨KA,xe⟩:=jK hx;have gb:=Y.qu nx KA g (by rw[Ge];exact aj ..);have m6:=Y.W.m1.2;have P4:∀n∈D.ns,∀c',(stN D.most (fO D t) (x::pre) t g.2 n).ch=some c'->∃c,n.ch=some c/\c'.2.nm=c.2.nm/\c'.2.Ok D.most/\c'.2.jj (D.gs.length+1)/\c'.2.sz<=3*v+2*(D.gs.length+1):=fun n gf c' DZ=>by
  have Kv:∀c,n.ch=some c->c'=c->∃c,n.ch=some c/\c'.2.nm=c.2.nm/\c'.2.Ok D.most/\c'.2.jj (D.gs.length+1)/\c'.2.sz<=3*v+2*(D.gs.length+1):=fun c hc e=>by subst e;obtain⟨f1,f2⟩:=Y.fin n gf _ hc;exact⟨_,hc,rfl,Y.W.k9 n gf _ hc,f1.mono (by omega),by omega⟩
  unfold stN at DZ;by_cases q:n.nm∈x::pre
  ·rw[if_pos q]at DZ;cases hc:n.ch with
   |none=>rw[hc]at DZ;cases DZ
   |some c=>
    rw[hc]at DZ;obtain rfl:(c.1,c.2.go D.most (fO D t) g.2)=c':=ak DZ;cases hz:c.2.qW (sA c.2 (fO D t))with
    |none=>
     have e:c.2.go D.most (fO D t) g.2=c.2:=by unfold b5.go;rw[hz]
     rw[hc]at Kv;exact Kv c rfl (by rw[e])
    |some z=>
     obtain⟨p1,p2,p3,p4,p5,p6⟩:=OZ (R:=fO D t) (len:=g.2) Y gf hc hz;obtain⟨f1,f2⟩:=Y.fin n gf c hc;have en:(c.2.kL D.most (fO D t)).nm=c.2.nm:=zyk _;refine⟨c,rfl,Hr _,?_,?_,?_⟩
     ·show(c.2.go D.most (fO D t) g.2).Ok D.most;rw[<-p6];exact p2.qV p3 (by rw[en];exact p5) gb.1 gb.2
     ·show(c.2.go D.most (fO D t) g.2).jj _;rw[<-p6,p1];cases hs:aP c.2.nm z with
      |none=>exact absurd hs p5
      |some s=>exact(f1.ie D.most _ z).qV (s:=s) (by rw[b5.l9];exact hs) ((Y.W.k9 n gf c hc).F6.sh z s hs) (by omega) (by omega)
     ·show(c.2.go D.most (fO D t) g.2).sz<=_;rw[<-p6,p1];have:=b5.Gz (x:=z) (len:=g.2) (c.2.ie D.most (sA c.2 (fO D t)) z);rw[b5.wY]at this;omega
  ·rw[if_neg q]at DZ;exact Kv c' DZ rfl
 have chn:∀n∈D.ns,(stN D.most (fO D t) (x::pre) t g.2 n).ch=none->n.ch=none:=fun n _ h=>by
  unfold stN at h;split at h
  ·cases hc:n.ch with
   |none=>rfl
   |some c=>rw[hc]at h;cases h
  ·exact h
 have W':=Y.W.map (f:=stN D.most (fO D t) (x::pre) t g.2) zzo zzp (fun n gf c' h=>by obtain⟨c,a,b,d,_⟩:=P4 n gf c' h;exact⟨c,a,b,d⟩) chn;have ql:∀n,(stN D.most (fO D t) (x::pre) t g.2 n).qu=n.qu\/(stN D.most (fO D t) (x::pre) t g.2 n).qu=n.qu.tail:=fun n=>by
  unfold stN;split
  ·exact .inr rfl
  ·exact .inl rfl
 have wl:dh (D.step (fO D t) (x::pre) x t g p).ns+1<=dh D.ns:=by
  refine ZB (fun n _=>?_) ⟨nx,KA,?_⟩
  ·rcases ql n with q|q
   ·rw[q];exact aq _
   ·rw[q,jR];omega
  ·unfold stN;rw[if_pos (by rw[xe];exact aj ..)];show nx.qu.tail.length < _;rw[Ge];simp
 have gl:(D.step (fO D t) (x::pre) x t g p).gs.length=D.gs.length+1:=by show(D.gs++[_]).length=_;rw[bF];rfl
 refine⟨⟨⟨W'.nn,W'.rd,W'.ra,W'.up,W'.Al,W'.lf,W'.k9,W'.m1,W'.HJ⟩,fun n hn c hc=>?_,fun n hn b hb=>?_,fun n hn hq=>?_,fun n hn g' hg=>?_,?_,?_,Y.vl⟩,wl⟩
 ·obtain⟨m,hm,rfl⟩:=av.mp hn;obtain⟨c0,a,b,d,e1,e2⟩:=P4 m hm c hc;rw[gl];exact⟨e1,e2⟩
 ·obtain⟨m,hm,rfl⟩:=av.mp hn;show kQ D.most b.2/\b.2.s<=t;unfold stN at hb;by_cases q:m.nm∈x::pre
  ·rw[if_pos q]at hb;cases N6:m.bk with
   |none=>rw[N6]at hb;cases hb
   |some c=>
    rw[N6]at hb;obtain rfl:(c.1,c.2.Hz t g.2)=b:=ak hb;obtain⟨b1,b2⟩:=Y.bk m hm c N6;exact⟨b1.Hz (by omega) (by omega) (Qq c.2 (Z6 q (sN Y.W.nn hm) N6)),gi _⟩
  ·rw[if_neg q]at hb;obtain⟨b1,b2⟩:=Y.bk m hm b hb;exact⟨b1,by omega⟩
 ·obtain⟨m,hm,rfl⟩:=av.mp hn;have:m.ch=none:=Y.lv m hm fun z=>by
   rcases ql m with q|q
   ·rw[q,z]at hq;exact hq rfl
   ·rw[q,z]at hq;exact hq rfl
  cases e:(stN D.most (fO D t) (x::pre) t g.2 m).ch with
  |none=>rfl
  |some c=>
   obtain⟨c0,a,_⟩:=P4 m hm c e;rw[this]at a;cases a
 ·obtain⟨m,hm,rfl⟩:=av.mp hn;refine Y.qu m hm g' ?_;rcases ql m with q|q
  ·rw[q]at hg;exact hg
  ·rw[q]at hg;exact List.mem_of_mem_tail hg
 ·rw[gl];have:=Y.CA;omega
 ·show(D.ns.map _).length<=60;rw[ae];exact Y.ln
noncomputable def TD.mid(D:TD)(t:Int)(x:Str)(pre T:List Str)(len:Int):TD:={D with ns:=D.ns.map (jn D.most (fO D t) (x::pre) x T t len)}
end L2
namespace L2
theorem SR{D:TD}(h:yV D)(t:Int)(x:uA)(pre T:List uA)(len:Int):yV (D.mid t x pre T len):=fun n hn=>by
 obtain⟨m,hm,rfl⟩:=av.mp hn;have hb:=h m hm;unfold jn;split
 ·unfold stN;split
  ·show jH _ m.bk=none;rw[hb];rfl
  ·exact hb
 ·split
  ·exact(U1 m).trans hb
  ·exact(U1 m).trans hb
theorem UD{D:TD}(h:yV D)(R:uA->Prop)(S:List uA)(x:uA)(t:Int)(g:D2)(p:PySem.Addr):yV (D.step R S x t g p):=fun n hn=>by
 obtain⟨m,hm,rfl⟩:=av.mp hn;have hb:=h m hm;unfold stN;split
 ·show jH _ m.bk=none;rw[hb];rfl
 ·exact hb
end L2
namespace L2
open PySem PySem.Spec PyProof.Rows
noncomputable def TD.ask(D:TD)(t:Int)(pre:List Str):TD:={D with ns:=D.ns.map (kh D.most (fO D t) pre)}
theorem zyn{D:TD}{t:Int}{pre:List Str}{x:Str}{n:ND}(nn:(D.ns.map (·.nm)).Nodup)(hx:bz D.ns x=some n)(hc:n.ch=none):D.ns.map (kh D.most (fO D t) pre)=D.ns.map (kh D.most (fO D t) (x::pre)):=by
 refine aO fun y hy=>?_;by_cases e:y.nm=x
 ·have:y=n:=by have:=sN nn hy;rw[e,hx]at this;exact(ak this).symm
  subst this;have same:∀S,kh D.most (fO D t) S y=y:=fun S=>by
   unfold kh;split
   ·obtain⟨a1,a2,a3,a4,a5,a6,a7,a8,a9⟩:=y;cases hc
    rfl
   ·rfl
  rw[same,same]
 ·unfold kh;have:y.nm∈x::pre↔y.nm∈pre:=by rw[ao];exact⟨fun z=>z.resolve_left e,.inr⟩
  by_cases c:y.nm∈pre
  ·rw[if_pos c,if_pos (this.mpr c)]
  ·rw[if_neg c,if_neg (fun z=>c (this.mp z))]
open Classical in
theorem zuj{c:b5}{R:Str->Prop}{ks:List Str}(h:∀y,y∈ks↔R y):sA c R=(c.nm.map (·.1)).filter fun y=>decide (y∈ks):=by unfold sA;refine List.filter_congr fun y _=>?_;rw[decide_eq_decide];exact(h y).symm
theorem TD.Dy.mono{D:TD}{τ τ':Int}{v:Nat}(h:D.Dy τ v)(l:τ<=τ'):D.Dy τ' v:=⟨h.W,h.fin,fun n hn b hb=>⟨(h.bk n hn b hb).1,by have:=(h.bk n hn b hb).2;omega⟩,h.lv,h.qu,h.CA,h.ln,h.vl⟩
theorem C9{D:TD}{R:Str->Prop}{S:List Str}{x:Str}{t:Int}{g:D2}{p:Addr}:(D.step R S x t g p).foot=D.foot:=by have:=ZA (D:=D) (f:=stN D.most R S t g.2) fun y=>Zy y;exact this
theorem Nx.rest{D:TD}{a t:Int}(h:Nx D a)(l:t<=a):DQ D t:=fun x u h1 h2 m=>by have:=h.le x u h1 h2 m;omega
theorem Runs.keep{t:Int}{I:TD->Prop}{D D':TD}(h:Runs t D D')(hI:I D)(st:∀D a x pre g p,I D->Nx D a->a<t->yR D a x pre g->I (D.step (fO D a) (x::pre) x a g p)):I D':=by
 induction h with
 |stop _=>exact hI
 |go h1 h2 h3 _ ih=>exact ih (st _ _ _ _ _ _ hI h1 h2 h3)
section
variable{X:Cx}
end
def U3(tl:TE):TI:=fun σ H R=>tl σ H fun x H1=>∃a o kvs,x= .ref a/\H1 a=some (.jm o (.dK kvs))/\R (FJ a o kvs) H1
section
variable{X:Cx}
theorem ZC{o:Expr}{gC gO:Pos}{tg:Expr}{tl:TE}(hl:PE X o tl)(nI:attributeBase o "values" X.env (eval o X.env)=eval o X.env:=by rfl)(nJ:(gC.endLine ==gO.line)=true:=by rfl):
    PI X tg (.Call (.Attribute o "values" gC) [] [] gO) (U3 tl):=by
  intro ah s σ H R I h;refine wpAny_Call_method0_late nI nJ (eJ (hl ah s σ H _ I h) fun v s1⟨x,H1,I1,r1,a,o0,kvs,ex,ha,kE⟩=>?_);subst ex;obtain rfl:v=Value.ref a:=r1;obtain⟨t1,t2,_⟩:=Pp I1 (.inl ⟨kvs,.inr ⟨o0,ha⟩⟩);obtain⟨g0,z,hd,vs,jJ,o',es,ep,ho,hx⟩:=I1.eB a _ ha;have eo:o'=o0:=by rw[g0]at ho;exact(ak ho).symm
  subst eo;refine⟨"dict","dict.values",iO,iB,xM,t1,t2,Calls.callWith_builtin rfl (iC ?_)⟩;refine call_meetsIn iB t1 wE (vN _) (meets_dict_values (mw X.prog X.w) a hd) ⟨⟨vs,o',es,ep,ho,hx⟩,?_⟩;have Iv:Inv X ah σ H1 {s1 with heap:=s1.heap.push {cls:=.type "dict_values",data:=.fields #[.ref a]}}:=I1.kept (t':=s1.toks) fun b o e=>Heap.get?_push_of_some _ e;have AR:(s1.heap.push {cls:=.type "dict_values",data:=.fields #[.ref a]}).get? a=some o':=Heap.get?_push_of_some _ ho;have D9:(s1.heap.push {cls:=.type "dict_values",data:=.fields #[.ref a]}).IsValuesView s1.heap.objs.size a:=⟨_,Heap.get?_push_size _ rfl,rfl,rfl⟩;generalize s1.heap.push {cls:=.type "dict_values",data:=.fields #[.ref a]}=hv at Iv AR D9⊢;refine wpAny_pyIter_values (s:={s1 with heap:=hv}) (knd:=mw X.prog X.w) D9 ⟨o',es,AR,hx⟩ ?_;have fresh:H1 hv.objs.size=none:=Iv.eB.fresh (aq _);have I2:Inv X ah σ H1 {s1 with heap:=hv.push {cls:=.type "dict_valueiterator",data:=.fields #[.ref a,.int 0 0,.int vs.length 0,.int ep 0]}}:=
    Iv.kept (t':=s1.toks) fun b o e=>Heap.get?_push_of_some _ e;refine⟨hv.objs.size,[hv.objs.size],_,_,_,rfl,I2,zrh a _ jJ hx,⟨_,Heap.get?_push_size _ rfl,rfl,rfl⟩,fun b hb=>?_,kE⟩;have e:b=hv.objs.size:=by simpa using hb
  subst e;have IW:=Iv.zj (aq _) fresh;exact⟨fresh,IW.2⟩
end
section
variable{K:aa}{mg:Str->Option Value}{h:Heap}{C i dt:Addr}{m q:Str}{st:Stmt}{ps:List Str}{od an dd:Option Addr}{sl dl:Array (Option Value)}{oc kV dc pm co ct dv:Value}
abbrev NO(x q:Str)(st:Stmt)(ps:List Str):Prop:=∀(kV oR pm:Value)(an:Option Addr)(b9 ct:Value)(us:List Value),us.length=ps.length->bindArgs (bK x q (xn st) (rK st) (dX st) .none kV oR pm an b9 ct) ⟨us,[]⟩=pure (ps.zip us)
theorem JL(X:K.In h)(G:h.Ns mainGlobals mg)(a:mU K mainGlobals m=some (some (.ref i)))(l:K.lookup i=some ⟨oc,od,.func (bK m m (xn st) (rK st) (dX st) .none kV dc pm an co ct),sl⟩)(c:dM K co m=true)(k:br K (.ref i)=true)(b:NO m m st ps):qC K mg m st ps:=⟨_,_,KU l c k,(KU l c k).binds b,fE X G a⟩
theorem sV(a:aR K (.ref C) m=some (some (.ref i)))(f:ic K (.ref i)=true)(l:K.lookup i=some ⟨oc,od,.func (bK m q (xn st) (rK st) (dX st) .none kV dc pm an co ct),sl⟩)(c:dM K co q=true)(k:br K (.ref i)=true)(b:NO m q st ps):dY K C m q st ps [[]]:=⟨⟨_,_,NF l c,⟨a,f,k⟩,fun cu h=>by rw[aC.mp h];exact .nil ((KU l c k).binds b)⟩⟩
theorem in_of(a:aR K (.ref C) "__init__"=some (some (.ref i)))(f:ic K (.ref i)=true)(l:K.lookup i=some ⟨oc,od,.func (bK "__init__" q (xn st) (rK st) (dX st) .none kV dc pm an co ct),sl⟩)(c:dM K co q=true)(k:br K (.ref i)=true)(b:NO "__init__" q st ps)(mk:jZ K C=true)(kc:br K (.ref C)=true):tM K C q st ps [[]]:=⟨⟨_,_,NF l c,⟨mk,a,f,kc⟩,fun cu h=>by rw[aC.mp h];exact .nil ((KU l c k).binds b)⟩⟩
theorem Ig(_:aR K (.ref C) m=some (some (.ref i)))(l:K.lookup i=some ⟨oc,od,.func (bK m q (xn st) (rK st) (dX st) .none kV dc pm an co ct),sl⟩)(c:dM K co q=true)(r:E8 K C (.type "type")=true)(f:E6 K (.ref C) (.type "type") m=some (.val (.ref i)))(g:jg K (.ref C) "__getattribute__"=some (some (.builtin "type.__getattribute__")))(k:br K (.ref i)=true)(b:NO m q st ps):DR K C m q st ps:=⟨⟨_,_,NF l c,⟨⟨_,r,f⟩,g,k⟩,.nil ((KU l c k).binds b)⟩⟩
theorem Jj{items:Array Value}{n:Nat}{pP:List (List V)}(a:aR K (.ref C) m=some (some (.ref i)))(f:ic K (.ref i)=true)(l:K.lookup i=some ⟨oc,od,.func (bK m q (xn st) (rK st) (dX st) (.ref dt) kV dc pm an co ct),sl⟩)(c:dM K co q=true)(k:br K (.ref i)=true)(dk:K.lookup dt=some ⟨dv,dd,.seq items n,dl⟩)(b:∀(fd:FuncData),fd=bK m q (xn st) (rK st) (dX st) (.ref dt) kV dc pm an co ct->∀cu∈pP,∃ds,b8 cu ds/\∀us:List Value,(us++ds).length=ps.length->∃z:Option (Array Value)->Sem (List (Str×Value)),bindArgs fd ⟨us,[]⟩=seqItems? fd.defaults >>=z/\z (some items)=pure (ps.zip (us++ds))):dY K C m q st ps pP:=⟨⟨_,_,NF l c,⟨a,f,k⟩,fun cu h=>by obtain⟨ds,v,z⟩:=b _ rfl cu h;exact⟨ds,v,Yi rfl dk z⟩⟩⟩
theorem Ef{items:Array Value}{n:Nat}{pP:List (List V)}(a:aR K (.ref C) "__init__"=some (some (.ref i)))(f:ic K (.ref i)=true)(l:K.lookup i=some ⟨oc,od,.func (bK "__init__" q (xn st) (rK st) (dX st) (.ref dt) kV dc pm an co ct),sl⟩)(c:dM K co q=true)(dk:K.lookup dt=some ⟨dv,dd,.seq items n,dl⟩)(b:∀(fd:FuncData),fd=bK "__init__" q (xn st) (rK st) (dX st) (.ref dt) kV dc pm an co ct->∀cu∈pP,∃ds,b8 cu ds/\∀us:List Value,(us++ds).length=ps.length->∃z:Option (Array Value)->Sem (List (Str×Value)),bindArgs fd ⟨us,[]⟩=seqItems? fd.defaults >>=z/\z (some items)=pure (ps.zip (us++ds)))(mk:jZ K C=true)(kc:br K (.ref C)=true):tM K C q st ps pP:=⟨⟨_,_,NF l c,⟨mk,a,f,kc⟩,fun cu h=>by obtain⟨ds,v,z⟩:=b _ rfl cu h;exact⟨ds,v,Yi rfl dk z⟩⟩⟩
theorem Nh(hd:je K C=true)(ga:aR K (.ref C) "__getattribute__"=some (some (.builtin "BaseException.__getattribute__")))(gn:aR K (.ref C) "__getattr__"=some none)(sa:aR K (.ref C) "__setattr__"=some (some (.builtin "object.__setattr__")))(cl:aR K (.ref C) "__class__"=some (some (.builtin "object.__class__")))(kg:jg K (.builtin "object.__class__") "__get__"=some (some (.builtin "getset_descriptor.__get__")))(kt:uD K (.builtin "object.__class__")=some true)(be:lX K C (.type "BaseException")=some true)(ob:lX K C (.type "object")=some true)(ex:dN K C yE "ValueError.__new__"=true):XC K C:=⟨hd,ga,gn,sa,cl,kg,kt,be,ob,zxy ex⟩
theorem DS{t:Tok}{mk:Tok->Value}(X:K.In h)(G:h.Ns mainGlobals mg)(e:mU K mainGlobals m=some (some (mk t))):∃t,mg m=some (mk t):=⟨t,fE X G e⟩
theorem JV{x y:Str}{t u:Tok}{n:Nat}(X:K.In h)(G:h.Ns mainGlobals mg)(e:mU K mainGlobals m=some (some (.ref i)))(l:K.lookup i=some ⟨.type "tuple",od,.seq #[.str x t,.str y u] n,sl⟩):∃a,mg m=some (.ref a)/\∀H,uF K H a [.str x,.str y]:=⟨_,fE X G e,fun H=>.inr ⟨_,_,_,l,rfl,rfl,(by show 2<=sizeLine;decide),.cons ⟨_,rfl⟩ (.cons ⟨_,rfl⟩ .nil)⟩⟩
theorem Jh{x:Str}{t:Tok}{n:Nat}(a:aR K (.ref C) "__init__"=some (some (.ref i)))(f:ic K (.ref i)=true)(l:K.lookup i=some ⟨oc,od,.func (bK "__init__" q (xn st) (rK st) (dX st) (.ref dt) kV dc pm an co ct),sl⟩)(c:dM K co q=true)(dk:K.lookup dt=some ⟨dv,dd,.seq #[.str x t] n,dl⟩)(b:∀fd:FuncData,fd=bK "__init__" q (xn st) (rK st) (dX st) (.ref dt) kV dc pm an co ct->(∀us:List Value,us.length=ps.length->∃z:Option (Array Value)->Sem (List (Str×Value)),bindArgs fd ⟨us,[]⟩=seqItems? fd.defaults >>=z/\z (some #[.str x t])=pure (ps.zip us))/\∀us:List Value,us.length+1=ps.length->∃z:Option (Array Value)->Sem (List (Str×Value)),bindArgs fd ⟨us,[]⟩=seqItems? fd.defaults >>=z/\z (some #[.str x t])=pure (ps.zip (us++[.str x t])))(mk:jZ K C=true)(kc:br K (.ref C)=true):tM K C q st ps [[],[.str x]]:=Ef a f l c dk (fun fd e cu h=>by
 obtain⟨b1,b2⟩:=b fd e;rcases ao.mp h with h|h
 ·rw[h];exact⟨[],.nil,fun us hl=>by rw[bw]at hl⊢;exact b1 us hl⟩
 ·rw[aC.mp h];exact⟨[.str x t],.cons ⟨_,rfl⟩ .nil,fun us hl=>b2 us (by simpa using hl)⟩) mk kc
end
end L2
local macro_rules| `(tactic|walk_at"rd")=>`(tactic|(try dsimp only[L2.wu,L2.JS,L2.OJ,L2.nH,L2.Ac,L2.tC,L2.rI,L2.Fk,L2.rU,L2.Ou,L2.Ow,L2.Ev,L2.Ab,L2.rh,L2.iN,L2.EV,L2.Aa,L2.w4,L2.M0,L2.Ci,L2.Dc,L2.ES,L2.Ch,L2.GF,L2.EU,L2.GA,L2.OH,L2.GD,L2.tB,L2.OG,L2.vj,L2.GJ,L2.GC,L2.OE,L2.GB,L2.vm,L2.yj,L2.A7,L2.Cj,L2.A8,L2.A9,L2.zR,L2.ET,L2.uq,L2.JQ,L2.ym,L2.GH,L2.yo,L2.yb,L2.sG,L2.vo,L2.GK,L2.EW,L2.yt,L2.GI,L2.Ba,L2.D6,L2.zz,L2.Ed,L2.Ea,L2.BG,L2.Eb,L2.Ec,L2.AU,L2.Jg,L2.OI,L2.Ck,L2.ur,L2.CH,L2.wK,L2.DX,L2.A5,L2.yd,L2.ye,L2.FA,L2.GG,nh,m9,sQ,sP,gw,oA]);try simp only[L2.wu,L2.JS,L2.OJ,L2.nH,L2.Ac,L2.tC,L2.rI,L2.Fk,L2.rU,L2.Ou,L2.Ow,L2.Ev,L2.Ab,L2.rh,L2.iN,L2.EV,L2.Aa,L2.w4,L2.M0,L2.Ci,L2.Dc,L2.ES,L2.Ch,L2.GF,L2.EU,L2.GA,L2.OH,L2.GD,L2.tB,L2.OG,L2.vj,L2.GJ,L2.GC,L2.OE,L2.GB,L2.vm,L2.yj,L2.A7,L2.Cj,L2.A8,L2.A9,L2.zR,L2.ET,L2.uq,L2.JQ,L2.ym,L2.GH,L2.yo,L2.yb,L2.sG,L2.vo,L2.GK,L2.EW,L2.yt,L2.GI,L2.Ba,L2.D6,L2.zz,L2.Ed,L2.Ea,L2.BG,L2.Eb,L2.Ec,L2.AU,L2.Jg,L2.OI,L2.Ck,L2.ur,L2.CH,L2.wK,L2.DX,L2.A5,L2.yd,L2.ye,nh,m9,sQ,sP,gw,oA,bw,Ah,L2.V.int.injEq,L2.V.bl.injEq,L2.V.ref.injEq,L2.V.str.injEq,Di,exists_eq_left',exists_eq_left,exists_eq_right,exists_and_left,exists_and_right,and_true,true_and,and_self,exists_const,exists_eq,exists_eq',and_assoc,decide_eq_true_eq,ua,Bool.not_true,J8,fQ,E2,if_true,if_false,decide_eq_false_iff_not,ite_not,↓reduceIte,Int.reduceLT,Int.reduceLE,Int.reducePow,Int.reduceMul,Int.reduceAdd,Int.reduceSub,Int.reduceNeg,Ka,Int.reduceEq,Int.reduceNe,L2.FA,L2.wG,L2.uK,L2.eX,bj,bU,Nat.reduceAdd,Nat.zero_add,L2.wF,tD,Int.natAbs_neg,Nat.reducePow,Nat.reduceLT,IG,FG,L2.GG,ne_eq,not_false_eq_true,not_true_eq_false])
local macro_rules| `(tactic|walk_at"rds")=>`(tactic|try simp only[L2.dG,L2.wu,L2.JS,L2.OJ,L2.nH,L2.Ac,L2.tC,L2.rI,L2.Fk,L2.rU,L2.Ou,L2.Ow,L2.Ev,L2.Ab,L2.rh,L2.iN,L2.EV,L2.Aa,L2.w4,L2.M0,L2.Ci,L2.Dc,L2.ES,L2.Ch,L2.GF,L2.EU,L2.GA,L2.OH,L2.GD,L2.tB,L2.OG,L2.vj,L2.GJ,L2.GC,L2.OE,L2.GB,L2.vm,L2.yj,L2.A7,L2.Cj,L2.A8,L2.A9,L2.zR,L2.ET,L2.uq,L2.JQ,L2.ym,L2.GH,L2.yo,L2.yb,L2.sG,L2.vo,L2.GK,L2.EW,L2.yt,L2.GI,L2.Ba,L2.D6,L2.zz,L2.Ed,L2.Ea,L2.BG,L2.Eb,L2.Ec,L2.AU,L2.Jg,L2.OI,L2.Ck,L2.ur,L2.CH,L2.wK,L2.DX,L2.A5,L2.yd,L2.ye,
 nh,m9,sQ,sP,gw,oA,bw,Ah,L2.V.int.injEq,L2.V.bl.injEq,L2.V.ref.injEq,L2.V.str.injEq,Di,exists_eq_left',exists_eq_left,exists_eq_right,exists_and_left,exists_and_right,and_true,true_and,and_self,exists_const,exists_eq,exists_eq',and_assoc,decide_eq_true_eq,ua,Bool.not_true,J8,fQ,E2,if_true,if_false,decide_eq_false_iff_not,ite_not,↓reduceIte,Int.reduceLT,Int.reduceLE,Int.reducePow,Int.reduceMul,Int.reduceAdd,Int.reduceSub,Int.reduceNeg,Ka,Int.reduceEq,Int.reduceNe,L2.FA,L2.wG,L2.uK,L2.eX,bj,bU,Nat.reduceAdd,Nat.zero_add,L2.wF,tD,Int.natAbs_neg,Nat.reducePow,Nat.reduceLT,IG,FG,L2.GG,ne_eq,not_false_eq_true,not_true_eq_false])
set_option hygiene false in
local macro_rules| `(tactic|walk_at"s")=>`(tactic|(refine _root_.L2.bM fun R hR=>?_;walk_at"rd"))
namespace K71
open PySem L2 PyProof.Rows
theorem _root_.L2.FB.qv{fs d pr s pl}(h:FB fs d pr s pl)(m:Str)(h1:¬m="depth":=by decide+kernel)(h2:¬m="rate":=by decide+kernel)(h3:¬m="since":=by decide+kernel)(h4:¬m="left":=by decide+kernel):fs.lookup m=none:=h.no m h1 h2 h3 h4
theorem _root_.L2.FS.qv{fs most pm ch pr pt pg}(h:FS fs most pm ch pr pt pg)(m:Str)(h1:¬m="most":=by decide+kernel)(h2:¬m="members":=by decide+kernel)(h3:¬m="chosen":=by decide+kernel)(h4:¬m="reached":=by decide+kernel)(h5:¬m="tags":=by decide+kernel)(h6:¬m="greatest_steps":=by decide+kernel):fs.lookup m=none:=h.no m h1 h2 h3 h4 h5 h6
theorem _root_.L2.FR.qv{fs most pm ch pt pg tu}(h:FR fs most pm ch pt pg tu)(m:Str)(h1:¬m="most":=by decide+kernel)(h2:¬m="members":=by decide+kernel)(h3:¬m="chosen":=by decide+kernel)(h4:¬m="queue":=by decide+kernel)(h5:¬m="rests":=by decide+kernel)(h6:¬m="turn":=by decide+kernel):fs.lookup m=none:=h.no m h1 h2 h3 h4 h5 h6
theorem _root_.L2.FN.qv{fs ab ch rm bk ql}(h:FN fs ab ch rm bk ql)(m:Str)(h1:¬m="above":=by decide+kernel)(h2:¬m="chooser":=by decide+kernel)(h3:¬m="room":=by decide+kernel)(h4:¬m="bucket":=by decide+kernel)(h5:¬m="queue":=by decide+kernel):fs.lookup m=none:=h.no m h1 h2 h3 h4 h5
theorem om{fs m0 pn t0 f0 c0 pg}(h:As fs m0 pn t0 f0 c0 pg)(m:Str)(h1:¬m="most":=by decide+kernel)(h2:¬m="nodes":=by decide+kernel)(h3:¬m="time":=by decide+kernel)(h4:¬m="free":=by decide+kernel)(h5:¬m="counted":=by decide+kernel)(h6:¬m="gone":=by decide+kernel):fs.lookup m=none:=h.Ku m h1 h2 h3 h4 h5 h6
def top(i:Nat):Stmt:=PySem.Challenge.pw_sharewheel_k71_floors.main.body.getD i (.Pass ⟨0,0,0,0⟩)
abbrev YY:Stmt:=top 13
abbrev Z7:Stmt:=top 14
abbrev zzr:Stmt:=top 15
abbrev Z8:Stmt:=top 16
abbrev Z9:Stmt:=top 17
abbrev YZ:Stmt:=top 18
abbrev Xl:Stmt:=top 21
abbrev XG:Stmt:=top 35
abbrev Y4:Stmt:=top 36
abbrev XI:Stmt:=top 37
abbrev zxc:Stmt:=top 41
abbrev W8:Stmt:=top 43
abbrev XJ:Stmt:=top 44
abbrev X3:Stmt:=top 45
abbrev XM:Stmt:=top 46
abbrev W9:Stmt:=top 47
abbrev X4:Stmt:=top 48
abbrev X5:Stmt:=top 49
abbrev Xm:Stmt:=top 50
abbrev Y5:Stmt:=top 51
abbrev Yp:Stmt:=top 52
abbrev X6:Stmt:=top 53
abbrev XN:Stmt:=top 54
abbrev Xa:Stmt:=top 55
abbrev qY:Stmt:=top 56
theorem fP{N P:List Str}{c:PySem.Scope}(a:c.kind=.function:=by rfl)(b:c.isCoroutine=false:=by rfl)(d:c.isGenerator=false:=by rfl)(e:N.Nodup:=by decide+kernel)(f:N.take P.length=P:=by rfl)(g:∀x∈P,c.names.lookup x=some .local\/c.names.lookup x=some .cell:=by decide+kernel)(h:∀y∈c.names,y.2≠.free:=by decide+kernel):aB N P c:=⟨a,b,d,e,f,g,h⟩
theorem jr:aB ["one","other","great","small","rest"] ["one","other"] (dX YY):=fP
theorem u8:aB ["top","bottom","common"] ["top","bottom"] (dX Z7):=fP
theorem SS:aB ["one","other"] ["one","other"] (dX zzr):=fP
theorem zyo:aB ["one","other"] ["one","other"] (dX Z8):=fP
theorem zyp:aB ["one","other"] ["one","other"] (dX Z9):=fP
theorem u7:aB ["one","other","most"] ["one","other"] (dX YZ):=fP
theorem zmd:aB ["share"] ["share"] (dX Xl):=fP
theorem znv:aB ["most"] ["most"] (dX XG):=fP
theorem zuk:aB ["text"] ["text"] (dX Y4):=fP
theorem znw:aB ["kind","most"] ["kind","most"] (dX XI):=fP
theorem kM:aB ["tree","name","given","lacking","one","part"] ["tree","name"] (dX zxc):=fP
theorem zle:aB ["_law_script","_law_k"] ["_law_script","_law_k"] (dX W8):=fP
theorem lN:aB ["_law_cell","_law_k","_law_number"] ["_law_cell","_law_k"] (dX XJ):=fP
theorem iY:aB ["_law_cell","_law_k","_law_word","_law_at","_law_place"] ["_law_cell","_law_k"] (dX X3):=fP
theorem znx:aB ["_law_number"] ["_law_number"] (dX XM):=fP
theorem dJ:aB ["_law_cell","_law_many","_law_members_here","_law_inner","_law_deep","_law_k","_law_number","_law_above","_law_kind","_law_name_here"] ["_law_cell","_law_many"] (dX W9):=fP
theorem iZ:aB ["_law_cell","_law_members_here","_law_most","_law_tree_here","_law_name_here","_law_row"] ["_law_cell","_law_members_here"] (dX X4):=fP
theorem fY:aB ["_law_tree_here","_law_members_here","_law_cell","_law_names","_law_name_here","_law_above","_law_kind","_law_share_here","_law_leaves"] ["_law_tree_here","_law_members_here","_law_cell"] (dX X5):=fP
theorem nT:aB ["_law_one","_law_other"] ["_law_one","_law_other"] (dX Xm):=fP
theorem u6:aB ["_law_found","_law_top","_law_bottom","_law_number"] ["_law_found","_law_top","_law_bottom"] (dX Y5):=fP
theorem lu:aB ["_law_members_here","_law_name_here","_law_way_here"] ["_law_members_here","_law_name_here"] (dX Yp):=fP
theorem fj:aB ["_law_tree_here","_law_members_here","_law_name_here","_law_kind","_law_quiet","_law_above","_law_sort","_law_share_here","_law_beside","_law_step","_law_top"] ["_law_tree_here","_law_members_here","_law_name_here","_law_kind","_law_quiet"] (dX X6):=fP
theorem eA:aB ["_law_tree_here","_law_members_here","_law_name_here","_law_kind","_law_quiet","_law_rate","_law_behind","_law_one","_law_beside","_law_part","_law_lack_here","_law_found"] ["_law_tree_here","_law_members_here","_law_name_here","_law_kind","_law_quiet"] (dX XN):=fP
theorem jP:aB ["_law_tree_here","_law_name_here","_law_word"] ["_law_tree_here","_law_name_here"] (dX Xa):=fP
theorem nU:aB ["_law_script","_law_first","_law_members_here","_law_tree_here","_law_quiet","_law_cell","_law_name_here"] ["_law_script"] (dX qY):=fP
abbrev Xb:Stmt:=hU (top 22) 0
theorem zlf:aB ["self"] ["self"] (dX Xb):=fP
abbrev Wt:Stmt:=hU (top 22) 1
theorem zfg:aB ["self","name"] ["self","name"] (dX Wt):=fP
abbrev Xn:Stmt:=hU (top 22) 2
theorem zme:aB ["self","name","share"] ["self","name","share"] (dX Xn):=fP
abbrev WM:Stmt:=hU (top 22) 4
theorem zht:aB ["self","name","share"] ["self","name","share"] (dX WM):=fP
abbrev WY:Stmt:=hU (top 22) 5
theorem zjv:aB ["self"] ["self"] (dX WY):=fP
abbrev WD:Stmt:=hU (top 22) 6
theorem zgw:aB ["self","name"] ["self","name"] (dX WD):=fP
abbrev Wu:Stmt:=hU (top 22) 7
theorem zfi:aB ["self"] ["self"] (dX Wu):=fP
abbrev Xc:Stmt:=hU (top 22) 8
theorem zlg:aB ["self","name"] ["self","name"] (dX Xc):=fP
abbrev Xo:Stmt:=hU (top 25) 0
theorem zmf:aB ["self","most"] ["self","most"] (dX Xo):=fP
abbrev Xd:Stmt:=hU (top 25) 1
theorem zlh:aB ["self","name"] ["self","name"] (dX Xd):=fP
abbrev WZ:Stmt:=hU (top 25) 3
theorem zjw:aB ["self","name"] ["self","name"] (dX WZ):=fP
abbrev Xp:Stmt:=hU (top 25) 4
theorem iV:aB ["self","ready","first","name"] ["self","ready"] (dX Xp):=fP
abbrev W0:Stmt:=hU (top 25) 5
theorem mj:aB ["self","name","length","step"] ["self","name","length"] (dX W0):=fP
abbrev W1:Stmt:=hU (top 25) 7
theorem zjx:aB ["self","name"] ["self","name"] (dX W1):=fP
abbrev Xq:Stmt:=hU (top 25) 8
theorem zmg:aB ["self","name"] ["self","name"] (dX Xq):=fP
abbrev Wv:Stmt:=hU (top 25) 9
theorem zfm:aB ["self"] ["self"] (dX Wv):=fP
abbrev Wy:Stmt:=hU (top 24) 0
theorem zga:aB ["self","most"] ["self","most"] (dX Wy):=fP
abbrev XO:Stmt:=hU (top 24) 1
theorem zny:aB ["self","name","share"] ["self","name","share"] (dX XO):=fP
abbrev WT:Stmt:=hU (top 24) 3
theorem zix:aB ["self","name","share"] ["self","name","share"] (dX WT):=fP
abbrev Xe:Stmt:=hU (top 24) 4
theorem zli:aB ["self"] ["self"] (dX Xe):=fP
abbrev WN:Stmt:=hU (top 24) 5
theorem zhx:aB ["self","name"] ["self","name"] (dX WN):=fP
abbrev Xr:Stmt:=hU (top 24) 6
theorem zmh:aB ["self","name"] ["self","name"] (dX Xr):=fP
abbrev W2:Stmt:=hU (top 24) 7
theorem mq:aB ["self","ready","name"] ["self","ready"] (dX W2):=fP
abbrev XQ:Stmt:=hU (top 24) 8
theorem znz:aB ["self","length"] ["self","length"] (dX XQ):=fP
abbrev Xs:Stmt:=hU (top 24) 9
theorem gR:aB ["self","name","others","shares","reach","behind"] ["self","name"] (dX Xs):=fP
abbrev Xu:Stmt:=hU (top 26) 0
theorem zmi:aB ["self","most"] ["self","most"] (dX Xu):=fP
abbrev Xf:Stmt:=hU (top 26) 1
theorem zlj:aB ["self","name"] ["self","name"] (dX Xf):=fP
abbrev WE:Stmt:=hU (top 26) 3
theorem zgx:aB ["self","name"] ["self","name"] (dX WE):=fP
abbrev W3:Stmt:=hU (top 26) 4
theorem zjy:aB ["self","name"] ["self","name"] (dX W3):=fP
abbrev Xv:Stmt:=hU (top 26) 5
theorem zmj:aB ["self","ready"] ["self","ready"] (dX Xv):=fP
abbrev WO:Stmt:=hU (top 26) 6
theorem zic:aB ["self"] ["self"] (dX WO):=fP
abbrev Wz:Stmt:=hU (top 26) 7
theorem jF:aB ["self","ready","name"] ["self","ready"] (dX Wz):=fP
abbrev W4:Stmt:=hU (top 26) 8
theorem zjz:aB ["self","name","length"] ["self","name","length"] (dX W4):=fP
abbrev Xw:Stmt:=hU (top 26) 12
theorem zmk:aB ["self","name"] ["self","name"] (dX Xw):=fP
abbrev Ww:Stmt:=hU (top 26) 13
theorem zfq:aB ["self"] ["self"] (dX Ww):=fP
abbrev WA:Stmt:=hU (top 24) 0
theorem zgb:aB ["self","most"] ["self","most"] (dX WA):=fP
abbrev XR:Stmt:=hU (top 24) 1
theorem zoa:aB ["self","name","share"] ["self","name","share"] (dX XR):=fP
abbrev WU:Stmt:=hU (top 24) 3
theorem ziy:aB ["self","name","share"] ["self","name","share"] (dX WU):=fP
abbrev Xg:Stmt:=hU (top 24) 4
theorem zlk:aB ["self"] ["self"] (dX Xg):=fP
abbrev WP:Stmt:=hU (top 24) 5
theorem zie:aB ["self","name"] ["self","name"] (dX WP):=fP
abbrev Xx:Stmt:=hU (top 24) 6
theorem zml:aB ["self","name"] ["self","name"] (dX Xx):=fP
abbrev W5:Stmt:=hU (top 24) 7
theorem mh:aB ["self","ready","name"] ["self","ready"] (dX W5):=fP
abbrev XS:Stmt:=hU (top 24) 8
theorem zob:aB ["self","length"] ["self","length"] (dX XS):=fP
abbrev Xy:Stmt:=hU (top 24) 9
theorem gQ:aB ["self","name","others","shares","reach","behind"] ["self","name"] (dX Xy):=fP
abbrev X7:Stmt:=hU (top 38) 0
theorem zqe:aB ["self","above","chooser","room"] ["self","above","chooser","room"] (dX X7):=fP
abbrev WB:Stmt:=hU (top 38) 2
theorem zgc:aB ["self","length"] ["self","length"] (dX WB):=fP
abbrev Xz:Stmt:=hU (top 38) 3
theorem zmm:aB ["self","at","length"] ["self","at","length"] (dX Xz):=fP
abbrev X8:Stmt:=hU (top 39) 0
theorem zqf:aB ["self","most","kind"] ["self","most","kind"] (dX X8):=fP
abbrev WF:Stmt:=hU (top 39) 1
theorem zgy:aB ["self","name"] ["self","name"] (dX WF):=fP
abbrev WQ:Stmt:=hU (top 39) 2
theorem zii:aB ["self","name"] ["self","name"] (dX WQ):=fP
abbrev WG:Stmt:=hU (top 39) 3
theorem zgz:aB ["self","under","kind"] ["self","under","kind"] (dX WG):=fP
abbrev Yq:Stmt:=hU (top 39) 4
theorem zrn:aB ["self","name","under","kind","share","room"] ["self","name","under","kind","share","room"] (dX Yq):=fP
abbrev Xh:Stmt:=hU (top 39) 6
theorem zln:aB ["self","name","share"] ["self","name","share"] (dX Xh):=fP
abbrev X9:Stmt:=hU (top 39) 10
theorem qZ:aB ["self","name","length","number"] ["self","name","length"] (dX X9):=fP
abbrev XT:Stmt:=hU (top 39) 11
theorem lM:aB ["self","at","start"] ["self","at"] (dX XT):=fP
abbrev Yr:Stmt:=hU (top 39) 12
theorem zro:aB ["self"] ["self"] (dX Yr):=fP
abbrev Ys:Stmt:=hU (top 39) 15
theorem zrp:aB ["self","name"] ["self","name"] (dX Ys):=fP
abbrev zqg:Stmt:=hU (top 39) 16
abbrev Yb:Stmt:=hU (top 39) 18
theorem zqh:aB ["self","name"] ["self","name"] (dX Yb):=fP
abbrev Yc:Stmt:=hU (top 39) 19
theorem zqi:aB ["self","name"] ["self","name"] (dX Yc):=fP
abbrev WC:Stmt:=hU (top 39) 20
theorem zgd:aB ["self","name"] ["self","name"] (dX WC):=fP
abbrev WV:Stmt:=hU (top 39) 21
theorem iW:aB ["self","name","names"] ["self","name"] (dX WV):=fP
abbrev WH:Stmt:=hU (top 39) 22
theorem zha:aB ["self"] ["self"] (dX WH):=fP
abbrev WW:Stmt:=hU (top 39) 23
theorem iX:aB ["self","name","at","length","buckets"] ["self","name","at"] (dX WW):=fP
abbrev W6:Stmt:=hU (top 39) 24
theorem gX:aB ["self","at","ready","name","one"] ["self","at"] (dX W6):=fP
abbrev WI:Stmt:=hU (top 39) 25
theorem jX:aB ["self","at"] ["self"] (dX WI):=fP
abbrev WJ:Stmt:=hU (top 39) 26
theorem e9:aB ["self","at","ready","name","chooser"] ["self","at"] (dX WJ):=fP
abbrev WR:Stmt:=hU (top 39) 27
theorem iE:aB ["self","name","at","first","one"] ["self","name","at"] (dX WR):=fP
structure Txt(K:aa)(mg:Str->Option Value)(cH:Addr)(cV:Addr)(cF:Addr)(cI:Addr)(cJ:Addr)(cG:Addr)(cW:Addr)(cO:Addr)(cD:Addr)(cA:Addr)(cU:Addr)(cQ:Addr)(cK:Addr)(cX:Addr):Prop where
 CO:mg "NoName"=some (.ref cH)
 De:XC K cH
 CM:br K (.ref cH)=true
 CF:dN K cH yE "ValueError.__new__"=true
 zI:mg "Taken"=some (.ref cV)
 Ad:XC K cV
 zA:br K (.ref cV)=true
 zf:dN K cV yE "ValueError.__new__"=true
 mJ:mg "NoClass"=some (.ref cF)
 kN:XC K cF
 pS:br K (.ref cF)=true
 pQ:dN K cF yE "ValueError.__new__"=true
 kI:mg "NoPlace"=some (.ref cI)
 kO:XC K cI
 kH:br K (.ref cI)=true
 kC:dN K cI yE "ValueError.__new__"=true
 AY:mg "NoShare"=some (.ref cJ)
 vt:XC K cJ
 AW:br K (.ref cJ)=true
 AK:dN K cJ yE "ValueError.__new__"=true
 nS:mg "NoLength"=some (.ref cG)
 jG:XC K cG
 nM:br K (.ref cG)=true
 nF:dN K cG yE "ValueError.__new__"=true
 zJ:mg "TooEarly"=some (.ref cW)
 Ae:XC K cW
 zB:br K (.ref cW)=true
 zh:dN K cW yE "ValueError.__new__"=true
 qQ:mg "NoneReady"=some (.ref cO)
 rB:XC K cO
 qJ:br K (.ref cO)=true
 qF:dN K cO yE "ValueError.__new__"=true
 o7:xN K (.ref cF) (.ref cF)=some true
 Ep:mg "abs"=none
 Jm:mg "all"=none
 jo:mg "len"=none
 zK:mg "range"=none
 ya:mg "min"=none
 BK:mg "list"=none
 jA:mg "isinstance"=none
 Gv:mg "bool"=none
 Jo:mg "int"=none
 zL:mg "tuple"=none
 su:mg "sum"=none
 Er:mg "max"=none
 qP:∃t,mg "GREATEST_SHARE"=some (.int 1000000 t)
 pZ:∃t,mg "GREATEST_LENGTH"=some (.int 1000000 t)
 AX:∃t,mg "LETTERS"=some (.str (Str.ofString "abcdefghijklmnopqrstuvwxyz") t)
 tW:∃t,mg "LONGEST_NAME"=some (.int 8 t)
 x8:∃t,mg "ROAD"=some (.str (Str.ofString "road") t)
 nR:∃a,mg "INNER_KINDS"=some (.ref a)/\∀H,uF K H a [.str (Str.ofString "starts"),.str (Str.ofString "rounds")]
 uW:∃t,mg "LONGEST_WAY"=some (.int 5 t)
 BH:∃t,mg "LEAF"=some (.str (Str.ofString "leaf") t)
 z4:qC K mg "divisor" YY ["one","other"]
 C6:qC K mg "ratio" Z7 ["top","bottom"]
 EQ:qC K mg "plus" zzr ["one","other"]
 C7:qC K mg "times" Z8 ["one","other"]
 C8:qC K mg "under" Z9 ["one","other"]
 z6:qC K mg "greater" YZ ["one","other"]
 t7:qC K mg "check_share" Xl ["share"]
 vg:qC K mg "check_most" XG ["most"]
 z7:qC K mg "is_name" Y4 ["text"]
 vh:qC K mg "chooser_of" XI ["kind","most"]
 C5:qC K mg "floor" zxc ["tree","name"]
 sC:qC K mg "_law_cell_at" W8 ["_law_script","_law_k"]
 ve:qC K mg "_law_mixed" XJ ["_law_cell","_law_k"]
 wo:qC K mg "_law_name" X3 ["_law_cell","_law_k"]
 vf:qC K mg "_law_share" XM ["_law_number"]
 sD:qC K mg "_law_members" W9 ["_law_cell","_law_many"]
 wq:qC K mg "_law_tree" X4 ["_law_cell","_law_members_here"]
 wj:qC K mg "_law_deed" X5 ["_law_tree_here","_law_members_here","_law_cell"]
 tZ:qC K mg "_law_shared" Xm ["_law_one","_law_other"]
 z3:qC K mg "_law_is" Y5 ["_law_found","_law_top","_law_bottom"]
 yg:qC K mg "_law_way" Yp ["_law_members_here","_law_name_here"]
 wm:qC K mg "_law_lack" X6 ["_law_tree_here","_law_members_here","_law_name_here","_law_kind","_law_quiet"]
 vc:qC K mg "_law_floor" XN ["_law_tree_here","_law_members_here","_law_name_here","_law_kind","_law_quiet"]
 sE:qC K mg "_law_strange" Xa ["_law_tree_here","_law_name_here"]
 uX:mg "Members"=some (.ref cD)
 bD:xw K cD
 dZ:dP K cD "shares"
 AV:tM K cD "Members.__init__" Xb ["self"] [[]]
 mZ:dY K cD "check_name" "Members.check_name" Wt ["self","name"] [[]]
 uL:dY K cD "put" "Members.put" Xn ["self","name","share"] [[]]
 pT:dY K cD "reshare" "Members.reshare" WM ["self","name","share"] [[]]
 rY:dY K cD "names" "Members.names" WY ["self"] [[]]
 oU:dY K cD "share_of" "Members.share_of" WD ["self","name"] [[]]
 mY:dY K cD "all_shares" "Members.all_shares" Wu ["self"] [[]]
 tQ:dY K cD "part" "Members.part" Xc ["self","name"] [[]]
 uV:mg "Chooser"=some (.ref cA)
 CQ:mg "Starts"=some (.ref cU)
 aN:xw K cU
 gK:dP K cU "reached"
 iT:dP K cU "tags"
 ee:dP K cU "greatest_steps"
 kK:dP K cU "most"
 dD:dP K cU "members"
 gW:dP K cU "chosen"
 CL:tM K cU "Starts.__init__" Xo ["self","most"] [[]]
 tT:dY K cU "enter" "Starts.enter" Xd ["self","name"] [[]]
 sj:dY K cU "fit_in" "Starts.fit_in" WZ ["self","name"] [[]]
 uT:dY K cU "pick" "Starts.pick" Xp ["self","ready"] [[]]
 sd:dY K cU "charge" "Starts.charge" W0 ["self","name","length"] [[]]
 sq:dY K cU "stands" "Starts.stands" W1 ["self","name"] [[]]
 uU:dY K cU "step" "Starts.step" Xq ["self","name"] [[]]
 m8:dY K cU "turn_length" "Starts.turn_length" Wv ["self"] [[]]
 nX:DR K cA "__init__" "Chooser.__init__" Wy ["self","most"]
 wd:dY K cU "put" "Chooser.put" XO ["self","name","share"] [[]]
 qL:dY K cU "reshare" "Chooser.reshare" WT ["self","name","share"] [[]]
 tU:dY K cU "names" "Chooser.names" Xe ["self"] [[]]
 pW:dY K cU "share_of" "Chooser.share_of" WN ["self","name"] [[]]
 uS:dY K cU "part" "Chooser.part" Xr ["self","name"] [[]]
 sf:dY K cU "choose" "Chooser.choose" W2 ["self","ready"] [[]]
 vZ:dY K cU "pay" "Chooser.pay" XQ ["self","length"] [[]]
 uR:dY K cU "lack" "Chooser.lack" Xs ["self","name"] [[]]
 CP:mg "Rounds"=some (.ref cQ)
 aF:xw K cQ
 gD:dP K cQ "queue"
 c9:dP K cQ "rests"
 d9:dP K cQ "turn"
 gP:dP K cQ "most"
 d7:dP K cQ "members"
 gU:dP K cQ "chosen"
 CK:tM K cQ "Rounds.__init__" Xu ["self","most"] [[]]
 tR:dY K cQ "enter" "Rounds.enter" Xf ["self","name"] [[]]
 oV:dY K cQ "full_rest" "Rounds.full_rest" WE ["self","name"] [[]]
 r9:dY K cQ "fit_in" "Rounds.fit_in" W3 ["self","name"] [[]]
 uP:dY K cQ "pick" "Rounds.pick" Xv ["self","ready"] [[]]
 pU:dY K cQ "end_turn" "Rounds.end_turn" WO ["self"] [[]]
 nO:dY K cQ "begin_turn" "Rounds.begin_turn" Wz ["self","ready"] [[]]
 rZ:dY K cQ "charge" "Rounds.charge" W4 ["self","name","length"] [[]]
 uQ:dY K cQ "step" "Rounds.step" Xw ["self","name"] [[]]
 m7:dY K cQ "turn_length" "Rounds.turn_length" Ww ["self"] [[]]
 nW:DR K cA "__init__" "Chooser.__init__" WA ["self","most"]
 vY:dY K cQ "put" "Chooser.put" XR ["self","name","share"] [[]]
 qK:dY K cQ "reshare" "Chooser.reshare" WU ["self","name","share"] [[]]
 tS:dY K cQ "names" "Chooser.names" Xg ["self"] [[]]
 pV:dY K cQ "share_of" "Chooser.share_of" WP ["self","name"] [[]]
 uO:dY K cQ "part" "Chooser.part" Xx ["self","name"] [[]]
 r6:dY K cQ "choose" "Chooser.choose" W5 ["self","ready"] [[]]
 vX:dY K cQ "pay" "Chooser.pay" XS ["self","length"] [[]]
 uN:dY K cQ "lack" "Chooser.lack" Xy ["self","name"] [[]]
 BI:mg "Node"=some (.ref cK)
 dB:xw K cK
 lK:dP K cK "above"
 bZ:dP K cK "chooser"
 mK:dP K cK "room"
 kJ:dP K cK "bucket"
 gF:dP K cK "queue"
 Gj:tM K cK "Node.__init__" X7 ["self","above","chooser","room"] [[],[V.b7]]
 nN:dY K cK "has_room_for" "Node.has_room_for" WB ["self","length"] [[]]
 uM:dY K cK "charge" "Node.charge" Xz ["self","at","length"] [[]]
 Gr:mg "Tree"=some (.ref cX)
 aJ:xw K cX
 fh:dP K cX "most"
 bA:dP K cX "nodes"
 iU:dP K cX "time"
 mL:dP K cX "free"
 jO:dP K cX "counted"
 qR:dP K cX "gone"
 Gk:tM K cX "Tree.__init__" X8 ["self","most","kind"] [[],[V.str (Str.ofString "starts")]]
 oW:dY K cX "check_class" "Tree.check_class" WF ["self","name"] [[]]
 pX:dY K cX "check_leaf" "Tree.check_leaf" WQ ["self","name"] [[]]
 oX:dY K cX "check_place" "Tree.check_place" WG ["self","under","kind"] [[]]
 zG:dY K cX "put" "Tree.put" Yq ["self","name","under","kind","share","room"] [[],[V.b7]]
 tV:dY K cX "reshare" "Tree.reshare" Xh ["self","name","share"] [[]]
 xY:dY K cX "come" "Tree.come" X9 ["self","name","length"] [[]]
 wg:dY K cX "until" "Tree.until" XT ["self","at"] [[]]
 zF:dY K cX "now" "Tree.now" Yr ["self"] [[]]
 zH:dY K cX "way" "Tree.way" Ys ["self","name"] [[]]
 Fg:dY K cX "below" "Tree.below" zqg ["self","name"] [[]]
 x6:dY K cX "part" "Tree.part" Yb ["self","name"] [[]]
 xZ:dY K cX "lack" "Tree.lack" Yc ["self","name"] [[]]
 nP:dY K cX "chooser_over" "Tree.chooser_over" WC ["self","name"] [[]]
 qM:dY K cX "from_road" "Tree.from_road" WV ["self","name"] [[]]
 oY:dY K cX "full_leaves" "Tree.full_leaves" WH ["self"] [[]]
 qO:dY K cX "leaf_time" "Tree.leaf_time" WW ["self","name","at"] [[]]
 sr:dY K cX "ready_at" "Tree.ready_at" W6 ["self","at"] [[]]
 o4:dY K cX "next_choice" "Tree.next_choice" WI ["self"] [[]]
 oZ:dY K cX "make_choice" "Tree.make_choice" WJ ["self","at"] [[]]
 pY:dY K cX "send_first" "Tree.send_first" WR ["self","name","at"] [[]]
section
variable{P:Program}{w:World}{K:aa}{mg:Str->Option Value}{base:Heap}{cH cV cF cI cJ cG cW cO cD cA cU cQ cK cX:Addr}
variable(P w base)
variable(T:Txt K mg cH cV cF cI cJ cG cW cO cD cA cU cQ cK cX)
local macro_rules| `(tactic|walk_at"rdc")=>`(tactic|(walk_at"rd";(try simp only[L2.JP,L2.HW]);walk_at"rd"))
include T in
theorem zxd:rM P w K mg base (eW P w) 1 "divisor" ["one","other"] (yd Sw.dv):=by
 refine T.z4.okN (k:=0) jr (fun vs H Q E h=>?_) (fun f b9 A outer s H vs Q E hr h=>?_)
 ·obtain⟨a,b,rfl,_⟩:=h;rfl
 ·obtain⟨a,b,rfl,k⟩:=h;refine⟨_,(bS (gA (i:=2) jr.nd rfl (rC Zb rfl T.Ep boot_abs (aL (pv 0) bB))) (bS (gA (i:=3) jr.nd rfl (rC Zb rfl T.Ep boot_abs (aL (pv 1) bB))) (bS (KH PassesOwn.never (j7 sW (pv 3) bP (jL _)) (bS (gA (i:=4) jr.nd rfl (aM rE (pv 2) (pv 3))) (bS (gA (i:=2) jr.nd rfl (pv 3)) (c8 (gA (i:=3) jr.nd rfl (pv 4)))))) (c8 (gS (pv 2)))))),?_⟩;refine⟨_,rfl,a,rfl,?_⟩;refine⟨_,rfl,b,rfl,?_⟩;refine YG (fun σ H'=>H'=H/\∃g s r,σ=[some (.int a),some (.int b),some (.int g),some (.int s),r]/\0<=g/\0<=s/\Sw.dv g s=Sw.dv a b)
   (fun σ _=>match σ with|[_,_,_,some (.int s),_]=>s.toNat|_=>0) ⟨rfl,_,_,none,rfl,?_,?_,Sw.IQ a b⟩ ?_
  ·split <;> omega
  ·split <;> omega
  ·rintro σ H' ⟨rfl,g,s,r,rfl,hg,hs,e⟩;refine⟨!decide (V.int s=V.int 0),fun Q hQ=>⟨_,rfl,rfl,_,rfl,hQ⟩,fun hb=>?_,fun hb=>?_⟩
   ·have Gh:s≠0:=by intro z;subst z;simp at hb
    have rH:0<s:=by omega
    refine⟨_,rfl,_,rfl,_,_,rfl,rfl,rH,?_⟩;refine⟨_,rfl,?_⟩;refine⟨_,rfl,?_⟩;refine⟨⟨rfl,s,g % s,_,rfl,hs,aZ g Gh,by rw[Sw.Bw];exact e⟩,?_⟩;show(g % s).toNat<s.toNat;have:=aS g rH;have:=aZ g Gh;omega
   ·have Gh:s=0:=by
     have:V.int s=V.int 0:=by simpa using hb
     exact V.int.inj this
    subst Gh;rw[Sw.Bx g hg]at e;refine⟨_,rfl,?_⟩;show Q (.int g) H';rw[e];exact k
inductive HR(vs:List V)(H:Hp)(Q:VK)(E:XK):Prop|mk (t b z:_) (h1:vs=[.int t,.int b]) (h2:z<=5000) (h3:Sw.Sz z b) (h4:(b≠0->∀p,H p=none->Q (.ref p) (aH H p (.tup (fq ((t:Rat) / (b:Rat))))))) (h5:(b=0->False)):HR vs H Q E
include T in
theorem GX:rM P w K mg base (eW P w) 2 "ratio" ["top","bottom"] HR:=by
 have Cs:=zxd P w base T;refine T.C6.okN (k:=1) u8 (fun vs H Q E h=>?_) (fun f b9 A outer s H vs Q E hr h=>?_)
 ·obtain⟨t,b,z,rfl,_⟩:=h;rfl
 ·obtain⟨t,b,z,rfl,z5,sb,k,hb⟩:=h;refine⟨_,(bS (dW (j7 ji (pv 1) bP (jL _)) (c8 Za) kX) (bS (gA (i:=2) u8.nd rfl (ja Cs (hr.mono (by decide)) rfl aT (aL (pv 0) (aL (pv 1) bB)))) (bS (dW (j7 qU (pv 1) bP (jL _)) (c8 (gA (i:=2) u8.nd rfl (HC zyy (pv 2)))) kX) (c8 (gS (wA (aL (aM Ze (pv 0) (pv 2)) (aL (aM Ze (pv 1) (pv 2)) bB)))))))),?_⟩;show dG _ _ _ [some (.int t),some (.int b),none] H;walk_at"s";refine Q8 hb (hR _ _ ?_);have k:=k hb;rw[<-TV hb]at k;have hg:0<Sw.dv t b:=Sw.DT hb;have hz:Sw.Sz 5000 (Sw.dv t b):=(sb.dvd (Sw.tN t b) hb).mono z5;walk_at"s";refine hR _ _ ?_;refine bM fun R hR=>?_;have fin:∀c:Int,(c=Sw.dv t b/\¬b<0)\/(c= -(Sw.dv t b)/\b<0)->R [some (.int t),some (.int b),some (.int c)] H:=fun c hc=>by
   refine hR _ _ ?_;walk_at"rd";have c0:c≠0:=by rcases hc with⟨e,_⟩ |⟨e,_⟩ <;> omega
   have cz:Sw.Sz 5000 c:=by
    rcases hc with⟨e,_⟩ |⟨e,_⟩
    ·rw[e];exact hz
    ·rw[e];exact hz.neg
   have d1:c∣t:=by
    rcases hc with⟨e,_⟩ |⟨e,_⟩
    ·rw[e];exact Sw.xR t b
    ·rw[e];exact wB.mpr (Sw.xR t b)
   have d2:c∣b:=by
    rcases hc with⟨e,_⟩ |⟨e,_⟩
    ·rw[e];exact Sw.tN t b
    ·rw[e];exact wB.mpr (Sw.tN t b)
   have e1:t.fdiv c=Sw.rN t b:=by
    rw[Bg d1];unfold Sw.rN;rcases hc with⟨e,q⟩ |⟨e,q⟩
    ·rw[if_neg q,e]
    ·rw[if_pos q,e]
   have e2:b.fdiv c=Sw.rD t b:=by
    rw[Bg d2];unfold Sw.rD;rcases hc with⟨e,q⟩ |⟨e,q⟩
    ·rw[if_neg q,e]
    ·rw[if_pos q,e]
   rw[e1,e2];exact⟨⟨c0,cz⟩,⟨c0,cz⟩,k⟩
  simp only[L2.dG];walk_at"rd";exact fX (fun c=>fin _ (.inr ⟨rfl,c⟩)) fun c=>fin _ (.inl ⟨rfl,c⟩)
inductive EE(vs:List V)(H:Hp)(Q:VK)(E:XK):Prop|mk (p q a b z:_) (h1:vs=[.ref p,.ref q]) (h2:H p=some (.tup (fq a))) (h3:H q=some (.tup (fq b))) (h4:z<=2500) (h5:Sw.eY z a) (h6:Sw.eY z b) (h7:∀r,H r=none->Q (.ref r) (aH H r (.tup (fq (a+b))))):EE vs H Q E
include T in
theorem Pr:rM P w K mg base (eW P w) 3 "plus" ["one","other"] EE:=by
 have fc:=GX P w base T;refine T.EQ.okN (k:=2) SS (fun vs H Q E h=>?_) (fun f b9 A outer s H vs Q E hr h=>?_)
 ·obtain⟨p,q,a,b,z,rfl,_⟩:=h;rfl
 ·obtain⟨p,q,a,b,z,rfl,hp,hq,hz,s1,s2,k⟩:=h;refine⟨_,(c8 (gS (ja fc (hr.mono (by decide)) rfl aT (aL (aM sL (aM rL (bG (jb K rfl) (pv 0) bP (fun _ _=>rfl)) (bG (jb K rfl) (pv 1) bP (fun _ _=>rfl))) (aM rL (bG (jb K rfl) (pv 1) bP (fun _ _=>rfl)) (bG (jb K rfl) (pv 0) bP (fun _ _=>rfl)))) (aL (aM rL (bG (jb K rfl) (pv 0) bP (fun _ _=>rfl)) (bG (jb K rfl) (pv 1) bP (fun _ _=>rfl))) bB))))),?_⟩;show iN _ _ [some (.ref p),some (.ref q)] H;have IZ:=pq (Sw.eT a) (Sw.eT b);walk_at"rd";refine jc (.of hp) rfl (jc (.of hq) rfl ?_);walk_at"rd";refine⟨⟨s1.n.mono (by omega),s2.d.mono (by omega)⟩,jc (.of hq) rfl (jc (.of hp) rfl ?_)⟩;walk_at"rd";refine⟨⟨s2.n.mono (by omega),s1.d.mono (by omega)⟩,jc (.of hp) rfl (jc (.of hq) rfl ?_)⟩;walk_at"rd";refine⟨⟨s1.d.mono (by omega),s2.d.mono (by omega)⟩,_,_,z+z,rfl,by omega,s1.d.mul s2.d,fun _=>?_,fun z=>absurd z IZ⟩;rw[Sw.Hg];exact k
inductive Ce(vs:List V)(H:Hp)(Q:VK)(E:XK):Prop|mk (p q a b z:_) (h1:vs=[.ref p,.ref q]) (h2:H p=some (.tup (fq a))) (h3:H q=some (.tup (fq b))) (h4:z<=2400) (h5:Sw.eY z a) (h6:Sw.eY z b) (h7:∀r,H r=none->Q (.ref r) (aH H r (.tup (fq (a*b))))):Ce vs H Q E
include T in
theorem UQ:rM P w K mg base (eW P w) 3 "times" ["one","other"] Ce:=by
 have fc:=GX P w base T;refine T.C7.okN (k:=2) zyo (fun vs H Q E h=>?_) (fun f b9 A outer s H vs Q E hr h=>?_)
 ·obtain⟨p,q,a,b,z,rfl,_⟩:=h;rfl
 ·obtain⟨p,q,a,b,z,rfl,hp,hq,hz,s1,s2,k⟩:=h;refine⟨_,(c8 (gS (ja fc (hr.mono (by decide)) rfl aT (aL (aM rL (bG (jb K rfl) (pv 0) bP (fun _ _=>rfl)) (bG (jb K rfl) (pv 1) bP (fun _ _=>rfl))) (aL (aM rL (bG (jb K rfl) (pv 0) bP (fun _ _=>rfl)) (bG (jb K rfl) (pv 1) bP (fun _ _=>rfl))) bB))))),?_⟩;show iN _ _ [some (.ref p),some (.ref q)] H;have IZ:=pq (Sw.eT a) (Sw.eT b);walk_at"rd";refine jc (.of hp) rfl (jc (.of hq) rfl ?_);walk_at"rd";refine⟨⟨s1.n.mono (by omega),s2.n.mono (by omega)⟩,jc (.of hp) rfl (jc (.of hq) rfl ?_)⟩;walk_at"rd";refine⟨⟨s1.d.mono (by omega),s2.d.mono (by omega)⟩,_,_,z+z,rfl,by omega,s1.d.mul s2.d,fun _=>?_,fun z=>absurd z IZ⟩;rw[Sw.Hv];exact k
inductive Cg(vs:List V)(H:Hp)(Q:VK)(E:XK):Prop|mk (p q a b:_) (h1:vs=[.ref p,.ref q]) (h2:H p=some (.tup (fq a))) (h3:H q=some (.tup (fq b))) (h4:Sw.eY 5000 a) (h5:Sw.eY 5000 b) (h6:Q (.bl (decide (a<b))) H):Cg vs H Q E
include T in
theorem zxe:rM P w K mg base (eW P w) 1 "under" ["one","other"] Cg:=by
 refine T.C8.okN (k:=0) zyp (fun vs H Q E h=>?_) (fun f b9 A outer s H vs Q E hr h=>?_)
 ·obtain⟨p,q,a,b,rfl,_⟩:=h;rfl
 ·obtain⟨p,q,a,b,rfl,hp,hq,s1,s2,k⟩:=h;refine⟨_,(c8 (gS (GW qU (aM rL (bG (jb K rfl) (pv 0) bP (fun _ _=>rfl)) (bG (jb K rfl) (pv 1) bP (fun _ _=>rfl))) (aM rL (bG (jb K rfl) (pv 1) bP (fun _ _=>rfl)) (bG (jb K rfl) (pv 0) bP (fun _ _=>rfl))) (jL _)))),?_⟩;show iN _ _ [some (.ref p),some (.ref q)] H;walk_at"rd";refine jc (.of hp) rfl (jc (.of hq) rfl ?_);walk_at"rd";refine⟨⟨s1.n,s2.d⟩,jc (.of hq) rfl (jc (.of hp) rfl ?_)⟩;walk_at"rd";refine⟨⟨s2.n,s1.d⟩,?_⟩;rw[show decide (a.num*(b.den:Int)<b.num*(a.den:Int))=decide (a<b)from decide_eq_decide.mpr Sw.Mp];exact k
inductive wV(vs:List V)(H:Hp)(Q:VK)(E:XK):Prop|mk (p q a b:_) (h1:vs=[.ref p,.ref q]) (h2:H p=some (.tup (fq a))) (h3:H q=some (.tup (fq b))) (h4:Sw.eY 5000 a) (h5:Sw.eY 5000 b) (h6:∀r,H r=none->Q (.ref r) (aH H r (.tup (fq (max a b))))):wV vs H Q E
include T in
theorem UA:rM P w K mg base (eW P w) 2 "greater" ["one","other"] wV:=by
 have xA:=zxe P w base T;refine T.z6.okN (k:=1) u7 (fun vs H Q E h=>?_) (fun f b9 A outer s H vs Q E hr h=>?_)
 ·obtain⟨p,q,a,b,rfl,_⟩:=h;rfl
 ·obtain⟨p,q,a,b,rfl,hp,hq,s1,s2,k⟩:=h;refine⟨_,(bS (gA (i:=2) u7.nd rfl (zxn (DC (ja xA (hr.mono (by decide)) rfl aT (aL (pv 0) (aL (pv 1) bB)))) (pv 1) (pv 0))) (c8 (gS (wA (aL (bG (jb K rfl) (pv 2) bP (fun _ _=>rfl)) (aL (bG (jb K rfl) (pv 2) bP (fun _ _=>rfl)) bB)))))),?_⟩;show dG _ _ _ [some (.ref p),some (.ref q),none] H;refine bM fun R hR=>?_;have key:∀x c,H x=some (.tup (fq c))->c=max a b->R [some (.ref p),some (.ref q),some (.ref x)] H:=fun x c hx e=>by refine hR _ _ ?_;walk_at"rd";subst e;exact jc (.of hx) rfl (jc (.of hx) rfl k)
  walk_at"rd";refine⟨p,q,a,b,rfl,hp,hq,s1,s2,?_⟩;walk_at"rd";exact fX (fun h=>key q b hq (by rw[gI];grind)) fun h=>key p a hp (by rw[gI];grind)
abbrev Rs(c:Addr)(H:Hp)(E:XK):Prop:=∀e,H e=none->E (.ref e) none (aH H e (j2 e c none false))
theorem g9{c:Addr}{H:Hp}{E:XK}(kx:Rs c H E)(xc:XC K c):∀e,H e=none->∃x x1,aH H e (j2 e c none true) e=some (j2 e x x1 true)/\XC K x/\E (.ref e) x1 (aH (aH H e (j2 e c none true)) e (j2 e x x1 false)):=fun e he=>⟨c,none,bR,xc,by rw[EZ];exact kx e he⟩
def MD(cS:Addr):Sp:=fun vs H Q E=>∃s,vs=[.int s]/\(1<=s/\s<=1000000->Q .b7 H)/\(¬(1<=s/\s<=1000000)->Rs cS H E)
include T in
theorem Uq:rM P w K mg base (eW P w) 1 "check_share" ["share"] (MD cJ):=by
 refine T.t7.pB (k:=0) zmd (fun vs H Q E h=>?_) (fun f b9 A outer s H vs Q E hr h=>?_)
 ·obtain⟨s,rfl,_⟩:=h;rfl
 ·obtain⟨s,rfl,k,kx⟩:=h;refine⟨_,(c8 (dW (Df (UC qT qT bP (pv 0) (OX rfl T.qP))) (c8 (yJ K rfl rfl yK (yL T.AK T.AW rfl T.AY (aL kY bB)))) kX)),?_⟩;show rh _ _ _ _ [some (.int s)] H;walk_at"rd";refine fX (fun c1=>fX (fun c2=>k ⟨c1,c2⟩) fun c2=>?_) fun c1=>?_
  ·exact g9 (kx fun z=>c2 z.2) T.vt
  ·exact g9 (kx fun z=>c1 z.1) T.vt
def RV(C:Addr):Sp:=fun vs H Q _=>∃x dx,vs=[.ref x]/\H x=some (.ins C dx [])/\∀gy H',vv x H H'->H gy=none->Mb C H' x gy []->Q .b7 H'
include T in
theorem Y6:FW P w K mg base (eW P w) 1 cD ["self"] [[]] (RV cD):=by
 refine T.AV.okN (k:=0) zlf (fun vs H Q E h=>?_) (fun f b9 A outer s H vs Q E hr h=>?_)
 ·obtain⟨x,dx,rfl,_⟩:=h;rfl
 ·obtain⟨x,dx,rfl,hx,k⟩:=h;refine⟨_,(c8 (pI (pv 0) KI rfl)),?_⟩;show(_:TS) _ [some (.ref x)] H;walk_at"rd";intro gy zu;have nx:gy≠x:=fun z=>by rw[z,hx]at zu;cases zu
  have sn:=fZ (o:=.dK []) zu;refine pJ (sn _ _ hx) T.bD T.dZ (by simp) ?_;refine k gy _ (fun b o n e=>?_) zu ⟨⟨dx,aE "shares" (.ref gy) [],bR,?_,fun m hm=>?_,?_⟩,?_⟩
  ·rw[dj n];exact sn _ _ e
  ·rw[KC,if_pos rfl]
  ·rw[KC,if_neg hm];rfl
  ·have:=ki (fs:=[]) (f:="shares") (v:=.ref gy);simp only[bU]at this;omega
  ·rw[dj nx];exact bR
inductive ME(cC C:Addr)(vs:List V)(H:Hp)(Q:VK)(E:XK):Prop|mk (p gy nm x:_) (h1:vs=[.ref p,.str x]) (h2:Mb C H p gy nm) (h3:(aP nm x≠none->Q .b7 H)) (h4:(aP nm x=none->Rs cC H E)):ME cC C vs H Q E
include T in
theorem Nk:bN P w K mg base (eW P w) 1 cD "check_name" ["self","name"] [[]] (ME cF cD):=by
 refine T.mZ.pB (k:=0) zfg (fun vs H Q E h=>?_) (fun f b9 A outer s H vs Q E hr h=>?_)
 ·obtain⟨p,gy,nm,x,rfl,_⟩:=h;rfl
 ·obtain⟨p,gy,nm,x,rfl,M,k,kx⟩:=h;refine⟨_,(c8 (dW (J5 (Ux (bY hr) (pv 1) (eK (pv 0) rfl))) (c8 (yJ K rfl rfl yK (yL T.pQ T.pS rfl T.mJ (aL kY bB)))) kX)),?_⟩;show rh _ _ _ _ [some (.ref p),some (.str x)] H;obtain⟨dx,fs,hp,hf,jU,fK⟩:=M.ex;walk_at"rd";refine eG hp T.bD T.dZ hf ?_;walk_at"rd";refine⟨_,ia.k (k:=az x) M.hs,?_⟩;rw[Fw];cases e:aP nm x with
  |none=>exact g9 (kx e) T.kN
  |some v=>exact k (by rw[e];simp)
inductive EA(cT cS C:Addr)(vs:List V)(H:Hp)(Q:VK)(E:XK):Prop|mk (p gy nm x s:_) (h1:vs=[.ref p,.str x,.int s]) (h2:Mb C H p gy nm) (h3:nm.length<900) (h4:(aP nm x≠none->Rs cT H E)) (h5:(aP nm x=none->¬(1<=s/\s<=1000000)->Rs cS H E)) (h6:(aP nm x=none->1<=s/\s<=1000000->Q .b7 (aH H gy (.dK (kvsOf (nm++[(x,s)])))))):EA cT cS C vs H Q E
include T in
theorem XA:bN P w K mg base (eW P w) 2 cD "put" ["self","name","share"] [[]] (EA cV cJ cD):=by
 have ig:=Uq P w base T;refine T.uL.pB (k:=1) zme (fun vs H Q E h=>?_) (fun f b9 A outer s H vs Q E hr h=>?_)
 ·obtain⟨p,gy,nm,x,s,rfl,_⟩:=h;rfl
 ·obtain⟨p,gy,nm,x,s,rfl,M,hn,kt,ks,k⟩:=h;refine⟨_,(bS (dW (J5 (Po (bY hr) (pv 1) (eK (pv 0) rfl))) (c8 (yJ K rfl rfl yK (yL T.zf T.zA rfl T.zI (aL kY bB)))) kX) (bS (j6 (ja ig (hr.mono (by decide)) rfl bL (aL (pv 2) bB))) (c8 (Ao (bY hr) (eK (pv 0) rfl) (pv 1) (pv 2) rfl)))),?_⟩;show dG _ _ _ [some (.ref p),some (.str x),some (.int s)] H;obtain⟨dx,fs,hp,hf,jU,fK⟩:=M.ex;walk_at"s";refine eG hp T.bD T.dZ hf ?_;walk_at"rd";refine⟨_,ia.k (k:=az x) M.hs,?_⟩;rw[Fw];cases hx:aP nm x with
  |some v=>exact g9 (kt (by rw[hx];simp)) T.Ad
  |none=>
   refine hR _ _ ?_;walk_at"s";refine⟨s,rfl,fun c=>hR _ _ ?_,fun c=>ks hx c⟩;walk_at"rd";refine eG hp T.bD T.dZ hf ?_;walk_at"rd";refine⟨_,lB.k (k:=az x) M.hs (eX (by rw[JY];omega)),?_⟩;rw[Zq hx];exact k hx c
inductive B4(cC cS C:Addr)(vs:List V)(H:Hp)(Q:VK)(E:XK):Prop|mk (p gy nm x s:_) (h1:vs=[.ref p,.str x,.int s]) (h2:Mb C H p gy nm) (h3:nm.length<900) (h4:(aP nm x=none->Rs cC H E)) (h5:(aP nm x≠none->¬(1<=s/\s<=1000000)->Rs cS H E)) (h6:(aP nm x≠none->1<=s/\s<=1000000->Q .b7 (aH H gy (.dK (kvsOf (putN nm x s)))))):B4 cC cS C vs H Q E
include T in
theorem WS:bN P w K mg base (eW P w) 2 cD "reshare" ["self","name","share"] [[]] (B4 cF cJ cD):=by
 have ig:=Uq P w base T;have bT:=Nk P w base T;refine T.pT.pB (k:=1) zht (fun vs H Q E h=>?_) (fun f b9 A outer s H vs Q E hr h=>?_)
 ·obtain⟨p,gy,nm,x,s,rfl,_⟩:=h;rfl
 ·obtain⟨p,gy,nm,x,s,rfl,M,hn,kc,ks,k⟩:=h;refine⟨_,(bS (j6 (gh (cu:=[]) bT (by simp) T.bD (hr.mono (by decide)) bL (pv 0) (aL (pv 1) bB))) (bS (j6 (ja ig (hr.mono (by decide)) rfl bL (aL (pv 2) bB))) (c8 (Ao (bY hr) (eK (pv 0) rfl) (pv 1) (pv 2) rfl)))),?_⟩;show dG _ _ _ [some (.ref p),some (.str x),some (.int s)] H;obtain⟨dx,fs,hp,hf,jU,fK⟩:=M.ex;walk_at"s";refine gq hp (jU _ (by decide+kernel)) ⟨p,gy,nm,x,rfl,M,fun hx=>hR _ _ ?_,kc⟩;walk_at"s";refine⟨s,rfl,fun c=>hR _ _ ?_,fun c=>ks hx c⟩;walk_at"rd";refine eG hp T.bD T.dZ hf ?_;walk_at"rd";refine⟨_,lB.k (k:=az x) M.hs (eX (by rw[JY];omega)),?_⟩;rw[Nu hx];exact k hx c
def rJ(nm:Nm):List V:=nm.map fun x=>.str x.1
inductive zW(C:Addr)(vs:List V)(H:Hp)(Q:VK)(E:XK):Prop|mk (p gy nm:_) (h1:vs=[.ref p]) (h2:Mb C H p gy nm) (h3:∀l,H l=none->Q (.ref l) (aH H l (.lst (rJ nm)))):zW C vs H Q E
include T in
theorem W7:bN P w K mg base (eW P w) 1 cD "names" ["self"] [[]] (zW cD):=by
 refine T.rY.okN (k:=0) zjv (fun vs H Q E h=>?_) (fun f b9 A outer s H vs Q E hr h=>?_)
 ·obtain⟨p,gy,nm,rfl,_⟩:=h;rfl
 ·obtain⟨p,gy,nm,rfl,M,k⟩:=h;refine⟨_,(c8 (gS (YB (Yk rfl) rfl T.BK boot_list (aL (eK (pv 0) rfl) bB)))),?_⟩;show iN _ _ [some (.ref p)] H;obtain⟨dx,fs,hp,hf,jU,fK⟩:=M.ex;walk_at"rd";refine eG hp T.bD T.dZ hf ?_;refine⟨gy,_,rfl,M.hs,fun l hl=>?_⟩;have e:(kvsOf nm).map (fun kv=>kV kv.1)=rJ nm:=by unfold L2.kvsOf rJ;rw[bg];rfl
  rw[e];exact k l hl
inductive HP(cC C:Addr)(vs:List V)(H:Hp)(Q:VK)(E:XK):Prop|mk (p gy nm x:_) (h1:vs=[.ref p,.str x]) (h2:Mb C H p gy nm) (h3:(aP nm x=none->Rs cC H E)) (h4:∀s,aP nm x=some s->Q (.int s) H):HP cC C vs H Q E
include T in
theorem Ui:bN P w K mg base (eW P w) 2 cD "share_of" ["self","name"] [[]] (HP cF cD):=by
 have bT:=Nk P w base T;refine T.oU.pB (k:=1) zgw (fun vs H Q E h=>?_) (fun f b9 A outer s H vs Q E hr h=>?_)
 ·obtain⟨p,gy,nm,x,rfl,_⟩:=h;rfl
 ·obtain⟨p,gy,nm,x,rfl,M,kx,k⟩:=h;refine⟨_,(bS (j6 (gh (cu:=[]) bT (by simp) T.bD (hr.mono (by decide)) bL (pv 0) (aL (pv 1) bB))) (c8 (gS (o8 (bY hr) (eK (pv 0) rfl) (pv 1) (fun _ _=>rfl))))),?_⟩;show dG _ _ _ [some (.ref p),some (.str x)] H;obtain⟨dx,fs,hp,hf,jU,fK⟩:=M.ex;walk_at"s";refine gq hp (jU _ (by decide+kernel)) ⟨p,gy,nm,x,rfl,M,fun hx=>hR _ _ ?_,kx⟩;cases e:aP nm x with
  |none=>exact absurd e hx
  |some s=>
   walk_at"rd";refine eG hp T.bD T.dZ hf ?_;walk_at"rd";have hg:=ia.k (k:=az x) M.hs;rw[Fw,e]at hg;exact⟨.int s,hg,k s e⟩
def bu(nm:Nm):Int:=(nm.map (·.2)).sum
inductive Ez(C:Addr)(vs:List V)(H:Hp)(Q:VK)(E:XK):Prop|mk (p gy nm:_) (h1:vs=[.ref p]) (h2:Mb C H p gy nm) (h3:Q (.int (bu nm)) H):Ez C vs H Q E
include T in
theorem Ug:bN P w K mg base (eW P w) 1 cD "all_shares" ["self"] [[]] (Ez cD):=by
 refine T.mY.okN (k:=0) zfi (fun vs H Q E h=>?_) (fun f b9 A outer s H vs Q E hr h=>?_)
 ·obtain⟨p,gy,nm,rfl,_⟩:=h;rfl
 ·obtain⟨p,gy,nm,rfl,M,k⟩:=h;refine⟨_,(c8 (gS (Sy rfl (eK (pv 0) rfl) rfl T.su))),?_⟩;show iN _ _ [some (.ref p)] H;obtain⟨dx,fs,hp,hf,jU,fK⟩:=M.ex;walk_at"rd";unfold Ia;walk_at"rd";refine eG hp T.bD T.dZ hf ?_;exact⟨gy,rfl,kvsOf nm,M.hs,(nm.map fun y:Str×Int=>y.2:List Int),by unfold L2.kvsOf;rw[bg,bg];rfl,k⟩
inductive B3(cC C:Addr)(vs:List V)(H:Hp)(Q:VK)(E:XK):Prop|mk (p gy nm x:_) (h1:vs=[.ref p,.str x]) (h2:Mb C H p gy nm) (h3:(aP nm x=none->Rs cC H E)) (h4:∀s,aP nm x=some s->0<bu nm/\bu nm<1000000000000/\∀q,H q=none->Q (.ref q) (aH H q (.tup (fq ((s:Rat) / (bu nm:Rat)))))):B3 cC C vs H Q E
include T in
theorem Xi:bN P w K mg base (eW P w) 3 cD "part" ["self","name"] [[]] (B3 cF cD):=by
 have fG:=Ui P w base T;have eO:=Ug P w base T;have fc:=GX P w base T;refine T.tQ.pB (k:=2) zlg (fun vs H Q E h=>?_) (fun f b9 A outer s H vs Q E hr h=>?_)
 ·obtain⟨p,gy,nm,x,rfl,_⟩:=h;rfl
 ·obtain⟨p,gy,nm,x,rfl,M,kx,k⟩:=h;refine⟨_,(c8 (gS (ja fc (hr.mono (by decide)) rfl bL (aL (gh (cu:=[]) fG (by simp) T.bD (hr.mono (by decide)) bL (pv 0) (aL (pv 1) bB)) (aL (xm (cu:=[]) eO (by simp) T.bD (hr.mono (by decide)) bL (pv 0)) bB))))),?_⟩;show iN _ _ [some (.ref p),some (.str x)] H;obtain⟨dx,fs,hp,hf,jU,fK⟩:=M.ex;walk_at"rd";refine gq hp (jU _ (by decide+kernel)) ⟨p,gy,nm,x,rfl,M,kx,fun s hs=>?_⟩;obtain⟨a0,a1,k⟩:=k s hs;refine gq hp (jU _ (by decide+kernel)) ⟨p,gy,nm,rfl,M,?_⟩;exact⟨s,bu nm,70,rfl,by decide,Sw.Sz.jI (by omega) (by omega),fun _ q hq=>k q hq,fun z=>by omega⟩
inductive MX(C Cm:Addr)(vs:List V)(H:Hp)(Q:VK)(E:XK):Prop|mk (x dx most:_) (h1:vs=[.ref x,.int most]) (h2:H x=some (.ins C dx [])) (h3:∀pm gy H',vv x H H'->H pm=none->H gy=none->pm≠x->H' x=some (.ins C dx (aE "chosen" .b7 (aE "members" (.ref pm) (aE "most" (.int most) []))))->Mb Cm H' pm gy []->Q .b7 H'):MX C Cm vs H Q E
include T in
theorem zhb:NU P w K mg base (eW P w) 3 cA "__init__" ["self","most"] (MX cU cD):=by
 have rR:=Y6 P w base T;refine T.nX.okN (k:=2) zga (fun vs H Q E h=>?_) (fun f b9 A outer s H vs Q E hr h=>?_)
 ·obtain⟨x,dx,most,rfl,_⟩:=h;rfl
 ·obtain⟨x,dx,most,rfl,hx,k⟩:=h;refine⟨_,(bS (pI (pv 0) (pv 1) rfl) (bS (pI (pv 0) (YL (cu:=[]) rR (by simp) (hr.mono (by decide)) aT rfl T.uX) rfl) (c8 (pI (pv 0) vC rfl)))),?_⟩;show dG _ _ _ [some (.ref x),some (.int most)] H;have l1:=ki (fs:=[]) (f:="most") (v:=.int most);simp only[bU]at l1;walk_at"s";refine pJ hx T.aN T.kK (by simp) (hR _ _ ?_);walk_at"s";intro pm dm kG Lu _;have nx:pm≠x:=fun z=>by rw[z,bR]at kG;cases kG
  have Jq:H pm=none:=by rw[dj nx]at kG;exact kG
  refine⟨pm,dm,rfl,bR,fun gy H1 bt zu M=>⟨rfl,?_⟩⟩;have s1:=bt.same (EY kG Lu) kG;have zw:=s1 _ _ bR;have l2:=ki (fs:=aE "most" (.int most) []) (f:="members") (v:=.ref pm);have xT:aH H x (.ins cU dx (aE "most" (.int most) [])) gy=none:=(EY kG Lu).free zu;have Dw:gy≠x:=fun z=>by rw[z,bR]at xT;cases xT
  have uY:H gy=none:=by rw[dj Dw]at xT;exact xT
  refine pJ zw T.aN T.dD (by omega) (hR _ _ ?_);walk_at"rd";refine pJ bR T.aN T.gW (by omega) ?_;rw[EZ];refine k pm gy _ (fun b o n e=>?_) Jq uY nx bR ?_
  ·rw[dj n];exact s1 _ _ (by rw[dj n];exact e)
  ·obtain⟨d2,f2,g1,g2⟩:=M.ex;exact⟨⟨d2,f2,by rw[dj nx];exact g1,g2⟩,by rw[dj Dw];exact M.hs⟩
inductive MQ(C Cm:Addr)(vs:List V)(H:Hp)(Q:VK)(E:XK):Prop|mk (x dx most:_) (h1:vs=[.ref x,.int most]) (h2:H x=some (.ins C dx [])) (h3:∀(a:lz) H',a.p=x->vv x H H'->H a.pm=none->H a.ps=none->H a.pt=none->H a.pg=none->Sx C Cm H' a most [] (fun _=>none) (fun _=>none) 0 .b7 0->Q .b7 H'):MQ C Cm vs H Q E
include T in
theorem zyq:FW P w K mg base (eW P w) 4 cU ["self","most"] [[]] (MQ cU cD):=by
 have oN:=zhb P w base T;have fc:=GX P w base T;refine T.CL.okN (k:=3) zmf (fun vs H Q E h=>?_) (fun f b9 A outer s H vs Q E hr h=>?_)
 ·obtain⟨x,dx,most,rfl,_⟩:=h;rfl
 ·obtain⟨x,dx,most,rfl,hx,k⟩:=h;refine⟨_,(bS (j6 (ZZ oN (hr.mono (by decide)) aT rfl T.uV (aL (pv 0) (aL (pv 1) bB)))) (bS (pI (pv 0) (ja fc (hr.mono (by decide)) rfl aT (aL bP (aL bP bB))) rfl) (bS (pI (pv 0) KI rfl) (c8 (pI (pv 0) KI rfl))))),?_⟩;show dG _ _ _ [some (.ref x),some (.int most)] H;refine bM fun R hR=>?_;walk_at"rdc";refine⟨x,dx,most,rfl,hx,fun pm gy H1 bt Jq uY nx zw M=>hR _ _ ?_⟩;have l1:=ki (fs:=[]) (f:="most") (v:=.int most);have l2:=ki (fs:=aE "most" (.int most) []) (f:="members") (v:=.ref pm);have l3:=ki (fs:=aE "members" (.ref pm) (aE "most" (.int most) [])) (f:="chosen") (v:=.b7);simp only[bU]at l1;walk_at"s";refine⟨0,1,1,rfl,by decide,Sw.Sz.one _,fun _ pr VR=>?_,fun z=>absurd z (by decide)⟩;have e0:((0:Int):Rat) / ((1:Int):Rat)=0:=by have z0:((0:Int):Rat)=0:=rfl;rw[z0];grind
  rw[e0];have s1:=fZ (o:=.tup (fq 0)) VR;have xW:aH H1 pr (.tup (fq 0)) pr=some (.tup (fq 0)):=bR;have zw:=s1 _ _ zw;have M:=M.same s1;have bt:=bt.trans s1.but;generalize aH H1 pr (.tup (fq 0))=H2 at s1 xW zw M bt⊢;clear s1 VR;walk_at"rd";refine pJ zw T.aN T.gK (by omega) (hR _ _ ?_);generalize VC:aE "reached" (.ref pr) (aE "chosen" .b7 (aE "members" (.ref pm) (aE "most" (.int most) [])))=AL;have l4:AL.length<=4:=by have:=ki (fs:=aE "chosen" .b7 (aE "members" (.ref pm) (aE "most" (.int most) []))) (f:="reached") (v:=.ref pr);rw[VC]at this;omega
  have Oi:aH H2 x (.ins cU dx AL) x=some (.ins cU dx AL):=bR;have bt:vv x H (aH H2 x (.ins cU dx AL)):=bt.trans KP;have Dw:gy≠x:=fun z=>by rw[z,hx]at uY;cases uY
  have Rp:pr≠x:=cj xW zw (by intro z;cases z);have xW:aH H2 x (.ins cU dx AL) pr=some (.tup (fq 0)):=by rw[dj Rp];exact xW
  have M:Mb cD (aH H2 x (.ins cU dx AL)) pm gy []:=by obtain⟨d2,f2,g1,g2⟩:=M.ex;exact⟨⟨d2,f2,by rw[dj nx];exact g1,g2⟩,by rw[dj Dw];exact M.hs⟩
  generalize aH H2 x (.ins cU dx AL)=H3 at Oi bt xW M⊢;walk_at"s";intro pt tP;have Js:pt≠x:=fun z=>by rw[z,Oi]at tP;cases tP
  have s3:=fZ (o:=.dK []) tP;have vU:aH H3 pt (.dK []) pt=some (.dK []):=bR;have nts:=kW M.hs tP;refine pJ (s3 _ _ Oi) T.aN T.iT (by omega) (hR _ _ ?_);have free:∀{H':Hp}{b:Addr},vv x H H'->b≠x->H' b=none->H b=none:=fun{H' b} bt n e=>by
   cases q:H b with
   |none=>rfl
   |some o=>
    have:=bt _ _ n q;rw[e]at this;cases this
  have Ro:=free bt Js tP;have l5:=ki (fs:=AL) (f:="tags") (v:=.ref pt);have jD:∀{H':Hp}{fs:List (Str×V)}{b:Addr}{o:HO},b≠x->H' b=some o->aH H' x (.ins cU dx fs) b=some o:=fun n e=>by rw[dj n];exact e
  have bt:vv x H (aH (aH H3 pt (.dK [])) x (.ins cU dx (aE "tags" (.ref pt) AL))):=(bt.trans s3.but).trans KP;have xW:=jD (fs:=aE "tags" (.ref pt) AL) Rp (s3 _ _ xW);have vU:=jD (fs:=aE "tags" (.ref pt) AL) Js vU;have M:Mb cD (aH (aH H3 pt (.dK [])) x (.ins cU dx (aE "tags" (.ref pt) AL))) pm gy []:=by obtain⟨d2,f2,g1,g2⟩:=(M.same s3).ex;exact⟨⟨d2,f2,jD nx g1,g2⟩,jD Dw (s3 _ _ M.hs)⟩
  have Jf:aH (aH H3 pt (.dK [])) x (.ins cU dx (aE "tags" (.ref pt) AL)) x=some (.ins cU dx (aE "tags" (.ref pt) AL)):=bR;generalize aH (aH H3 pt (.dK [])) x (.ins cU dx (aE "tags" (.ref pt) AL))=H4 at bt xW vU M Jf⊢;clear s3 tP Oi;walk_at"rd";intro pg qq;have LY:pg≠x:=fun z=>by rw[z,Jf]at qq;cases qq
  have s5:=fZ (o:=.dK []) qq;have ngt:=kW vU qq;have Ri:=kW M.hs qq;refine pJ (s5 _ _ Jf) T.aN T.ee (by omega) ?_;have Rn:=free bt LY qq;refine k ⟨x,pm,gy,pt,pg⟩ _ rfl ((bt.trans s5.but).trans KP) Jq uY Ro Rn ⟨⟨dx,_,pr,bR,?_,jD Rp (s5 _ _ xW)⟩,?_,⟨[],jD Js (s5 _ _ vU),fun y=>.inl ⟨rfl,rfl⟩,aq _⟩,⟨[],jD LY bR,fun y=>.inl ⟨rfl,rfl⟩,aq _⟩,aq _,ngt,nts.symm,Ri.symm,nx.symm⟩
  ·rw[<-VC];exact FS.Jk _ _ _ _ _ _
  ·obtain⟨d2,f2,g1,g2⟩:=(M.same s5).ex;exact⟨⟨d2,f2,jD nx g1,g2⟩,jD Dw (s5 _ _ M.hs)⟩
inductive B5(C Cm:Addr)(vs:List V)(H:Hp)(Q:VK)(E:XK):Prop|mk (a most nm tg gs ck ch N:_) (h1:vs=[.ref a.p]) (h2:Sx C Cm H a most nm tg gs ck ch N) (h3:∀l,H l=none->Q (.ref l) (aH H l (.lst (rJ nm)))):B5 C Cm vs H Q E
include T in
theorem Ul:bN P w K mg base (eW P w) 2 cU "names" ["self"] [[]] (B5 cU cD):=by
 have jM:=W7 P w base T;refine T.tU.okN (k:=1) zli (fun vs H Q E h=>?_) (fun f b9 A outer s H vs Q E hr h=>?_)
 ·obtain⟨a,most,nm,tg,gs,ck,ch,N,rfl,_⟩:=h;rfl
 ·obtain⟨a,most,nm,tg,gs,ck,ch,N,rfl,S,k⟩:=h;refine⟨_,(c8 (gS (xm (cu:=[]) jM (by simp) T.bD (hr.mono (by decide)) aT (eK (pv 0) rfl)))),?_⟩;show iN _ _ [some (.ref a.p)] H;obtain⟨dx,fs,pr,hp,ft,jV⟩:=S.ex;obtain⟨dm,fm,kG,BD,jU,fK⟩:=S.mb.ex;walk_at"rd";refine eG hp T.aN T.dD ft.me ?_;exact gq kG (jU _ (by decide+kernel)) ⟨a.pm,a.ps,nm,rfl,S.mb,k⟩
def MI(C:Addr):Sp:=fun vs H Q _=>∃p x,vs=[.ref p,.str x]/\Q .b7 H
include T in
theorem zls:bN P w K mg base (eW P w) 1 cU "fit_in" ["self","name"] [[]] (MI cU):=by
 refine T.sj.okN (k:=0) zjw (fun vs H Q E h=>?_) (fun f b9 A outer s H vs Q E hr h=>?_)
 ·obtain⟨p,x,rfl,_⟩:=h;rfl
 ·obtain⟨p,x,rfl,k⟩:=h;refine⟨_,(c8 zzz),?_⟩;show(_:TS) _ [some (.ref p),some (.str x)] H;walk_at"rd";exact k
inductive BX(C Cm:Addr)(vs:List V)(H:Hp)(Q:VK)(E:XK):Prop|mk (a most nm tg gs ck ch N x:_) (h1:vs=[.ref a.p,.str x]) (h2:Sx C Cm H a most nm tg gs ck ch N) (h3:N<900) (h4:∀H',lS a H H'->Sx C Cm H' a most nm (gY tg x 0) (gY gs x 0) ck ch (N+2)->Q .b7 H'):BX C Cm vs H Q E
include T in
theorem zmn:bN P w K mg base (eW P w) 3 cU "enter" ["self","name"] [[]] (BX cU cD):=by
 have fc:=GX P w base T;refine T.tT.okN (k:=2) zlh (fun vs H Q E h=>?_) (fun f b9 A outer s H vs Q E hr h=>?_)
 ·obtain⟨a,most,nm,tg,gs,ck,ch,N,x,rfl,_⟩:=h;rfl
 ·obtain⟨a,most,nm,tg,gs,ck,ch,N,x,rfl,S,hN,k⟩:=h;refine⟨_,(bS (Ao (bY hr) (eK (pv 0) rfl) (pv 1) (ja fc (hr.mono (by decide)) rfl aT (aL bP (aL bP bB))) rfl) (c8 (Ao (bY hr) (eK (pv 0) rfl) (pv 1) (ja fc (hr.mono (by decide)) rfl aT (aL bP (aL bP bB))) rfl))),?_⟩;show dG _ _ _ [some (.ref a.p),some (.str x)] H;walk_at"s";refine⟨0,1,1,rfl,by decide,Sw.Sz.one _,fun _ q hq=>?_,fun z=>absurd z (by decide)⟩;rw[HD];have sn:=fZ (o:=.tup (fq 0)) hq;have zv:aH H q (.tup (fq 0)) q=some (.tup (fq 0)):=bR;have S:=S.same sn;generalize aH H q (.tup (fq 0))=H1 at sn zv S⊢;obtain⟨dx,fs,pr,hp,ft,jV⟩:=S.ex;obtain⟨kvs,tP,hv,Ht⟩:=S.dt.ex;walk_at"rd";refine eG hp T.aN T.iT ft.ta ?_;walk_at"rd";refine⟨_,lB.k (k:=az x) tP (eX (by omega)),hR _ _ ?_⟩;have Em:=JX kvs (az x:Key) (.ref q);have S:=S.HH (iq N) (mG.put (x:=x) (r:=0) tP hv (by omega) zv);have ow:lS a H _:=sn.own.trans (zP (a:=a) (H:=H1) (o:=.dK (gu kvs (az x) (.ref q))));generalize aH H1 a.pt (.dK (gu kvs (az x) (.ref q)))=H2 at S ow⊢;clear sn zv hp ft jV tP hv Ht Em hq;walk_at"rd";refine⟨0,1,1,rfl,by decide,Sw.Sz.one _,fun _ q hq=>?_,fun z=>absurd z (by decide)⟩;rw[HD];have sn:=fZ (o:=.tup (fq 0)) hq;have zv:aH H2 q (.tup (fq 0)) q=some (.tup (fq 0)):=bR;have S:=S.same sn;generalize aH H2 q (.tup (fq 0))=H3 at sn zv S⊢;obtain⟨dx,fs,pr,hp,ft,jV⟩:=S.ex;obtain⟨kvs,qq,hv,Ht⟩:=S.dg.ex;walk_at"rd";refine eG hp T.aN T.ee ft.gr ?_;walk_at"rd";refine⟨_,lB.k (k:=az x) qq (eX (by omega)),?_⟩;have Em:=JX kvs (az x:Key) (.ref q);exact k _ ((ow.trans sn.own).trans u4) (S.HG (iq (N+1)) (mG.put (x:=x) (r:=0) qq hv (by omega) zv))
inductive HQ(cT cS C Cm:Addr)(vs:List V)(H:Hp)(Q:VK)(E:XK):Prop|mk (a most nm tg gs ck ch N x s:_) (h1:vs=[.ref a.p,.str x,.int s]) (h2:Sx C Cm H a most nm tg gs ck ch N) (h3:N<890) (h4:(aP nm x≠none->Rs cT H E)) (h5:(aP nm x=none->¬(1<=s/\s<=1000000)->Rs cS H E)) (h6:(aP nm x=none->1<=s/\s<=1000000->∀H',lS a H H'->Sx C Cm H' a most (nm++[(x,s)]) (gY tg x 0) (gY gs x 0) ck ch (N+3)->Q .b7 H')):HQ cT cS C Cm vs H Q E
include T in
theorem zqk:bN P w K mg base (eW P w) 4 cU "put" ["self","name","share"] [[]] (HQ cV cJ cU cD):=by
 have lD:=XA P w base T;have uy:=zmn P w base T;refine T.wd.pB (k:=3) zny (fun vs H Q E h=>?_) (fun f b9 A outer s H vs Q E hr h=>?_)
 ·obtain⟨a,most,nm,tg,gs,ck,ch,N,x,s,rfl,_⟩:=h;rfl
 ·obtain⟨a,most,nm,tg,gs,ck,ch,N,x,s,rfl,S,hN,kt,ks,k⟩:=h;refine⟨_,(bS (j6 (gh (cu:=[]) lD (by simp) T.bD (hr.mono (by decide)) bL (eK (pv 0) rfl) (aL (pv 1) (aL (pv 2) bB)))) (c8 (j6 (gh (cu:=[]) uy (by simp) T.aN (hr.mono (by decide)) bL (pv 0) (aL (pv 1) bB))))),?_⟩;show dG _ _ _ [some (.ref a.p),some (.str x),some (.int s)] H;obtain⟨dx,fs,pr,hp,ft,jV⟩:=S.ex;obtain⟨dm,fm,kG,BD,jU,fK⟩:=S.mb.ex;have nl:=S.nl;walk_at"s";refine eG hp T.aN T.dD ft.me ?_;refine gq kG (jU _ (by decide+kernel)) ⟨a.pm,a.ps,nm,x,s,rfl,S.mb,by omega,kt,ks,fun hx hs=>hR _ _ ?_⟩;have S:=S.zT (A0:=nm++[(x,s)]) (iq N) (by simp;omega);have ow:lS a H (aH H a.ps (.dK (kvsOf (nm++[(x,s)])))):=BN;generalize aH H a.ps (.dK (kvsOf (nm++[(x,s)])))=H1 at S ow⊢;obtain⟨dx,fs,pr,hp,ft,jV⟩:=S.ex;walk_at"rd";exact gq hp (ft.qv _) ⟨a,most,_,tg,gs,ck,ch,N+1,x,rfl,S,by omega,fun H' o' S'=>k hx hs H' (ow.trans o') S'⟩
inductive EK(cC cS C Cm:Addr)(vs:List V)(H:Hp)(Q:VK)(E:XK):Prop|mk (a most nm tg gs ck ch N x s:_) (h1:vs=[.ref a.p,.str x,.int s]) (h2:Sx C Cm H a most nm tg gs ck ch N) (h3:N<890) (h4:(aP nm x=none->Rs cC H E)) (h5:(aP nm x≠none->¬(1<=s/\s<=1000000)->Rs cS H E)) (h6:(aP nm x≠none->1<=s/\s<=1000000->∀H',lS a H H'->Sx C Cm H' a most (putN nm x s) tg gs ck ch N->Q .b7 H')):EK cC cS C Cm vs H Q E
include T in
theorem zka:bN P w K mg base (eW P w) 3 cU "reshare" ["self","name","share"] [[]] (EK cF cJ cU cD):=by
 have iQ:=WS P w base T;have tJ:=zls P w base T;refine T.qL.pB (k:=2) zix (fun vs H Q E h=>?_) (fun f b9 A outer s H vs Q E hr h=>?_)
 ·obtain⟨a,most,nm,tg,gs,ck,ch,N,x,s,rfl,_⟩:=h;rfl
 ·obtain⟨a,most,nm,tg,gs,ck,ch,N,x,s,rfl,S,hN,kc,ks,k⟩:=h;refine⟨_,(bS (j6 (gh (cu:=[]) iQ (by simp) T.bD (hr.mono (by decide)) bL (eK (pv 0) rfl) (aL (pv 1) (aL (pv 2) bB)))) (c8 (j6 (gh (cu:=[]) tJ (by simp) T.aN (hr.mono (by decide)) bL (pv 0) (aL (pv 1) bB))))),?_⟩;show dG _ _ _ [some (.ref a.p),some (.str x),some (.int s)] H;obtain⟨dx,fs,pr,hp,ft,jV⟩:=S.ex;obtain⟨dm,fm,kG,BD,jU,fK⟩:=S.mb.ex;have nl:=S.nl;walk_at"s";refine eG hp T.aN T.dD ft.me ?_;refine gq kG (jU _ (by decide+kernel)) ⟨a.pm,a.ps,nm,x,s,rfl,S.mb,by omega,kc,ks,fun hx hs=>hR _ _ ?_⟩;have S:=S.zT (A0:=putN nm x s) (aq N) (by unfold putN;rw[ae];exact nl);have ow:lS a H (aH H a.ps (.dK (kvsOf (putN nm x s)))):=BN;generalize aH H a.ps (.dK (kvsOf (putN nm x s)))=H1 at S ow⊢;obtain⟨dx,fs,pr,hp,ft,jV⟩:=S.ex;walk_at"rd";exact gq hp (ft.qv _) ⟨a.p,x,rfl,k hx hs _ ow S⟩
inductive Cd(cC C Cm:Addr)(vs:List V)(H:Hp)(Q:VK)(E:XK):Prop|mk (a most nm tg gs ck ch N x:_) (h1:vs=[.ref a.p,.str x]) (h2:Sx C Cm H a most nm tg gs ck ch N) (h3:(aP nm x=none->Rs cC H E)) (h4:∀s,aP nm x=some s->Q (.int s) H):Cd cC C Cm vs H Q E
include T in
theorem Uj:bN P w K mg base (eW P w) 3 cU "share_of" ["self","name"] [[]] (Cd cF cU cD):=by
 have fG:=Ui P w base T;refine T.pW.pB (k:=2) zhx (fun vs H Q E h=>?_) (fun f b9 A outer s H vs Q E hr h=>?_)
 ·obtain⟨a,most,nm,tg,gs,ck,ch,N,x,rfl,_⟩:=h;rfl
 ·obtain⟨a,most,nm,tg,gs,ck,ch,N,x,rfl,S,kx,k⟩:=h;refine⟨_,(c8 (gS (gh (cu:=[]) fG (by simp) T.bD (hr.mono (by decide)) bL (eK (pv 0) rfl) (aL (pv 1) bB)))),?_⟩;show iN _ _ [some (.ref a.p),some (.str x)] H;obtain⟨dx,fs,pr,hp,ft,jV⟩:=S.ex;obtain⟨dm,fm,kG,BD,jU,fK⟩:=S.mb.ex;walk_at"rd";refine eG hp T.aN T.dD ft.me ?_;exact gq kG (jU _ (by decide+kernel)) ⟨a.pm,a.ps,nm,x,rfl,S.mb,kx,k⟩
inductive EB(cC C Cm:Addr)(vs:List V)(H:Hp)(Q:VK)(E:XK):Prop|mk (a most nm tg gs ck ch N x:_) (h1:vs=[.ref a.p,.str x]) (h2:Sx C Cm H a most nm tg gs ck ch N) (h3:(aP nm x=none->Rs cC H E)) (h4:∀s,aP nm x=some s->0<bu nm/\bu nm<1000000000000/\∀q,H q=none->Q (.ref q) (aH H q (.tup (fq ((s:Rat) / (bu nm:Rat)))))):EB cC C Cm vs H Q E
include T in
theorem XD:bN P w K mg base (eW P w) 4 cU "part" ["self","name"] [[]] (EB cF cU cD):=by
 have ko:=Xi P w base T;refine T.uS.pB (k:=3) zmh (fun vs H Q E h=>?_) (fun f b9 A outer s H vs Q E hr h=>?_)
 ·obtain⟨a,most,nm,tg,gs,ck,ch,N,x,rfl,_⟩:=h;rfl
 ·obtain⟨a,most,nm,tg,gs,ck,ch,N,x,rfl,S,kx,k⟩:=h;refine⟨_,(c8 (gS (gh (cu:=[]) ko (by simp) T.bD (hr.mono (by decide)) bL (eK (pv 0) rfl) (aL (pv 1) bB)))),?_⟩;show iN _ _ [some (.ref a.p),some (.str x)] H;obtain⟨dx,fs,pr,hp,ft,jV⟩:=S.ex;obtain⟨dm,fm,kG,BD,jU,fK⟩:=S.mb.ex;walk_at"rd";refine eG hp T.aN T.dD ft.me ?_;exact gq kG (jU _ (by decide+kernel)) ⟨a.pm,a.ps,nm,x,rfl,S.mb,kx,k⟩
inductive u9(cC C Cm:Addr)(vs:List V)(H:Hp)(Q:VK)(E:XK):Prop|mk (a most nm tg gs ck ch N x:_) (h1:vs=[.ref a.p,.str x]) (h2:Sx C Cm H a most nm tg gs ck ch N) (h3:(aP nm x=none->Rs cC H E)) (h4:(aP nm x≠none->∃t,tg x=some t/\Sw.eY 5000 t/\Sw.eY 5000 ck/\∀q,H q=none->Q (.ref q) (aH H q (.tup (fq (max t ck)))))):u9 cC C Cm vs H Q E
include T in
theorem zlt:bN P w K mg base (eW P w) 3 cU "stands" ["self","name"] [[]] (u9 cF cU cD):=by
 have bT:=Nk P w base T;have lU:=UA P w base T;refine T.sq.pB (k:=2) zjx (fun vs H Q E h=>?_) (fun f b9 A outer s H vs Q E hr h=>?_)
 ·obtain⟨a,most,nm,tg,gs,ck,ch,N,x,rfl,_⟩:=h;rfl
 ·obtain⟨a,most,nm,tg,gs,ck,ch,N,x,rfl,S,kx,k⟩:=h;refine⟨_,(bS (j6 (gh (cu:=[]) bT (by simp) T.bD (hr.mono (by decide)) bL (eK (pv 0) rfl) (aL (pv 1) bB))) (c8 (gS (ja lU (hr.mono (by decide)) rfl bL (aL (o8 (bY hr) (eK (pv 0) rfl) (pv 1) (fun _ _=>rfl)) (aL (eK (pv 0) rfl) bB)))))),?_⟩;show dG _ _ _ [some (.ref a.p),some (.str x)] H;obtain⟨dx,fs,pr,hp,ft,jV⟩:=S.ex;obtain⟨dm,fm,kG,BD,jU,fK⟩:=S.mb.ex;obtain⟨kvs,tP,hv,Ht⟩:=S.dt.ex;walk_at"s";refine eG hp T.aN T.dD ft.me ?_;refine gq kG (jU _ (by decide+kernel)) ⟨a.pm,a.ps,nm,x,rfl,S.mb,fun hx=>hR _ _ ?_,kx⟩;obtain⟨t,ht,zt,zc,k⟩:=k hx;walk_at"rd";refine eG hp T.aN T.iT ft.ta ?_;walk_at"rd";rcases hv x with⟨z,_⟩ |⟨r,q,e1,e2,e3⟩
  ·rw[ht]at z;cases z
  ·rw[ht]at e1;cases e1
   have hg:=ia.k (k:=az x) tP;rw[e2]at hg;refine⟨.ref q,hg,?_⟩;refine eG hp T.aN T.gK ft.re ?_;exact⟨q,pr,t,ck,rfl,e3,jV,zt,zc,k⟩
inductive zU(C Cm:Addr)(vs:List V)(H:Hp)(Q:VK)(E:XK):Prop|mk (a most nm tg gs ck ch N x s g len:_) (h1:vs=[.ref a.p,.str x,.int len]) (h2:Sx C Cm H a most nm tg gs ck ch N) (h3:N<900) (h4:aP nm x=some s) (h5:tg x≠none) (h6:gs x=some g) (h7:1<=s) (h8:s<=1000000) (h9:0<=len) (yG:len<=1000000) (Dr:Sw.eY 2490 ck) (Kl:Sw.eY 5000 g) (Km:∀H',lS a H H'->Sx C Cm H' a most nm (gY tg x (ck+(len:Rat) / (s:Rat))) (gY gs x (max g ((len:Rat) / (s:Rat)))) ck ch (N+2)->Q .b7 H'):zU C Cm vs H Q E
include T in
theorem zlu:bN P w K mg base (eW P w) 4 cU "charge" ["self","name","length"] [[]] (zU cU cD):=by
 have fc:=GX P w base T;have mE:=Pr P w base T;have lU:=UA P w base T;have fW:=Uj P w base T;refine T.sd.okN (k:=3) mj (fun vs H Q E h=>?_) (fun f b9 A outer s H vs Q E hr h=>?_)
 ·obtain⟨a,most,nm,tg,gs,ck,ch,N,x,s,g,len,rfl,_⟩:=h;rfl
 ·obtain⟨a,most,nm,tg,gs,ck,ch,N,x,s,g,len,rfl,S,hN,hx,ht,hg,s0,s1,n0,n1,zc,zg,k⟩:=h;refine⟨_,(bS (gA (i:=3) mj.nd rfl (ja fc (hr.mono (by decide)) rfl aT (aL (pv 2) (aL (gh (cu:=[]) fW (by simp) T.aN (hr.mono (by decide)) aT (pv 0) (aL (pv 1) bB)) bB)))) (bS (Ao (bY hr) (eK (pv 0) rfl) (pv 1) (ja mE (hr.mono (by decide)) rfl aT (aL (eK (pv 0) rfl) (aL (pv 3) bB))) rfl) (c8 (Ao (bY hr) (eK (pv 0) rfl) (pv 1) (ja lU (hr.mono (by decide)) rfl aT (aL (o8 (bY hr) (eK (pv 0) rfl) (pv 1) (fun _ _=>rfl)) (aL (pv 3) bB))) rfl)))),?_⟩;show dG _ _ _ [some (.ref a.p),some (.str x),some (.int len),none] H;have zs:Sw.Sz 70 s:=Sw.Sz.jI (by omega) (by omega);have zn:Sw.Sz 70 len:=Sw.Sz.jI (by omega) (by omega);have zd:Sw.eY 2490 ((len:Rat) / (s:Rat)):=(Sw.eY.of (by omega) rfl zn zs).mono (by decide);obtain⟨dx,fs,pr,hp,ft,jV⟩:=S.ex;walk_at"s";refine gq hp (ft.qv _) ⟨a,most,nm,tg,gs,ck,ch,N,x,rfl,S,fun z=>(by rw[hx]at z;cases z),fun s' e'=>?_⟩;rw[hx]at e';cases e'
  refine⟨len,s,70,rfl,by decide,zs,fun _ q hq=>hR _ _ ?_,fun z=>absurd z (by omega)⟩;have sn:=fZ (o:=.tup (fq ((len:Rat) / (s:Rat)))) hq;have zv:aH H q (.tup (fq ((len:Rat) / (s:Rat)))) q=some (.tup (fq ((len:Rat) / (s:Rat)))):=bR;have S:=S.same sn;generalize aH H q (.tup (fq ((len:Rat) / (s:Rat))))=H1 at sn zv S⊢;obtain⟨dx,fs,pr,hp,ft,jV⟩:=S.ex;walk_at"s";refine eG hp T.aN T.gK ft.re ?_;refine⟨pr,q,ck,_,2490,rfl,jV,zv,by decide,zc,zd,fun q2 Oe=>?_⟩;have OC:=fZ (o:=.tup (fq (ck+(len:Rat) / (s:Rat)))) Oe;have Jc:aH H1 q2 (.tup (fq (ck+(len:Rat) / (s:Rat)))) q2=some (.tup (fq (ck+(len:Rat) / (s:Rat)))):=bR;have S:=S.same OC;have zv:=OC _ _ zv;have sn:=sn.trans OC;generalize aH H1 q2 (.tup (fq (ck+(len:Rat) / (s:Rat))))=H2 at sn zv Jc S⊢;obtain⟨dx,fs,pr,hp,ft,jV⟩:=S.ex;obtain⟨kvs,tP,hv,Ht⟩:=S.dt.ex;walk_at"rd";refine eG hp T.aN T.iT ft.ta ?_;walk_at"rd";refine⟨_,lB.k (k:=az x) tP (eX (by omega)),hR _ _ ?_⟩;have Em:=JX kvs (az x:Key) (.ref q2);have S:=S.HH (iq N) (mG.put (x:=x) tP hv (by omega) Jc);have ow:lS a H _:=sn.own.trans (zP (a:=a) (H:=H2) (o:=.dK (gu kvs (az x) (.ref q2))));have zv:aH H2 a.pt (.dK (gu kvs (az x) (.ref q2))) q=some (.tup (fq ((len:Rat) / (s:Rat)))):=by rw[dj (cj zv tP (by intro z;cases z))];exact zv
  generalize aH H2 a.pt (.dK (gu kvs (az x) (.ref q2)))=H3 at S ow zv⊢;clear sn OC Jc hp ft jV tP hv Ht Em hq Oe;obtain⟨dx,fs,pr,hp,ft,jV⟩:=S.ex;obtain⟨kvs,qq,hv,Ht⟩:=S.dg.ex;walk_at"rd";refine eG hp T.aN T.ee ft.gr ?_;walk_at"rd";rcases hv x with⟨z,_⟩ |⟨r,q3,e1,e2,e3⟩
  ·rw[hg]at z;cases z
  ·rw[hg]at e1;cases e1
   have hd:=ia.k (k:=az x) qq;rw[e2]at hd;refine⟨.ref q3,hd,?_⟩;refine⟨q3,q,g,_,rfl,e3,zv,zg,zd.mono (by decide),fun q4 LF=>?_⟩;have sn:=fZ (o:=.tup (fq (max g ((len:Rat) / (s:Rat))))) LF;have LG:aH H3 q4 (.tup (fq (max g ((len:Rat) / (s:Rat))))) q4=some (.tup (fq (max g ((len:Rat) / (s:Rat))))):=bR;have S:=S.same sn;generalize aH H3 q4 (.tup (fq (max g ((len:Rat) / (s:Rat)))))=H4 at sn LG S⊢;obtain⟨dx,fs,pr,hp,ft,jV⟩:=S.ex;obtain⟨kvs,qq,hv,Ht⟩:=S.dg.ex;walk_at"rd";refine eG hp T.aN T.ee ft.gr ?_;walk_at"rd";refine⟨_,lB.k (k:=az x) qq (eX (by omega)),?_⟩;have Em:=JX kvs (az x:Key) (.ref q4);exact k _ ((ow.trans sn.own).trans u4) (S.HG (iq (N+1)) (mG.put (x:=x) qq hv (by omega) LG))
theorem UR(y:Str)(rd:List Str):Gi (.str y) (rd.map V.str)=decide (y∈rd):=by
 unfold Gi;rw[Bh];rw[fk,G4,decide_eq_true_eq];constructor
 ·rintro⟨z,hz,e⟩;have e:BA (.str z) (.str y)=true:=e;have:z=y:=by simpa [BA]using e
  rw[<-this];exact hz
 ·intro h;exact⟨y,h,by show BA (.str y) (.str y)=true;simp[BA]⟩
theorem OU(rd:List Str):(rd.map V.str).all qG=true:=by rw[jQ];intro v hv;obtain⟨x,_,rfl⟩:=av.mp hv;rfl
inductive ED(C Cm:Addr)(vs:List V)(H:Hp)(Q:VK)(E:XK):Prop|mk (a most nm tg gs ck ch N rl rd:_) (tf:Str->Rat) (h1:vs=[.ref a.p,.ref rl]) (h2:Sx C Cm H a most nm tg gs ck ch N) (h3:H rl=some (.lst ((rd:List Str).map V.str))) (h4:nm.length<=900) (h5:(∀x∈nm.map (·.1),tg x=some (tf x)/\Sw.eY 5000 (tf x))) (h6:Sw.eY 5000 ck) (h7:(∃x∈nm.map (·.1),x∈rd)) (h8:∀x H',g8 (fun x=>decide (x∈rd)) (fun x=>max (tf x) ck) (nm.map (·.1)) none=some x->lS a H H'->Sx C Cm H' a most nm tg gs (max (tf x) ck) ch N->Q (.str x) H'):ED C Cm vs H Q E
include T in
theorem zoc:bN P w K mg base (eW P w) 4 cU "pick" ["self","ready"] [[]] (ED cU cD):=by
 have gj:=Ul P w base T;have jN:=zlt P w base T;have xA:=zxe P w base T;refine T.uT.okN (k:=3) iV (fun vs H Q E h=>?_) (fun f b9 A outer s H vs Q E hr h=>?_)
 ·obtain⟨a,most,nm,tg,gs,ck,ch,N,rl,rd,tf,rfl,_⟩:=h;rfl
 ·obtain⟨a,most,nm,tg,gs,ck,ch,N,rl,rd,tf,rfl,S,vA,hn,ht,zc,hex,k⟩:=h;refine⟨_,(bS (gA (i:=2) iV.nd rfl vC) (bS (DE PassesOwn.never rfl (Ag K rfl (xm (cu:=[]) gj (by simp) T.aN (hr.mono (by decide)) aT (pv 0))) (nZ (i:=3) iV.nd rfl (by first|left;rfl|right;rfl)) (c8 (dW (PW.pt (Im (j7 (UZ K rfl) (pv 3) (pv 1) rfl) (J1 (PW.pt (pw_or (j7 UY (pv 2) vC (jL _)) (NI (DC (ja xA (hr.mono (by decide)) rfl aT (aL (gh (cu:=[]) jN (by simp) T.aN (hr.mono (by decide)) aT (pv 0) (aL (pv 3) bB)) (aL (gh (cu:=[]) jN (by simp) T.aN (hr.mono (by decide)) aT (pv 0) (aL (pv 2) bB)) bB)))))))))) (c8 (gA (i:=2) iV.nd rfl (pv 3))) kX))) (bS (pI (pv 0) (gh (cu:=[]) jN (by simp) T.aN (hr.mono (by decide)) aT (pv 0) (aL (pv 2) bB)) rfl) (c8 (gS (pv 2)))))),?_⟩;show dG _ _ _ [some (.ref a.p),some (.ref rl),none,none] H;have yI:∀x∈nm.map (·.1),aP nm x≠none:=fun x h=>by obtain⟨p,hp,rfl⟩:=av.mp h;exact XX (s:=p.2) hp
  have KY:∀x∈nm.map (·.1),Sw.eY 5000 (max (tf x) ck):=fun x h=>by
   rw[gI];split
   ·exact zc
   ·exact(ht x h).2
  have A6:∀{x:Str}{H':Hp}{Q:VK}{E:XK},x∈nm.map (·.1)->Sx cU cD H' a most nm tg gs ck ch N->(∀q FE,bI H' FE->FE q=some (.tup (fq (max (tf x) ck)))->Q (.ref q) FE)->wR cU "stands" (.ref a.p) H' (u9 cF cU cD [.ref a.p,.str x] H' Q E):=fun{x H' Q E} hx S k=>by obtain⟨dx,fs,pr,hp,ft,jV⟩:=S.ex;exact gq hp (ft.qv _) ⟨a,most,nm,tg,gs,ck,ch,N,x,rfl,S,fun z=>absurd z (yI x hx),fun _=>⟨tf x,(ht x hx).1,(ht x hx).2,zc,fun q hq=>k q _ (fZ hq) bR⟩⟩
  walk_at"s";refine hR _ _ ?_;refine bM fun R hR=>?_;refine DB fun Z hZ=>?_;walk_at"rd";obtain⟨dx,fs,pr,hp,ft,jV⟩:=S.ex;refine gq hp (ft.qv _) ⟨a,most,nm,tg,gs,ck,ch,N,rfl,S,fun l hl=>?_⟩;have sn:=fZ (o:=.lst (rJ nm)) hl;have jT:aH H l (.lst (rJ nm)) l=some (.lst (rJ nm)):=bR;refine⟨l,rfl,⟨_,.of jT⟩,hZ _ _ ?_⟩;have S:=S.same sn;have vA:=sn _ _ vA;generalize aH H l (.lst (rJ nm))=H1 at sn jT S vA⊢;clear hp ft jV hl;refine GR (K:=K) (a:=l) (xs:=rJ nm) (fun i σ H'=>bI H1 H'/\∃v3,σ=[some (.ref a.p),some (.ref rl),some (p8 (g8 (fun x=>decide (x∈rd)) (fun x=>max (tf x) ck) ((nm.map (·.1)).take i) none)),v3]) ⟨bI.refl _,none,rfl⟩ (fun i σ H' _⟨sm,_⟩=>.of (sm _ _ jT)) ?_ ?_
  ·rintro i x σ H2 hx ⟨sm,v3,rfl⟩;obtain⟨y,hy,rfl⟩:∃y,(nm.map (·.1))[i]?=some y/\V.str y=x:=by
    unfold rJ at hx;rw[aK]at hx⊢;cases e:nm[i]? with
    |none=>rw[e]at hx;cases hx
    |some z=>rw[e]at hx;exact⟨z.1,rfl,ak hx⟩
   have Om:=aV hy;have S:=S.same sm;have vA:=sm _ _ vA;have et:(nm.map (·.1)).take (i+1)=(nm.map (·.1)).take i++[y]:=by rw[uc,hy];rfl
   have fm:∀z,g8 (fun x=>decide (x∈rd)) (fun x=>max (tf x) ck) ((nm.map (·.1)).take i) none=some z->z∈nm.map (·.1):=fun z h=>by
    rcases Nq h with⟨h1,_⟩ |h1
    ·exact p9 h1
    ·cases h1
   have Ma:=Yl (rd:=fun x=>decide (x∈rd)) (st:=fun x=>max (tf x) ck) (x:=y) (l:=(nm.map (·.1)).take i) (f:=none);rw[<-et]at Ma;generalize g8 (fun x=>decide (x∈rd)) (fun x=>max (tf x) ck) ((nm.map (·.1)).take i) none=fo at fm Ma⊢;show rh _ _ _ _ [some (.ref a.p),some (.ref rl),some (p8 fo),some (.str y)] _;refine An fun R hR=>?_;have go:∀v H',bI H2 H'->v=p8 (g8 (fun x=>decide (x∈rd)) (fun x=>max (tf x) ck) ((nm.map (·.1)).take (i+1)) none)->R [some (.ref a.p),some (.ref rl),some v,some (.str y)] H':=fun v H' s e=>hR _ _ ⟨sm.trans s,some (.str y),by rw[e]⟩;walk_at"rd";refine⟨rl,_,rfl,.inl (.of vA),rfl,OU rd,_,rfl,?_⟩;rw[show(if false=true then !Gi (.str y) (rd.map V.str)else Gi (.str y) (rd.map V.str))=decide (y∈rd)from UR y rd];by_cases hr:y∈rd
   ·rw[if_pos (decide_eq_true hr)];have e1:(fun x=>decide (x∈rd)) y=true:=decide_eq_true hr;cases fo with
    |none=>
     rw[if_pos (show p8 none=V.b7 from rfl)];refine go _ _ (bI.refl _) ?_;rw[Ma,if_pos (by show((fun x=>decide (x∈rd)) y && zC _ y none)=true;rw[e1];rfl)];rfl
    |some z=>
     rw[if_neg (by intro w;cases w)];have VY:=fm z rfl;refine A6 Om S fun q1 H3 s3 h1=>?_;refine A6 VY (S.same s3) fun q2 H4 s4 h2=>?_;refine⟨q1,q2,_,_,rfl,s4 _ _ h1,h2,KY y Om,KY z VY,_,rfl,?_⟩;have Wh:g8 (fun x=>decide (x∈rd)) (fun x=>max (tf x) ck) ((nm.map (·.1)).take (i+1)) none=if decide (max (tf y) ck<max (tf z) ck)=true then some y else some z:=by
      rw[Ma];have:((fun x=>decide (x∈rd)) y && zC (fun x=>max (tf x) ck) y (some z))=decide (max (tf y) ck<max (tf z) ck):=by rw[e1];rfl
      rw[this]
     by_cases hc:max (tf y) ck<max (tf z) ck
     ·rw[if_pos (decide_eq_true hc)];refine go _ _ (s3.trans s4) ?_;rw[Wh,if_pos (decide_eq_true hc)];rfl
     ·rw[if_neg (by simp[hc])];refine go _ _ (s3.trans s4) ?_;rw[Wh,if_neg (by simp[hc])]
   ·rw[if_neg (by simp[hr])];refine go _ _ (bI.refl _) ?_;have e1:(fun x=>decide (x∈rd)) y=false:=decide_eq_false hr;rw[Ma,if_neg (by rw[decide_eq_false hr];simp)]
  ·rintro σ H2 ⟨sm,v3,rfl⟩;refine hR _ _ ?_;have fK:(rJ nm).length=(nm.map (·.1)).length:=by unfold rJ;rw[ae,ae]
   rw[fK,bC];have hso:g8 (fun x=>decide (x∈rd)) (fun x=>max (tf x) ck) (nm.map (·.1)) none≠none:=Uu (.inr (by obtain⟨x,h1,h2⟩:=hex;exact⟨x,h1,decide_eq_true h2⟩));cases e:g8 (fun x=>decide (x∈rd)) (fun x=>max (tf x) ck) (nm.map (·.1)) none with
   |none=>exact absurd e hso
   |some y=>
    have Om:y∈nm.map (·.1):=by
     rcases Nq e with⟨h1,_⟩ |h1
     ·exact h1
     ·cases h1
    have S:=S.same sm;refine bM fun R hR=>?_;unfold p8;walk_at"rd";refine A6 Om S fun q1 H3 s3 h1=>?_;have S:=S.same s3;obtain⟨dx,fs,pr,hp,ft,jV⟩:=S.ex;refine pJ hp T.aN T.gK (by have:=ft.len;omega) (hR _ _ ?_);walk_at"rd";exact k y _ e (((sn.trans sm).trans s3).own.trans zO) (S.wU hp ft.Jy h1)
inductive EC(C Cm:Addr)(vs:List V)(H:Hp)(Q:VK)(E:XK):Prop|mk (a most nm tg gs ck N x s g len:_) (h1:vs=[.ref a.p,.int len]) (h2:Sx C Cm H a most nm tg gs ck (.str x) N) (h3:N<900) (h4:aP nm x=some s) (h5:tg x≠none) (h6:gs x=some g) (h7:1<=s) (h8:s<=1000000) (h9:0<=len) (yG:len<=1000000) (Dr:Sw.eY 2490 ck) (Kl:Sw.eY 5000 g) (Km:∀H',lS a H H'->Sx C Cm H' a most nm (gY tg x (ck+(len:Rat) / (s:Rat))) (gY gs x (max g ((len:Rat) / (s:Rat)))) ck (.str x) (N+2)->Q .b7 H'):EC C Cm vs H Q E
include T in
theorem zql:bN P w K mg base (eW P w) 5 cU "pay" ["self","length"] [[]] (EC cU cD):=by
 have tH:=zlu P w base T;refine T.vZ.okN (k:=4) znz (fun vs H Q E h=>?_) (fun f b9 A outer s H vs Q E hr h=>?_)
 ·obtain⟨a,most,nm,tg,gs,ck,N,x,s,g,len,rfl,_⟩:=h;rfl
 ·obtain⟨a,most,nm,tg,gs,ck,N,x,s,g,len,rfl,S,hN,hx,ht,hg,s0,s1,n0,n1,zc,zg,k⟩:=h;refine⟨_,(c8 (j6 (gh (cu:=[]) tH (by simp) T.aN (hr.mono (by decide)) aT (pv 0) (aL (eK (pv 0) rfl) (aL (pv 1) bB))))),?_⟩;show(_:TS) _ [some (.ref a.p),some (.int len)] H;obtain⟨dx,fs,pr,hp,ft,jV⟩:=S.ex;walk_at"rd";refine gq hp (ft.qv _) ?_;refine eG hp T.aN T.gW ft.ch ?_;exact⟨a,most,nm,tg,gs,ck,.str x,N,x,s,g,len,rfl,S,hN,hx,ht,hg,s0,s1,n0,n1,zc,zg,k⟩
inductive zV(cR cC C Cm:Addr)(vs:List V)(H:Hp)(Q:VK)(E:XK):Prop|mk (a most nm tg gs ck ch N rl rd:_) (tf:Str->Rat) (h1:vs=[.ref a.p,.ref rl]) (h2:Sx C Cm H a most nm tg gs ck ch N) (h3:H rl=some (.lst ((rd:List Str).map V.str))) (h4:nm.length<=900) (h5:(∀x∈nm.map (·.1),tg x=some (tf x)/\Sw.eY 5000 (tf x))) (h6:Sw.eY 5000 ck) (h7:(rd=[]->Rs cR H E)) (h8:(rd≠[]->(∃x∈rd,aP nm x=none)->Rs cC H E)) (h9:(rd≠[]->(∀x∈rd,aP nm x≠none)->∀x H',g8 (fun x=>decide (x∈rd)) (fun x=>max (tf x) ck) (nm.map (·.1)) none=some x->lS a H H'->Sx C Cm H' a most nm tg gs (max (tf x) ck) (.str x) N->Q (.str x) H')):zV cR cC C Cm vs H Q E
include T in
theorem zlv:bN P w K mg base (eW P w) 5 cU "choose" ["self","ready"] [[]] (zV cO cF cU cD):=by
 have bT:=Nk P w base T;have vK:=zoc P w base T;refine T.sf.pB (k:=4) mq (fun vs H Q E h=>?_) (fun f b9 A outer s H vs Q E hr h=>?_)
 ·obtain⟨a,most,nm,tg,gs,ck,ch,N,rl,rd,tf,rfl,_⟩:=h;rfl
 ·obtain⟨a,most,nm,tg,gs,ck,ch,N,rl,rd,tf,rfl,S,vA,hn,ht,zc,kr,kc,k⟩:=h;refine⟨_,(bS (dW (Df (Uy K rfl (pv 1))) (c8 (yJ K rfl rfl yK (yL T.qF T.qJ rfl T.qQ (aL kY bB)))) kX) (bS (DE PassesOwn.leaving rfl (Ag K rfl (pv 1)) (nZ (i:=2) mq.nd rfl (by first|left;rfl|right;rfl)) (c8 (j6 (gh (cu:=[]) bT (by simp) T.bD (hr.mono (by decide)) bL (eK (pv 0) rfl) (aL (pv 2) bB))))) (bS (pI (pv 0) (gh (cu:=[]) vK (by simp) T.aN (hr.mono (by decide)) bL (pv 0) (aL (pv 1) bB)) rfl) (c8 (gS (eK (pv 0) rfl)))))),?_⟩;show dG _ _ _ [some (.ref a.p),some (.ref rl),none] H;walk_at"s";by_cases BF:rd=[]
  ·refine⟨false,.inl ⟨_,.of vA,by rw[BF];rfl⟩,?_⟩;rw[if_pos rfl];exact g9 (kr BF) T.rB
  refine⟨true,.inl ⟨_,.of vA,by cases rd with|nil=>exact absurd rfl BF|cons y r=>rfl⟩,?_⟩;rw[if_neg (by decide)];refine hR _ _ ?_;refine bM fun R hR=>?_;refine DB fun Z hZ=>?_;walk_at"rd";refine⟨⟨_,.of vA⟩,hZ _ _ ?_⟩;obtain⟨dx,fs,pr,hp,ft,jV⟩:=S.ex;obtain⟨dm,fm,kG,BD,jU,fK⟩:=S.mb.ex;refine GR (K:=K) (a:=rl) (xs:=rd.map V.str) (fun i σ H'=>H'=H/\(∃v2,σ=[some (.ref a.p),some (.ref rl),v2])/\∀y∈rd.take i,aP nm y≠none) ⟨rfl,⟨none,rfl⟩,fun y h=>absurd h (by simp)⟩ (fun i σ H' _⟨e,_⟩=>by rw[e];exact .of vA) ?_ ?_
  ·rintro i x σ H2 hx ⟨rfl,⟨v2,rfl⟩,al⟩;obtain⟨y,hy,rfl⟩:∃y,rd[i]?=some y/\V.str y=x:=by simpa using hx
   show(_:TS) _ [some (.ref a.p),some (.ref rl),some (.str y)] _;refine An fun R hR=>?_;walk_at"rd";refine eG hp T.aN T.dD ft.me ?_;refine gq kG (jU _ (by decide+kernel)) ⟨a.pm,a.ps,nm,y,rfl,S.mb,fun Q6=>hR _ _ ⟨rfl,⟨_,rfl⟩,fun z hz=>?_⟩,fun z=>kc BF ⟨y,aV hy,z⟩⟩;rw[mP hy]at hz;rcases ay.mp hz with v|v
   ·exact al z v
   ·rw[aC.mp v];exact Q6
  ·rintro σ H2 ⟨rfl,⟨v2,rfl⟩,al⟩;rw[ae,bC]at al;have Fd:=al;refine hR _ _ ?_;walk_at"s";have hex:∃x∈nm.map (·.1),x∈rd:=by
    cases rd with
    |nil=>exact absurd rfl BF
    |cons y r=>
     have hy:=Fd y (by simp);cases e:aP nm y with
     |none=>exact absurd e hy
     |some v=>exact⟨y,av.mpr ⟨_,Zr e,rfl⟩,by simp⟩
   refine gq hp (ft.qv _) ⟨a,most,nm,tg,gs,ck,ch,N,rl,rd,tf,rfl,S,vA,hn,ht,zc,hex,fun x H3 e ow S3=>?_⟩;obtain⟨dx,fs,pr,hp,ft,jV⟩:=S3.ex;refine pJ hp T.aN T.gW (by have:=ft.len;omega) (hR _ _ ?_);have S4:=S3.wU hp (ft.A2 (ch':=.str x)) jV;walk_at"rd";refine eG bR T.aN T.gW pG ?_;exact k BF Fd x _ e (ow.trans zO) S4
inductive HU(C Cm:Addr)(vs:List V)(H:Hp)(Q:VK)(E:XK):Prop|mk (x dx most:_) (h1:vs=[.ref x,.int most]) (h2:H x=some (.ins C dx [])) (h3:∀pm gy H',vv x H H'->H pm=none->H gy=none->pm≠x->H' x=some (.ins C dx (aE "chosen" .b7 (aE "members" (.ref pm) (aE "most" (.int most) []))))->Mb Cm H' pm gy []->Q .b7 H'):HU C Cm vs H Q E
include T in
theorem zhc:NU P w K mg base (eW P w) 3 cA "__init__" ["self","most"] (HU cQ cD):=by
 have rR:=Y6 P w base T;refine T.nW.okN (k:=2) zgb (fun vs H Q E h=>?_) (fun f b9 A outer s H vs Q E hr h=>?_)
 ·obtain⟨x,dx,most,rfl,_⟩:=h;rfl
 ·obtain⟨x,dx,most,rfl,hx,k⟩:=h;refine⟨_,(bS (pI (pv 0) (pv 1) rfl) (bS (pI (pv 0) (YL (cu:=[]) rR (by simp) (hr.mono (by decide)) aT rfl T.uX) rfl) (c8 (pI (pv 0) vC rfl)))),?_⟩;show dG _ _ _ [some (.ref x),some (.int most)] H;have l1:=ki (fs:=[]) (f:="most") (v:=.int most);simp only[bU]at l1;walk_at"s";refine pJ hx T.aF T.gP (by simp) (hR _ _ ?_);walk_at"s";intro pm dm kG Lu _;have nx:pm≠x:=fun z=>by rw[z,bR]at kG;cases kG
  have Jq:H pm=none:=by rw[dj nx]at kG;exact kG
  refine⟨pm,dm,rfl,bR,fun gy H1 bt zu M=>⟨rfl,?_⟩⟩;have s1:=bt.same (EY kG Lu) kG;have zw:=s1 _ _ bR;have l2:=ki (fs:=aE "most" (.int most) []) (f:="members") (v:=.ref pm);have xT:aH H x (.ins cQ dx (aE "most" (.int most) [])) gy=none:=(EY kG Lu).free zu;have Dw:gy≠x:=fun z=>by rw[z,bR]at xT;cases xT
  have uY:H gy=none:=by rw[dj Dw]at xT;exact xT
  refine pJ zw T.aF T.d7 (by omega) (hR _ _ ?_);walk_at"rd";refine pJ bR T.aF T.gU (by omega) ?_;rw[EZ];refine k pm gy _ (fun b o n e=>?_) Jq uY nx bR ?_
  ·rw[dj n];exact s1 _ _ (by rw[dj n];exact e)
  ·obtain⟨d2,f2,g1,g2⟩:=M.ex;exact⟨⟨d2,f2,by rw[dj nx];exact g1,g2⟩,by rw[dj Dw];exact M.hs⟩
inductive B7(C Cm:Addr)(vs:List V)(H:Hp)(Q:VK)(E:XK):Prop|mk (x dx most:_) (h1:vs=[.ref x,.int most]) (h2:H x=some (.ins C dx [])) (h3:∀(a:lz) H',a.p=x->vv x H H'->H a.pm=none->H a.ps=none->H a.pt=none->H a.pg=none->Rx C Cm H' a most [] [] [] none .b7->Q .b7 H'):B7 C Cm vs H Q E
include T in
theorem zyr:FW P w K mg base (eW P w) 4 cQ ["self","most"] [[]] (B7 cQ cD):=by
 have oM:=zhc P w base T;refine T.CK.okN (k:=3) zmi (fun vs H Q E h=>?_) (fun f b9 A outer s H vs Q E hr h=>?_)
 ·obtain⟨x,dx,most,rfl,_⟩:=h;rfl
 ·obtain⟨x,dx,most,rfl,hx,k⟩:=h;refine⟨_,(bS (j6 (ZZ oM (hr.mono (by decide)) aT rfl T.uV (aL (pv 0) (aL (pv 1) bB)))) (bS (pI (pv 0) (Dg bB) rfl) (bS (pI (pv 0) KI rfl) (c8 (pI (pv 0) vC rfl))))),?_⟩;show dG _ _ _ [some (.ref x),some (.int most)] H;refine bM fun R hR=>?_;walk_at"rdc";refine⟨x,dx,most,rfl,hx,fun pm gy H1 bt Jq uY nx zw M=>hR _ _ ?_⟩;have l1:=ki (fs:=[]) (f:="most") (v:=.int most);have l2:=ki (fs:=aE "most" (.int most) []) (f:="members") (v:=.ref pm);have l3:=ki (fs:=aE "members" (.ref pm) (aE "most" (.int most) [])) (f:="chosen") (v:=.b7);simp only[bU]at l1;have Dw:gy≠x:=fun z=>by rw[z,hx]at uY;cases uY
  have free:∀{H':Hp}{b:Addr},vv x H H'->b≠x->H' b=none->H b=none:=fun{H' b} bt n e=>by
   cases q:H b with
   |none=>rfl
   |some o=>
    have:=bt _ _ n q;rw[e]at this;cases this
  have jD:∀{H':Hp}{fs:List (Str×V)}{b:Addr}{o:HO},b≠x->H' b=some o->aH H' x (.ins cQ dx fs) b=some o:=fun n e=>by rw[dj n];exact e
  generalize QA:aE "chosen" .b7 (aE "members" (.ref pm) (aE "most" (.int most) []))=Hq at zw l3;walk_at"s";intro pt tP;have Js:pt≠x:=fun z=>by rw[z,zw]at tP;cases tP
  have s3:=fZ (o:=.lst []) tP;have vU:aH H1 pt (.lst []) pt=some (.lst []):=bR;refine pJ (s3 _ _ zw) T.aF T.gD (by omega) (hR _ _ ?_);have Ro:=free bt Js tP;have l4:=ki (fs:=Hq) (f:="queue") (v:=.ref pt);have bt:vv x H (aH (aH H1 pt (.lst [])) x (.ins cQ dx (aE "queue" (.ref pt) Hq))):=(bt.trans s3.but).trans KP;have vU:=jD (fs:=aE "queue" (.ref pt) Hq) Js vU;have M:Mb cD (aH (aH H1 pt (.lst [])) x (.ins cQ dx (aE "queue" (.ref pt) Hq))) pm gy []:=by obtain⟨d2,f2,g1,g2⟩:=(M.same s3).ex;exact⟨⟨d2,f2,jD nx g1,g2⟩,jD Dw (s3 _ _ M.hs)⟩
  have Jf:aH (aH H1 pt (.lst [])) x (.ins cQ dx (aE "queue" (.ref pt) Hq)) x=some (.ins cQ dx (aE "queue" (.ref pt) Hq)):=bR;generalize aH (aH H1 pt (.lst [])) x (.ins cQ dx (aE "queue" (.ref pt) Hq))=H4 at bt vU M Jf⊢;clear s3 tP zw;walk_at"s";intro pg qq;have LY:pg≠x:=fun z=>by rw[z,Jf]at qq;cases qq
  have s5:=fZ (o:=.dK []) qq;have Ri:=kW M.hs qq;refine pJ (s5 _ _ Jf) T.aF T.c9 (by omega) (hR _ _ ?_);have Rn:=free bt LY qq;have l5:=ki (fs:=aE "queue" (.ref pt) Hq) (f:="rests") (v:=.ref pg);walk_at"rd";refine pJ bR T.aF T.d9 (by omega) ?_;rw[EZ];refine k ⟨x,pm,gy,pt,pg⟩ _ rfl ((bt.trans s5.but).trans KP) Jq uY Ro Rn ⟨⟨dx,_,bR,?_⟩,?_,jD Js (s5 _ _ vU),jD LY bR,Ri.symm,nx.symm⟩
  ·rw[<-QA];exact FR.Jk _ _ _ _ _
  ·obtain⟨d2,f2,g1,g2⟩:=(M.same s5).ex;exact⟨⟨d2,f2,jD nx g1,g2⟩,jD Dw (s5 _ _ M.hs)⟩
inductive zX(C Cm:Addr)(vs:List V)(H:Hp)(Q:VK)(E:XK):Prop|mk (a most nm q rs tu ch x:_) (h1:vs=[.ref a.p,.str x]) (h2:Rx C Cm H a most nm q rs tu ch) (h3:q.length<900) (h4:rs.length<900) (h5:aP rs x=none) (h6:∀H',lS a H H'->Rx C Cm H' a most nm (q++[x]) (rs++[(x,0)]) tu ch->Q .b7 H'):zX C Cm vs H Q E
include T in
theorem zmo:bN P w K mg base (eW P w) 1 cQ "enter" ["self","name"] [[]] (zX cQ cD):=by
 refine T.tR.okN (k:=0) zlj (fun vs H Q E h=>?_) (fun f b9 A outer s H vs Q E hr h=>?_)
 ·obtain⟨a,most,nm,q,rs,tu,ch,x,rfl,_⟩:=h;rfl
 ·obtain⟨a,most,nm,q,rs,tu,ch,x,rfl,S,lq,lr,hx,k⟩:=h;refine⟨_,(bS (j6 (sX b6 eR eS Ii (eK (pv 0) rfl) (aL (pv 1) bB))) (c8 (Ao (bY hr) (eK (pv 0) rfl) (pv 1) bP rfl))),?_⟩;show dG _ _ _ [some (.ref a.p),some (.str x)] H;obtain⟨dx,fs,hp,ft⟩:=S.ex;walk_at"s";refine eG hp T.aF T.gD ft.qu ?_;refine⟨GY S.hq,KW S.hq (by rw[ae];omega) (hR _ _ ?_)⟩;have e:q.map V.str++[V.str x]=(q++[x]).map V.str:=by rw[aA];rfl
  rw[e];have S:=S.Ew (q':=q++[x]);have ow:lS a H (aH H a.pt (.lst ((q++[x]).map V.str))):=zP;generalize aH H a.pt (.lst ((q++[x]).map V.str))=H1 at S ow⊢;obtain⟨dx,fs,hp,ft⟩:=S.ex;walk_at"rd";refine eG hp T.aF T.c9 ft.re ?_;walk_at"rd";refine⟨_,lB.k (k:=az x) S.hr (eX (by rw[JY];omega)),?_⟩;rw[Zq hx];exact k _ (ow.trans u4) S.zS
inductive zZ(cC C Cm:Addr)(vs:List V)(H:Hp)(Q:VK)(E:XK):Prop|mk (a most nm q rs tu ch x:_) (h1:vs=[.ref a.p,.str x]) (h2:Rx C Cm H a most nm q rs tu ch) (h3:(aP nm x=none->Rs cC H E)) (h4:∀s,aP nm x=some s->Q (.int s) H):zZ cC C Cm vs H Q E
include T in
theorem Uk:bN P w K mg base (eW P w) 3 cQ "share_of" ["self","name"] [[]] (zZ cF cQ cD):=by
 have fG:=Ui P w base T;refine T.pV.pB (k:=2) zie (fun vs H Q E h=>?_) (fun f b9 A outer s H vs Q E hr h=>?_)
 ·obtain⟨a,most,nm,q,rs,tu,ch,x,rfl,_⟩:=h;rfl
 ·obtain⟨a,most,nm,q,rs,tu,ch,x,rfl,S,kx,k⟩:=h;refine⟨_,(c8 (gS (gh (cu:=[]) fG (by simp) T.bD (hr.mono (by decide)) bL (eK (pv 0) rfl) (aL (pv 1) bB)))),?_⟩;show iN _ _ [some (.ref a.p),some (.str x)] H;obtain⟨dx,fs,hp,ft⟩:=S.ex;obtain⟨dm,fm,kG,BD,jU,fK⟩:=S.mb.ex;walk_at"rd";refine eG hp T.aF T.d7 ft.me ?_;exact gq kG (jU _ (by decide+kernel)) ⟨a.pm,a.ps,nm,x,rfl,S.mb,kx,k⟩
inductive B9(cC C Cm:Addr)(vs:List V)(H:Hp)(Q:VK)(E:XK):Prop|mk (a most nm q rs tu ch x:_) (h1:vs=[.ref a.p,.str x]) (h2:Rx C Cm H a most nm q rs tu ch) (h3:(aP nm x=none->Rs cC H E)) (h4:∀s,aP nm x=some s->0<bu nm/\bu nm<1000000000000/\∀q,H q=none->Q (.ref q) (aH H q (.tup (fq ((s:Rat) / (bu nm:Rat)))))):B9 cC C Cm vs H Q E
include T in
theorem XE:bN P w K mg base (eW P w) 4 cQ "part" ["self","name"] [[]] (B9 cF cQ cD):=by
 have ko:=Xi P w base T;refine T.uO.pB (k:=3) zml (fun vs H Q E h=>?_) (fun f b9 A outer s H vs Q E hr h=>?_)
 ·obtain⟨a,most,nm,q,rs,tu,ch,x,rfl,_⟩:=h;rfl
 ·obtain⟨a,most,nm,q,rs,tu,ch,x,rfl,S,kx,k⟩:=h;refine⟨_,(c8 (gS (gh (cu:=[]) ko (by simp) T.bD (hr.mono (by decide)) bL (eK (pv 0) rfl) (aL (pv 1) bB)))),?_⟩;show iN _ _ [some (.ref a.p),some (.str x)] H;obtain⟨dx,fs,hp,ft⟩:=S.ex;obtain⟨dm,fm,kG,BD,jU,fK⟩:=S.mb.ex;walk_at"rd";refine eG hp T.aF T.d7 ft.me ?_;exact gq kG (jU _ (by decide+kernel)) ⟨a.pm,a.ps,nm,x,rfl,S.mb,kx,k⟩
inductive B6(C Cm:Addr)(vs:List V)(H:Hp)(Q:VK)(E:XK):Prop|mk (a most nm q rs tu ch x s:_) (h1:vs=[.ref a.p,.str x]) (h2:Rx C Cm H a most nm q rs tu ch) (h3:aP nm x=some s) (h4:1<=s) (h5:s<=1000000) (h6:1<=most) (h7:most<=1000000) (h8:Q (.int (s*most)) H):B6 C Cm vs H Q E
include T in
theorem WK:bN P w K mg base (eW P w) 4 cQ "full_rest" ["self","name"] [[]] (B6 cQ cD):=by
 have fV:=Uk P w base T;refine T.oV.okN (k:=3) zgx (fun vs H Q E h=>?_) (fun f b9 A outer s H vs Q E hr h=>?_)
 ·obtain⟨a,most,nm,q,rs,tu,ch,x,s,rfl,_⟩:=h;rfl
 ·obtain⟨a,most,nm,q,rs,tu,ch,x,s,rfl,S,hx,s0,s1,m0,m1,k⟩:=h;refine⟨_,(c8 (gS (aM rL (gh (cu:=[]) fV (by simp) T.aF (hr.mono (by decide)) aT (pv 0) (aL (pv 1) bB)) (eK (pv 0) rfl)))),?_⟩;show iN _ _ [some (.ref a.p),some (.str x)] H;obtain⟨dx,fs,hp,ft⟩:=S.ex;walk_at"rd";refine S.nQ (by decide+kernel) ⟨a,most,nm,q,rs,tu,ch,x,rfl,S,fun z=>(by rw[hx]at z;cases z),fun s' uh=>?_⟩;rw[hx]at uh;cases uh
  refine eG hp T.aF T.gP ft.mo ?_;have zs:Sw.Sz 70 s:=Sw.Sz.jI (by omega) (by omega);have zm:Sw.Sz 70 most:=Sw.Sz.jI (by omega) (by omega);exact⟨_,rfl,_,rfl,⟨zs.mono (by decide),zm.mono (by decide)⟩,k⟩
inductive EH(C Cm:Addr)(vs:List V)(H:Hp)(Q:VK)(E:XK):Prop|mk (a most nm q rs tu ch x s r:_) (h1:vs=[.ref a.p,.str x]) (h2:Rx C Cm H a most nm q rs tu ch) (h3:rs.length<900) (h4:aP nm x=some s) (h5:aP rs x=some r) (h6:1<=s) (h7:s<=1000000) (h8:1<=most) (h9:most<=1000000) (yG:∀H',lS a H H'->Rx C Cm H' a most nm q (putN rs x (if s*most<r then s*most else r)) tu ch->Q .b7 H'):EH C Cm vs H Q E
include T in
theorem zlw:bN P w K mg base (eW P w) 5 cQ "fit_in" ["self","name"] [[]] (EH cQ cD):=by
 have iz:=WK P w base T;refine T.r9.okN (k:=4) zjy (fun vs H Q E h=>?_) (fun f b9 A outer s H vs Q E hr h=>?_)
 ·obtain⟨a,most,nm,q,rs,tu,ch,x,s,r,rfl,_⟩:=h;rfl
 ·obtain⟨a,most,nm,q,rs,tu,ch,x,s,r,rfl,S,lr,hx,jV,s0,s1,m0,m1,k⟩:=h;refine⟨_,(c8 (Ao (bY hr) (eK (pv 0) rfl) (pv 1) (rC (Uv rfl) rfl T.ya boot_min (aL (o8 (bY hr) (eK (pv 0) rfl) (pv 1) (fun _ _=>rfl)) (aL (gh (cu:=[]) iz (by simp) T.aF (hr.mono (by decide)) aT (pv 0) (aL (pv 1) bB)) bB))) rfl)),?_⟩;show(_:TS) _ [some (.ref a.p),some (.str x)] H;obtain⟨dx,fs,hp,ft⟩:=S.ex;walk_at"rd";refine eG hp T.aF T.c9 ft.re ?_;walk_at"rd";have hg:=ia.k (k:=az x) S.hr;rw[Fw,jV]at hg;refine⟨.int r,hg,?_⟩;refine S.nQ (by decide+kernel) ⟨a,most,nm,q,rs,tu,ch,x,s,rfl,S,hx,s0,s1,m0,m1,?_⟩;refine⟨_,rfl,_,rfl,?_⟩;refine eG hp T.aF T.c9 ft.re ?_;walk_at"rd";refine⟨_,lB.k (k:=az x) S.hr (eX (by rw[JY];omega)),?_⟩;rw[Nu (by rw[jV];simp)];exact k _ u4 S.zS
inductive EJ(cT cS C Cm:Addr)(vs:List V)(H:Hp)(Q:VK)(E:XK):Prop|mk (a most nm q rs tu ch x s:_) (h1:vs=[.ref a.p,.str x,.int s]) (h2:Rx C Cm H a most nm q rs tu ch) (h3:Sw.RI most nm q rs tu) (h4:nm.length<90) (h5:(aP nm x≠none->Rs cT H E)) (h6:(aP nm x=none->¬(1<=s/\s<=1000000)->Rs cS H E)) (h7:(aP nm x=none->1<=s/\s<=1000000->∀H',lS a H H'->Rx C Cm H' a most (nm++[(x,s)]) (q++[x]) (rs++[(x,0)]) tu ch->Q .b7 H')):EJ cT cS C Cm vs H Q E
include T in
theorem zqm:bN P w K mg base (eW P w) 3 cQ "put" ["self","name","share"] [[]] (EJ cV cJ cQ cD):=by
 have lD:=XA P w base T;have ux:=zmo P w base T;refine T.vY.pB (k:=2) zoa (fun vs H Q E h=>?_) (fun f b9 A outer s H vs Q E hr h=>?_)
 ·obtain⟨a,most,nm,q,rs,tu,ch,x,s,rfl,_⟩:=h;rfl
 ·obtain⟨a,most,nm,q,rs,tu,ch,x,s,rfl,S,h,nl,kt,ks,k⟩:=h;refine⟨_,(bS (j6 (gh (cu:=[]) lD (by simp) T.bD (hr.mono (by decide)) bL (eK (pv 0) rfl) (aL (pv 1) (aL (pv 2) bB)))) (c8 (j6 (gh (cu:=[]) ux (by simp) T.aF (hr.mono (by decide)) bL (pv 0) (aL (pv 1) bB))))),?_⟩;show dG _ _ _ [some (.ref a.p),some (.str x),some (.int s)] H;obtain⟨dx,fs,hp,ft⟩:=S.ex;obtain⟨dm,fm,kG,BD,jU,fK⟩:=S.mb.ex;obtain⟨l1,l2⟩:=Pq h;walk_at"s";refine eG hp T.aF T.d7 ft.me ?_;refine gq kG (jU _ (by decide+kernel)) ⟨a.pm,a.ps,nm,x,s,rfl,S.mb,by omega,kt,ks,fun hx hs=>hR _ _ ?_⟩;have S:=S.zT (A0:=nm++[(x,s)]);have ow:lS a H (aH H a.ps (.dK (kvsOf (nm++[(x,s)])))):=BN;generalize aH H a.ps (.dK (kvsOf (nm++[(x,s)])))=H1 at S ow⊢;walk_at"rd";exact S.nQ (by decide+kernel) ⟨a,most,_,q,rs,tu,ch,x,rfl,S,by omega,by omega,(by rw[Sw.j4,h.ks,<-Sw.j4];exact hx),fun H' o' S'=>k hx hs H' (ow.trans o') S'⟩
inductive Cb(cC cS C Cm:Addr)(vs:List V)(H:Hp)(Q:VK)(E:XK):Prop|mk (a most nm q rs tu ch x s:_) (h1:vs=[.ref a.p,.str x,.int s]) (h2:Rx C Cm H a most nm q rs tu ch) (h3:nm.length<=90) (h4:rs.length<=90) (h5:1<=most) (h6:most<=1000000) (h7:(aP nm x=none->Rs cC H E)) (h8:(aP nm x≠none->¬(1<=s/\s<=1000000)->Rs cS H E)) (h9:(aP nm x≠none->1<=s/\s<=1000000->∃r,aP rs x=some r/\∀H',lS a H H'->Rx C Cm H' a most (putN nm x s) q (putN rs x (if s*most<r then s*most else r)) tu ch->Q .b7 H')):Cb cC cS C Cm vs H Q E
include T in
theorem zkb:bN P w K mg base (eW P w) 6 cQ "reshare" ["self","name","share"] [[]] (Cb cF cJ cQ cD):=by
 have iQ:=WS P w base T;have tG:=zlw P w base T;refine T.qK.pB (k:=5) ziy (fun vs H Q E h=>?_) (fun f b9 A outer s H vs Q E hr h=>?_)
 ·obtain⟨a,most,nm,q,rs,tu,ch,x,s,rfl,_⟩:=h;rfl
 ·obtain⟨a,most,nm,q,rs,tu,ch,x,s,rfl,S,nl,rl,m0,m1,kc,ks,k⟩:=h;refine⟨_,(bS (j6 (gh (cu:=[]) iQ (by simp) T.bD (hr.mono (by decide)) bL (eK (pv 0) rfl) (aL (pv 1) (aL (pv 2) bB)))) (c8 (j6 (gh (cu:=[]) tG (by simp) T.aF (hr.mono (by decide)) bL (pv 0) (aL (pv 1) bB))))),?_⟩;show dG _ _ _ [some (.ref a.p),some (.str x),some (.int s)] H;obtain⟨dx,fs,hp,ft⟩:=S.ex;obtain⟨dm,fm,kG,BD,jU,fK⟩:=S.mb.ex;walk_at"s";refine eG hp T.aF T.d7 ft.me ?_;refine gq kG (jU _ (by decide+kernel)) ⟨a.pm,a.ps,nm,x,s,rfl,S.mb,by omega,kc,ks,fun hx hs=>hR _ _ ?_⟩;obtain⟨r,jV,k⟩:=k hx hs;obtain⟨s0,s1⟩:=hs;have S:=S.zT (A0:=putN nm x s);have ow:lS a H (aH H a.ps (.dK (kvsOf (putN nm x s)))):=BN;generalize aH H a.ps (.dK (kvsOf (putN nm x s)))=H1 at S ow⊢;walk_at"rd";refine S.nQ (by decide+kernel) ⟨a,most,_,q,rs,tu,ch,x,s,r,rfl,S,by omega,?_,jV,s0,s1,m0,m1,fun H' o' S'=>k H' (ow.trans o') S'⟩;rw[GU,if_pos rfl];cases e:aP nm x with
  |none=>exact absurd e hx
  |some v=>rfl
inductive zY(C Cm:Addr)(vs:List V)(H:Hp)(Q:VK)(E:XK):Prop|mk (a most nm q rs tu ch:_) (h1:vs=[.ref a.p]) (h2:Rx C Cm H a most nm q rs tu ch) (h3:∀l,H l=none->Q (.ref l) (aH H l (.lst (rJ nm)))):zY C Cm vs H Q E
include T in
theorem Xj:bN P w K mg base (eW P w) 2 cQ "names" ["self"] [[]] (zY cQ cD):=by
 have jM:=W7 P w base T;refine T.tS.okN (k:=1) zlk (fun vs H Q E h=>?_) (fun f b9 A outer s H vs Q E hr h=>?_)
 ·obtain⟨a,most,nm,q,rs,tu,ch,rfl,_⟩:=h;rfl
 ·obtain⟨a,most,nm,q,rs,tu,ch,rfl,S,k⟩:=h;refine⟨_,(c8 (gS (xm (cu:=[]) jM (by simp) T.bD (hr.mono (by decide)) aT (eK (pv 0) rfl)))),?_⟩;show iN _ _ [some (.ref a.p)] H;obtain⟨dx,fs,hp,ft⟩:=S.ex;obtain⟨dm,fm,kG,BD,jU,fK⟩:=S.mb.ex;walk_at"rd";refine eG hp T.aF T.d7 ft.me ?_;exact gq kG (jU _ (by decide+kernel)) ⟨a.pm,a.ps,nm,rfl,S.mb,k⟩
inductive EG(C Cm:Addr)(vs:List V)(H:Hp)(Q:VK)(E:XK):Prop|mk (a most nm q rs tu ch:_) (h1:vs=[.ref a.p]) (h2:Rx C Cm H a most nm q rs tu ch) (h3:q.length<900) (h4:rs.length<900) (h5:(∀t,tu=some t->aP rs t≠none)) (h6:∀H',lS a H H'->Rx C Cm H' a most nm (DU q tu) (CD rs tu) none ch->Q .b7 H'):EG C Cm vs H Q E
include T in
theorem ziz:bN P w K mg base (eW P w) 1 cQ "end_turn" ["self"] [[]] (EG cQ cD):=by
 refine T.pU.okN (k:=0) zic (fun vs H Q E h=>?_) (fun f b9 A outer s H vs Q E hr h=>?_)
 ·obtain⟨a,most,nm,q,rs,tu,ch,rfl,_⟩:=h;rfl
 ·obtain⟨a,most,nm,q,rs,tu,ch,rfl,S,lq,lr,ht,k⟩:=h;refine⟨_,(c8 (dW (j7 GV (eK (pv 0) rfl) vC (jL _)) (bS (Ao (bY hr) (eK (pv 0) rfl) (eK (pv 0) rfl) (rC (Uv rfl) rfl T.ya boot_min (aL (o8 (bY hr) (eK (pv 0) rfl) (eK (pv 0) rfl) (fun _ _=>rfl)) (aL bP bB))) rfl) (bS (j6 (sX b6 eR eS Ii (eK (pv 0) rfl) (aL (eK (pv 0) rfl) bB))) (c8 (pI (pv 0) vC rfl)))) kX)),?_⟩;show(_:TS) _ [some (.ref a.p)] H;obtain⟨dx,fs,hp,ft⟩:=S.ex;walk_at"rd";refine eG hp T.aF T.d9 ft.tu ?_;cases tu with
  |none=>
   unfold p8;walk_at"rd";exact k _ (fun _ _ _ _ _ _ e=>e) S
  |some t=>
   cases e:aP rs t with
   |none=>exact absurd e (ht t rfl)
   |some r=>
    unfold DU CD Bf at k;simp only[e,Option.getD_some]at k;unfold p8;walk_at"rd";rw[if_neg (by intro z;cases z)];have hg:=ia.k (k:=az t) S.hr;rw[Fw,e]at hg;walk_at"s";refine eG hp T.aF T.c9 ft.re ?_;refine eG hp T.aF T.d9 ft.tu ?_;walk_at"rd";refine⟨.int r,hg,?_⟩;walk_at"rd";refine eG hp T.aF T.c9 ft.re ?_;refine eG hp T.aF T.d9 ft.tu ?_;walk_at"rd";refine⟨_,lB.k (k:=az t) S.hr (eX (by rw[JY];omega)),hR _ _ ?_⟩;rw[Nu (by rw[e];simp)];clear hR;have S:=S.zS (rs':=putN rs t (if 0<r then 0 else r));have ow:lS a H (aH H a.pg (.dK (kvsOf (putN rs t (if 0<r then 0 else r))))):=u4;generalize aH H a.pg (.dK (kvsOf (putN rs t (if 0<r then 0 else r))))=H1 at S ow⊢;obtain⟨dx,fs,hp,ft⟩:=S.ex;walk_at"s";refine eG hp T.aF T.gD ft.qu ?_;refine⟨GY S.hq,?_⟩;refine eG hp T.aF T.d9 ft.tu ?_;refine KW S.hq (by rw[ae];omega) (hR _ _ ?_);clear hR;have em:q.map V.str++[V.str t]=(q++[t]).map V.str:=by rw[aA];rfl
    unfold p8;rw[em];have S:=S.Ew (q':=q++[t]);have ow:=ow.trans (zP (a:=a) (H:=H1) (o:=.lst ((q++[t]).map V.str)));generalize aH H1 a.pt (.lst ((q++[t]).map V.str))=H2 at S ow⊢;obtain⟨dx,fs,hp,ft⟩:=S.ex;walk_at"rd";refine pJ hp T.aF T.d9 (by have:=ft.len;omega) ?_;exact k _ (ow.trans zO) (S.wU hp (ft.Es none))
def RG(rd:List Str):V->Option V
 | .str x=>if x∈rd then some (.str x)else none
 |_=>none
theorem SV(rd:List Str)(l:List Str):(l.map V.str).filterMap (RG rd)=(l.filter fun x=>decide (x∈rd)).map V.str:=by
 induction l with
 |nil=>rfl
 |cons x r ih=>
  rw[au,kR,gx];unfold RG at ih⊢;by_cases h:x∈rd
  ·simp only[h,if_true,decide_true,au];rw[ih]
  ·simp only[h,if_false,decide_false];rw[ih];rfl
theorem SW(rd:List Str):Gi .b7 (rd.map V.str)=false:=by unfold Gi;rw[Bh];rw[FO];intro x _;show ¬BA (.str x) .b7=true;simp[BA]
inductive EF(C Cm:Addr)(vs:List V)(H:Hp)(Q:VK)(E:XK):Prop|mk (a most nm q rs tu ch rl:_) (rd:List Str) (x s r:_) (h1:vs=[.ref a.p,.ref rl]) (h2:Rx C Cm H a most nm q rs tu ch) (h3:H rl=some (.lst (rd.map V.str))) (h4:rl≠a.pt) (h5:q.find? (fun x=>decide (x∈rd))=some x) (h6:q.Nodup) (h7:q.length<=100) (h8:(∀y∈q,PyData.strOk y=true)) (h9:rs.length<900) (yG:aP nm x=some s) (Dr:aP rs x=some r) (Kl:1<=s) (Km:s<=1000000) (h14:1<=most) (Vs:most<=1000000) (h16:∀H',lS a H H'->Rx C Cm H' a most nm (q.erase x) (putN rs x (r+s*most)) (some x) ch->Q (.str x) H'):EF C Cm vs H Q E
include T in
theorem zhd:bN P w K mg base (eW P w) 5 cQ "begin_turn" ["self","ready"] [[]] (EF cQ cD):=by
 have iz:=WK P w base T;refine T.nO.okN (k:=4) jF (fun vs H Q E h=>?_) (fun f b9 A outer s H vs Q E hr h=>?_)
 ·obtain⟨a,most,nm,q,rs,tu,ch,rl,rd,x,s,r,rfl,_⟩:=h;rfl
 ·obtain⟨a,most,nm,q,rs,tu,ch,rl,rd,x,s,r,rfl,S,vA,nrl,hf,nd,lq,ok,lr,hx,jV,s0,s1,m0,m1,k⟩:=h;refine⟨_,(bS (gA (i:=2) jF.nd rfl (bG (DA K rfl) (sY ["one"] [("ready",1)] rfl (by with_unfolding_all rfl) (by decide+kernel) rfl (by decide+kernel) (by exact⟨rfl,bh⟩) (by with_unfolding_all rfl) ⟨⟨rfl,rfl,rfl⟩,bh⟩ (Ag K rfl (eK (pv 0) rfl)) (fun _ _ _=>(nZ (i:=0) (show(["one","ready"]:List Str).Nodup from by decide+kernel) rfl (by first|left;rfl|right;rfl))) (fun _ _ _=>(Ij (j7 (UZ K rfl) (pv 0) (pv 1) rfl))) (fun _ _ _=>(pv 0))) bP (fun _ _=>rfl))) (bS (j6 (sX b6 PySem.F.slot_list_remove PySem.F.type_list_remove (zwh K rfl hr.GN) (eK (pv 0) rfl) (aL (pv 2) bB))) (bS (pI (pv 0) (pv 2) rfl) (bS (Ao (bY hr) (eK (pv 0) rfl) (pv 2) (aM sL (o8 (bY hr) (eK (pv 0) rfl) (pv 2) (fun _ _=>rfl)) (gh (cu:=[]) iz (by simp) T.aF (hr.mono (by decide)) aT (pv 0) (aL (pv 2) bB))) rfl) (c8 (gS (pv 2))))))),?_⟩;show dG _ _ _ [some (.ref a.p),some (.ref rl),none] H;obtain⟨dx,fs,hp,ft⟩:=S.ex;have xq:x∈q:=iy hf;walk_at"s";refine eG hp T.aF T.gD ft.qu ?_;refine⟨_,rfl,⟨_,.of S.hq⟩,fun D hD=>?_⟩;refine YJ (K:=K) (a:=a.pt) (xs:=q.map V.str) (v0:=none) (caps:=[some (.ref rl)]) (RG rd) hD (.of S.hq) (by rw[ae];omega) (fun v hv v' H' C N' sm h1 h2=>?_) ?_
  ·obtain⟨y,hy,rfl⟩:=av.mp hv;walk_at"rd";refine⟨rl,_,rfl,.inl (.of (sm _ _ vA)),rfl,OU rd,_,rfl,?_⟩;simp only[fQ,if_false];rw[UR];by_cases c:y∈rd
   ·rw[decide_eq_true c];exact h1 _ (show(if y∈rd then some (V.str y)else none)=some (V.str y)by rw[if_pos c])
   ·rw[decide_eq_false c];exact h2 (show(if y∈rd then some (V.str y)else none)=none by rw[if_neg c])
  ·rw[SV];have hh:∃l,(q.filter fun x=>decide (x∈rd))=x::l:=by
    rw[<-List.head?_filter]at hf;cases e:q.filter fun x=>decide (x∈rd)with
    |nil=>rw[e]at hf;cases hf
    |cons y l=>rw[e]at hf;cases hf;exact⟨l,rfl⟩
   obtain⟨l,hl⟩:=hh;rw[hl];refine NL (.of bR) (v:=.str x) (KO (j:=0) rfl) ?_;have s4:=fZ (o:=.lst ((x::l).map V.str)) hD;have S:=S.same s4;have vA:=s4 _ _ vA;have Wj:=s4.own (a:=a);generalize aH H D (.lst ((x::l).map V.str))=H1 at S vA Wj⊢;clear s4;walk_at"rd";refine hR _ _ ?_;clear hR;obtain⟨dx,fs,hp,ft⟩:=S.ex;walk_at"s";refine eG hp T.aF T.gD ft.qu ?_;refine⟨GY S.hq,TW nd xq lq ok S.hq (hR _ _ ?_)⟩;clear hR;have S:=S.Ew (q':=q.erase x);have ow:=Wj.trans (zP (a:=a) (H:=H1) (o:=.lst ((q.erase x).map V.str)));generalize aH H1 a.pt (.lst ((q.erase x).map V.str))=H2 at S ow⊢;obtain⟨dx,fs,hp,ft⟩:=S.ex;walk_at"s";refine pJ hp T.aF T.d9 (by have:=ft.len;omega) (hR _ _ ?_);clear hR;have S:=S.wU hp (ft.Es (some x));have ow:=ow.trans (zO (a:=a) (H:=H2) (o:=.ins cQ dx (aE "turn" (.str x) fs)));have S:Rx cQ cD (aH H2 a.p (.ins cQ dx (aE "turn" (.str x) fs))) a most nm (q.erase x) rs (some x) ch:=S;generalize aH H2 a.p (.ins cQ dx (aE "turn" (.str x) fs))=H3 at S ow⊢;obtain⟨dx,fs,hp,ft⟩:=S.ex;have hg:=ia.k (k:=az x) S.hr;rw[Fw,jV]at hg;walk_at"s";refine eG hp T.aF T.c9 ft.re ?_;walk_at"rd";refine⟨.int r,hg,?_⟩;refine S.nQ (by decide+kernel) ⟨a,most,nm,_,rs,some x,ch,x,s,rfl,S,hx,s0,s1,m0,m1,?_⟩;refine⟨_,rfl,_,rfl,?_⟩;refine eG hp T.aF T.c9 ft.re ?_;walk_at"rd";refine⟨_,lB.k (k:=az x) S.hr (eX (by rw[JY];omega)),hR _ _ ?_⟩;rw[Nu (by rw[jV];simp)];walk_at"rd";exact k _ (ow.trans u4) S.zS
inductive Ca(C Cm:Addr)(vs:List V)(H:Hp)(Q:VK)(E:XK):Prop|mk (a most nm q rs tu ch rl:_) (rd:List Str) (h1:vs=[.ref a.p,.ref rl]) (h2:Rx C Cm H a most nm q rs tu ch) (h3:DM H a most nm q rs tu rl rd) (h4:∀x H',qX q rs tu rd=some x->lS a H H'->Rx C Cm H' a most nm (u5 q rs tu rd x) (sZ most nm rs tu rd x) (some x) ch->Q (.str x) H'):Ca C Cm vs H Q E
include T in
theorem zod:bN P w K mg base (eW P w) 6 cQ "pick" ["self","ready"] [[]] (Ca cQ cD):=by
 have qw:=ziz P w base T;have oE:=zhd P w base T;refine T.uP.okN (k:=5) zmj (fun vs H Q E h=>?_) (fun f b9 A outer s H vs Q E hr h=>?_)
 ·obtain⟨a,most,nm,q,rs,tu,ch,rl,rd,rfl,_⟩:=h;rfl
 ·obtain⟨a,most,nm,q,rs,tu,ch,rl,rd,rfl,S,O,k⟩:=h;refine⟨_,(bS (dW (PW.pt (Im (j7 (UZ K rfl) (eK (pv 0) rfl) (pv 1) rfl) (J1 (j7 BL (o8 (bY hr) (eK (pv 0) rfl) (eK (pv 0) rfl) (fun _ _=>rfl)) bP (jL _))))) (c8 (gS (eK (pv 0) rfl))) kX) (bS (j6 (xm (cu:=[]) qw (by simp) T.aF (hr.mono (by decide)) aT (pv 0))) (c8 (gS (gh (cu:=[]) oE (by simp) T.aF (hr.mono (by decide)) aT (pv 0) (aL (pv 1) bB)))))),?_⟩;show dG _ _ _ [some (.ref a.p),some (.ref rl)] H;obtain⟨dx,fs,hp,ft⟩:=S.ex;have h:=O.ri;have nl:=O.nl;obtain⟨l1,l2⟩:=Pq h;refine bM fun R hR=>?_;have post:qI rs rd tu=false->R [some (.ref a.p),some (.ref rl)] H:=by
   intro kt;refine hR _ _ ?_;have h1:=zzn h;obtain⟨x,s,r,hf,xr,xq,e1,e2⟩:=Z4 h1 O.ne O.sb;obtain⟨s0,s1⟩:=h.sh x s e1;obtain⟨l3,l4⟩:=Pq h1;walk_at"s";refine S.nQ (by decide+kernel) ⟨a,most,nm,q,rs,tu,ch,rfl,S,by omega,by omega,fun t ht=>(zQ h).mpr (BU h ht),fun H1 ow S1=>hR _ _ ?_⟩;walk_at"rd";refine S1.nQ (by decide+kernel) ⟨a,most,nm,_,_,none,ch,rl,rd,x,s,r,rfl,S1,S.Mg ow O.hl O.nq,O.nq,hf,Mx h1,by omega,fun y hy=>O.ok y (RH h1 hy),by omega,e1,e2,s0,s1,h.m0,O.m1,fun H2 ow2 S2=>?_⟩;refine k x H2 ?_ (ow.trans ow2) ?_
   ·unfold qX;rw[kt];exact hf
   ·unfold u5 sZ Bf;rw[kt,e1,e2];exact S2
  clear hR;walk_at"rd";refine eG hp T.aF T.d9 ft.tu ?_;cases tu with
  |none=>
   unfold p8;walk_at"rd";refine⟨rl,_,rfl,.inl (.of O.hl),rfl,OU rd,_,rfl,?_⟩;simp only[fQ,if_false];rw[SW,if_neg (by decide)];exact post rfl
  |some t=>
   unfold p8;walk_at"rd";refine⟨rl,_,rfl,.inl (.of O.hl),rfl,OU rd,_,rfl,?_⟩;simp only[fQ,if_false];rw[UR];refine fX (fun c=>?_) fun c=>?_
   ·have c:t∈rd:=of_decide_eq_true c;cases e:aP rs t with
    |none=>exact absurd e ((zQ h).mpr (BU h rfl))
    |some r=>
     have hg:=ia.k (k:=az t) S.hr;rw[Fw,e]at hg;refine eG hp T.aF T.c9 ft.re ?_;refine eG hp T.aF T.d9 ft.tu ?_;walk_at"rd";refine⟨.int r,hg,?_⟩;walk_at"rd";have er:Bf rs t=r:=by unfold Bf;rw[e];rfl
     refine fX (fun c2=>?_) fun c2=>?_
     ·refine eG hp T.aF T.d9 ft.tu ?_;have kt:qI rs rd (some t)=true:=by rw[KE,er,decide_eq_true c,decide_eq_true c2];rfl
      refine k t H ?_ (fun _ _ _ _ _ _ e=>e) ?_
      ·unfold qX;rw[if_pos kt]
      ·unfold u5 sZ;rw[if_pos kt,if_pos kt];exact S
     ·refine post ?_;rw[KE,er,decide_eq_false c2,Bool.and_false]
   ·refine post ?_;rw[KE,decide_eq_false (fun z=>c (decide_eq_true z)),J7]
inductive wW(C Cm:Addr)(vs:List V)(H:Hp)(Q:VK)(E:XK):Prop|mk (a most nm q rs tu ch x r len:_) (h1:vs=[.ref a.p,.str x,.int len]) (h2:Rx C Cm H a most nm q rs tu ch) (h3:rs.length<900) (h4:aP rs x=some r) (h5:∀H',lS a H H'->Rx C Cm H' a most nm q (putN rs x (r-len)) tu ch->Q .b7 H'):wW C Cm vs H Q E
include T in
theorem zlx:bN P w K mg base (eW P w) 1 cQ "charge" ["self","name","length"] [[]] (wW cQ cD):=by
 refine T.rZ.okN (k:=0) zjz (fun vs H Q E h=>?_) (fun f b9 A outer s H vs Q E hr h=>?_)
 ·obtain⟨a,most,nm,q,rs,tu,ch,x,r,len,rfl,_⟩:=h;rfl
 ·obtain⟨a,most,nm,q,rs,tu,ch,x,r,len,rfl,S,lr,jV,k⟩:=h;refine⟨_,(c8 (Ao (bY hr) (eK (pv 0) rfl) (pv 1) (aM Fy (o8 (bY hr) (eK (pv 0) rfl) (pv 1) (fun _ _=>rfl)) (pv 2)) rfl)),?_⟩;show(_:TS) _ [some (.ref a.p),some (.str x),some (.int len)] H;obtain⟨dx,fs,hp,ft⟩:=S.ex;have hg:=ia.k (k:=az x) S.hr;rw[Fw,jV]at hg;walk_at"rd";refine eG hp T.aF T.c9 ft.re ?_;walk_at"rd";refine⟨.int r,hg,?_⟩;walk_at"rd";refine eG hp T.aF T.c9 ft.re ?_;walk_at"rd";refine⟨_,lB.k (k:=az x) S.hr (eX (by rw[JY];omega)),?_⟩;rw[Nu (by rw[jV];simp)];exact k _ u4 S.zS
inductive EI(C Cm:Addr)(vs:List V)(H:Hp)(Q:VK)(E:XK):Prop|mk (a most nm q rs tu x r len:_) (h1:vs=[.ref a.p,.int len]) (h2:Rx C Cm H a most nm q rs tu (.str x)) (h3:rs.length<900) (h4:aP rs x=some r) (h5:∀H',lS a H H'->Rx C Cm H' a most nm q (putN rs x (r-len)) tu (.str x)->Q .b7 H'):EI C Cm vs H Q E
include T in
theorem zqn:bN P w K mg base (eW P w) 2 cQ "pay" ["self","length"] [[]] (EI cQ cD):=by
 have tE:=zlx P w base T;refine T.vX.okN (k:=1) zob (fun vs H Q E h=>?_) (fun f b9 A outer s H vs Q E hr h=>?_)
 ·obtain⟨a,most,nm,q,rs,tu,x,r,len,rfl,_⟩:=h;rfl
 ·obtain⟨a,most,nm,q,rs,tu,x,r,len,rfl,S,lr,jV,k⟩:=h;refine⟨_,(c8 (j6 (gh (cu:=[]) tE (by simp) T.aF (hr.mono (by decide)) aT (pv 0) (aL (eK (pv 0) rfl) (aL (pv 1) bB))))),?_⟩;show(_:TS) _ [some (.ref a.p),some (.int len)] H;obtain⟨dx,fs,hp,ft⟩:=S.ex;walk_at"rd";refine S.nQ (by decide+kernel) ?_;refine eG hp T.aF T.gU ft.ch ?_;exact⟨a,most,nm,q,rs,tu,.str x,x,r,len,rfl,S,lr,jV,k⟩
inductive wX(cR cC C Cm:Addr)(vs:List V)(H:Hp)(Q:VK)(E:XK):Prop|mk (a most nm q rs tu ch rl:_) (rd:List Str) (h1:vs=[.ref a.p,.ref rl]) (h2:Rx C Cm H a most nm q rs tu ch) (h3:H rl=some (.lst (rd.map V.str))) (h4:(rd=[]->Rs cR H E)) (h5:(rd≠[]->(∃x∈rd,aP nm x=none)->Rs cC H E)) (h6:(rd≠[]->(∀x∈rd,aP nm x≠none)->DM H a most nm q rs tu rl rd/\∀x H',qX q rs tu rd=some x->lS a H H'->Rx C Cm H' a most nm (u5 q rs tu rd x) (sZ most nm rs tu rd x) (some x) (.str x)->Q (.str x) H')):wX cR cC C Cm vs H Q E
include T in
theorem zly:bN P w K mg base (eW P w) 7 cQ "choose" ["self","ready"] [[]] (wX cO cF cQ cD):=by
 have bT:=Nk P w base T;have vH:=zod P w base T;refine T.r6.pB (k:=6) mh (fun vs H Q E h=>?_) (fun f b9 A outer s H vs Q E hr h=>?_)
 ·obtain⟨a,most,nm,q,rs,tu,ch,rl,rd,rfl,_⟩:=h;rfl
 ·obtain⟨a,most,nm,q,rs,tu,ch,rl,rd,rfl,S,vA,kr,kc,k⟩:=h;refine⟨_,(bS (dW (Df (Uy K rfl (pv 1))) (c8 (yJ K rfl rfl yK (yL T.qF T.qJ rfl T.qQ (aL kY bB)))) kX) (bS (DE PassesOwn.leaving rfl (Ag K rfl (pv 1)) (nZ (i:=2) mh.nd rfl (by first|left;rfl|right;rfl)) (c8 (j6 (gh (cu:=[]) bT (by simp) T.bD (hr.mono (by decide)) bL (eK (pv 0) rfl) (aL (pv 2) bB))))) (bS (pI (pv 0) (gh (cu:=[]) vH (by simp) T.aF (hr.mono (by decide)) bL (pv 0) (aL (pv 1) bB)) rfl) (c8 (gS (eK (pv 0) rfl)))))),?_⟩;show dG _ _ _ [some (.ref a.p),some (.ref rl),none] H;walk_at"s";by_cases BF:rd=[]
  ·refine⟨false,.inl ⟨_,.of vA,by rw[BF];rfl⟩,?_⟩;rw[if_pos rfl];exact g9 (kr BF) T.rB
  refine⟨true,.inl ⟨_,.of vA,by cases rd with|nil=>exact absurd rfl BF|cons y r=>rfl⟩,?_⟩;rw[if_neg (by decide)];refine hR _ _ ?_;refine bM fun R hR=>?_;refine DB fun Z hZ=>?_;walk_at"rd";refine⟨⟨_,.of vA⟩,hZ _ _ ?_⟩;obtain⟨dx,fs,hp,ft⟩:=S.ex;obtain⟨dm,fm,kG,BD,jU,fK⟩:=S.mb.ex;refine GR (K:=K) (a:=rl) (xs:=rd.map V.str) (fun i σ H'=>H'=H/\(∃v2,σ=[some (.ref a.p),some (.ref rl),v2])/\∀y∈rd.take i,aP nm y≠none) ⟨rfl,⟨none,rfl⟩,fun y h=>absurd h (by simp)⟩ (fun i σ H' _⟨e,_⟩=>by rw[e];exact .of vA) ?_ ?_
  ·rintro i x σ H2 hx ⟨rfl,⟨v2,rfl⟩,al⟩;obtain⟨y,hy,rfl⟩:∃y,rd[i]?=some y/\V.str y=x:=by simpa using hx
   show(_:TS) _ [some (.ref a.p),some (.ref rl),some (.str y)] _;refine An fun R hR=>?_;walk_at"rd";refine eG hp T.aF T.d7 ft.me ?_;refine gq kG (jU _ (by decide+kernel)) ⟨a.pm,a.ps,nm,y,rfl,S.mb,fun Q6=>hR _ _ ⟨rfl,⟨_,rfl⟩,fun z hz=>?_⟩,fun z=>kc BF ⟨y,aV hy,z⟩⟩;rw[mP hy]at hz;rcases ay.mp hz with v|v
   ·exact al z v
   ·rw[aC.mp v];exact Q6
  ·rintro σ H2 ⟨rfl,⟨v2,rfl⟩,al⟩;rw[ae,bC]at al;obtain⟨O,k⟩:=k BF al;refine hR _ _ ?_;walk_at"s";refine S.nQ (by decide+kernel) ⟨a,most,nm,q,rs,tu,ch,rl,rd,rfl,S,O,fun x H3 e ow S3=>?_⟩;obtain⟨dx,fs,hp,ft⟩:=S3.ex;refine pJ hp T.aF T.gU (by have:=ft.len;omega) (hR _ _ ?_);have S4:=S3.wU hp (ft.A2 (ch':=.str x));walk_at"rd";refine eG bR T.aF T.gU pG ?_;exact k x _ e (ow.trans zO) S4
include T in
theorem zmp:rM P w K mg base (eW P w) 1 "_law_cell_at" ["_law_script","_law_k"] (A4 K):=by
 refine T.sC.okN (k:=0) zle (fun vs H Q E h=>?_) (fun f b9 A outer s H vs Q E hr h=>?_)
 ·obtain⟨a,ns,i,rfl,_⟩:=h;rfl
 ·obtain⟨a,ns,i,rfl,hS,hi,k⟩:=h;refine⟨_,(bS (dW (j7 qU (pv 1) (rC (EX K rfl) rfl T.jo boot_len (aL (pv 0) bB)) (jL _)) (c8 (gS (bG (DA K rfl) (pv 0) (pv 1) (fun _ _=>rfl)))) kX) (c8 (gS bP))),?_⟩;refine⟨_,rfl,_,rfl,a,_,rfl,.inl hS,_,_,rfl,rfl,_,rfl,?_⟩;refine fX (fun h=>?_) (fun h=>?_)
  ·have h':i<(ns.map V.int).length:=of_decide_eq_true h;exact⟨_,rfl,_,rfl,a,_,_,_,rfl,rfl,hS,zue hi (by simpa using h'),k⟩
  ·have h':¬i<(ns.map V.int).length:=fun z=>h (decide_eq_true z);show Q (.int 0) H;rw[zqz hi (by simpa using h')]at k;exact k
theorem zys(xs:List V)(n:Nat)(h:n<=xs.length):qE xs (some (n:Int)) none=xs.drop n:=by unfold qE;rw[HT.Eu,HT.yc,Kd h];exact jy (by rw[vz];omega)
def RQ(cL:Addr):Sp:=fun vs H Q E=>∃m:Int,vs=[.int m]/\(1<=m/\m<=1000000->Q .b7 H)/\(¬(1<=m/\m<=1000000)->Rs cL H E)
include T in
theorem zqo:rM P w K mg base (eW P w) 1 "check_most" ["most"] (RQ cG):=by
 refine T.vg.pB (k:=0) znv (fun vs H Q E h=>?_) (fun f b9 A outer s H vs Q E hr h=>?_)
 ·obtain⟨m,rfl,_⟩:=h;rfl
 ·obtain⟨m,rfl,k,kx⟩:=h;refine⟨_,(c8 (dW (Df (UC qT qT bP (pv 0) (OX rfl T.pZ))) (c8 (yJ K rfl rfl yK (yL T.nF T.nM rfl T.nS (aL kY bB)))) kX)),?_⟩;show rh _ _ _ _ [some (.int m)] H;walk_at"rd";refine fX (fun c1=>fX (fun c2=>k ⟨c1,c2⟩) fun c2=>g9 (kx fun q=>c2 q.2) T.jG) fun c1=>g9 (kx fun q=>c1 q.1) T.jG
def RU:Sp:=fun vs H Q _=>∃z:Str,vs=[.str z]/\z.length<=10000/\∀H',bI H H'->Q (.bl (decide (xu z))) H'
include T in
theorem zxf:rM P w K mg base (eW P w) 1 "is_name" ["text"] RU:=by
 refine T.z7.okN (k:=0) zuk (fun vs H Q E h=>?_) (fun f b9 A outer s H vs Q E hr h=>?_)
 ·obtain⟨z,rfl,_⟩:=h;rfl
 ·obtain⟨z,rfl,zl,k⟩:=h;refine⟨_,(c8 (gS (NK (zxp qT qT bP (rC XF rfl T.jo boot_len (aL (pv 0) bB)) (OX rfl T.tW)) (NJ (rC (zvo K rfl rfl) rfl T.Jm boot_all (aL (sY ["sign"] [] rfl (by with_unfolding_all rfl) (by decide+kernel) rfl (by decide+kernel) (by exact bh) (by with_unfolding_all rfl) bh (TX (pv 0)) (fun _ _ _=>(nZ (i:=0) (show(["sign"]:List Str).Nodup from by decide+kernel) rfl (by first|left;rfl|right;rfl))) (fun _ _ _=>OY) (fun _ _ _=>(GW TY (pv 0) (KN rfl T.AX) rfl))) bB)))))),?_⟩;show iN _ _ [some (.str z)] H;walk_at"rd";have no:∀{H'},bI H H'->¬xu z->Q (.bl false) H':=fun s q=>by have:=k _ s;rw[decide_eq_false q]at this;exact this
  refine⟨SE (by omega),fX (fun c1=>fX (fun c2=>?_) fun c2=>no (bI.refl _) fun q=>c2 (by have:=q.1.2;omega)) fun c1=>no (bI.refl _) fun q=>c1 (by have:=q.1.1;omega)⟩;simp only[LL];walk_at"rd";intro D hD;show pe _ _ _ _ D [none] _ _;refine zyf (fun i τ H'=>(∃v,τ=[v])/\bI H H'/\H' D=some (.lst (((z.cps.toList.take i).map fun c=>decide (c∈lets.cps.toList)).map V.bl))) ⟨⟨none,rfl⟩,fZ hD,bR⟩ ?_ ?_
  ·rintro i c τ H' hc ⟨⟨v,rfl⟩,s',DY⟩;have hi:=(aD.mp hc).1;rw[Sw.len_list]at hi;walk_at"rd";simp only[Bb,if_true];walk_at"rd";refine⟨sg c,lets,rfl,rfl,?_⟩;refine⟨_,DY,Fx (by rw[ae,ae,bV];omega),fun b o e=>?_,?_⟩
   ·rw[dj (kW e hD)];exact s' _ _ e
   ·rw[bR,Cp hc,aA,aA];show some (HO.lst (_++[V.bl (Txt.contains lets (sg c))]))=some (HO.lst (_++[V.bl (decide (c∈lets.cps.toList))]));rw[Sw.in_str lets c]
  ·rintro τ H1 ⟨_,s1,DY⟩;rw[<-Sw.len_list,bC]at DY;refine⟨D,_,rfl,.of DY,?_⟩;have e:((z.cps.toList.map fun c=>decide (c∈lets.cps.toList)).all id)=decide (xu z):=by
    rw[fk,jQ,decide_eq_true_iff];constructor
    ·intro h;refine⟨⟨by omega,by omega⟩,fun c hc=>?_⟩;have:=h _ (av.mpr ⟨c,hc,rfl⟩)
     simpa using this
    ·intro h x hx;obtain⟨c,hc,rfl⟩:=av.mp hx
     simpa using h.2 c hc
   rw[e];exact k _ s1
def RS(cS cR cM:Addr):Sp:=fun vs H Q _=>∃(kd:Str)(m:Int),vs=[.str kd,.int m]/\1<=m/\(kj kd->∀(a:lz) H',bI H H'->(∀b∈lI a,H b=none)->yM cS cR cM H' a m (b5.new (um kd))->Q (.ref a.p) H')/\(¬kj kd->Q .b7 H)
include T in
theorem XU:rM P w K mg base (eW P w) 6 "chooser_of" ["kind","most"] (RS cU cQ cD):=by
 have DI:=zyq P w base T;have DH:=zyr P w base T;refine T.vh.okN (k:=5) znw (fun vs H Q E h=>?_) (fun f b9 A outer s H vs Q E hr h=>?_)
 ·obtain⟨c,m,rfl,_⟩:=h;rfl
 ·obtain⟨kd,m,rfl,m1,k,kn⟩:=h;refine⟨_,(bS (dW (j7 ji (pv 0) kY (jL _)) (c8 (gS (Nt (cu:=[]) DI (by simp) (hr.mono (by decide)) aT rfl T.CQ (aL (pv 1) bB)))) kX) (bS (dW (j7 ji (pv 0) kY (jL _)) (c8 (gS (Nt (cu:=[]) DH (by simp) (hr.mono (by decide)) aT rfl T.CP (aL (pv 1) bB)))) kX) (c8 (gS vC)))),?_⟩;show dG _ _ _ [some (.str kd),some (.int m)] H;have no:∀{H1:Hp}{b:Addr},bI H H1->H1 b=none->H b=none:=fun{H1 b} s e=>by
   cases z:H b with
   |none=>rfl
   |some o=>rw[s _ _ z]at e;cases e
  have nw:∀{a:lz}{H1:Hp},bI H H1->H a.p=none->H1 a.pm=none->H1 a.ps=none->H1 a.pt=none->H1 a.pg=none->∀b∈lI a,H b=none:=fun{a H1} s h1 h2 h3 h4 h5 b hb=>by
   rcases iS.mp hb with z|z|z|z|z <;> subst z
   ·exact h1
   ·exact no s h2
   ·exact no s h3
   ·exact no s h4
   ·exact no s h5
  walk_at"s";refine fX (fun c1=>?_) fun c1=>hR _ _ ?_
  ·intro x dx hx F9 ne;refine⟨x,dx,m,rfl,bR,fun a H2 ea bt n1 n2 n3 n4 S=>⟨rfl,?_⟩⟩;subst ea;have e:um kd=false:=by rw[c1];decide+kernel
   exact k (.inl c1) a H2 (bt.same (EY hx F9) hx) (nw (EY hx F9) hx n1 n2 n3 n4) (by rw[e];exact S)
  clear hR;walk_at"s";refine fX (fun c2=>?_) fun c2=>hR _ _ ?_
  ·intro x dx hx F9 ne;refine⟨x,dx,m,rfl,bR,fun a H2 ea bt n1 n2 n3 n4 S=>⟨rfl,?_⟩⟩;subst ea;have e:um kd=true:=by rw[c2];decide+kernel
   exact k (.inr c2) a H2 (bt.same (EY hx F9) hx) (nw (EY hx F9) hx n1 n2 n3 n4) (by rw[e];exact S)
  walk_at"rd";exact kn fun q=>q.elim c1 c2
inductive JK(cN:Addr)(vs:List V)(H:Hp)(Q:VK)(E:XK):Prop|mk (x dx ab ch rm:_) (h1:vs=[.ref x,ab,ch,rm]) (h2:H x=some (.ins cN dx [])) (h3:∀ql fs H',vv x H H'->H ql=none->H' x=some (.ins cN dx fs)->FN fs ab ch rm .b7 ql->H' ql=some (.lst [])->Q .b7 H'):JK cN vs H Q E
include T in
theorem zzs:FW P w K mg base (eW P w) 1 cK ["self","above","chooser","room"] [[],[V.b7]] (JK cK):=by
 refine T.Gj.okN (k:=0) zqe (fun vs H Q E h=>?_) (fun f b9 A outer s H vs Q E hr h=>?_)
 ·obtain⟨x,dx,ab,ch,rm,rfl,_⟩:=h;rfl
 ·obtain⟨x,dx,ab,ch,rm,rfl,hx,k⟩:=h;refine⟨_,(bS (pI (pv 0) (pv 1) rfl) (bS (pI (pv 0) (pv 2) rfl) (bS (pI (pv 0) (pv 3) rfl) (bS (pI (pv 0) vC rfl) (c8 (pI (pv 0) (Dg bB) rfl)))))),?_⟩;show dG _ _ _ [some (.ref x),some ab,some ch,some rm] H;have l1:=ki (fs:=[]) (f:="above") (v:=ab);have l2:=ki (fs:=aE "above" ab []) (f:="chooser") (v:=ch);have l3:=ki (fs:=aE "chooser" ch (aE "above" ab [])) (f:="room") (v:=rm);have l4:=ki (fs:=aE "room" rm (aE "chooser" ch (aE "above" ab []))) (f:="bucket") (v:=.b7);simp only[bU]at l1;walk_at"s";refine pJ hx T.dB T.lK (by simp) (hR _ _ ?_);clear hR;walk_at"s";refine pJ bR T.dB T.bZ (by omega) (hR _ _ ?_);clear hR;rw[EZ];walk_at"s";refine pJ bR T.dB T.mK (by omega) (hR _ _ ?_);clear hR;rw[EZ];walk_at"s";refine pJ bR T.dB T.kJ (by omega) (hR _ _ ?_);clear hR;rw[EZ];walk_at"rd";intro ql NY;have nx:ql≠x:=fun z=>by rw[z,bR]at NY;cases NY
  have Gw:H ql=none:=by rw[dj nx]at NY;exact NY
  refine pJ (by rw[dj (d8 nx),bR]) T.dB T.gF (by omega) ?_;refine k ql _ _ (fun b o n e=>?_) Gw bR (FN.Jk _ _ _ _ _) ?_
  ·rw[dj n,dj (kW e Gw),dj n];exact e
  ·rw[dj nx,bR]
def RO(cC:Addr)(C:Cl):Sp:=fun vs H Q E=>∃(D:TD)(x:Str),vs=[.ref D.p,.str x]/\bQ C H D/\(x≠road->bz D.ns x≠none->Q .b7 H)/\(x=road\/bz D.ns x=none->Rs cC H E)
include T in
theorem Nl:bN P w K mg base (eW P w) 1 cX "check_class" ["self","name"] [[]] (RO cF (⟨cK,cU,cQ,cD,cK,cX⟩:Cl)):=by
 refine T.oW.pB (k:=0) zgy (fun vs H Q E h=>?_) (fun f b9 A outer s H vs Q E hr h=>?_)
 ·obtain⟨D,x,rfl,_⟩:=h;rfl
 ·obtain⟨D,x,rfl,O,k,kx⟩:=h;refine⟨_,(c8 (dW (PW.pt (pw_or (j7 ji (pv 1) (KN rfl T.x8) (jL _)) (NI (J5 (Ux (bY hr) (pv 1) (eK (pv 0) rfl)))))) (c8 (yJ K rfl rfl yK (yL T.pQ T.pS rfl T.mJ (aL kY bB)))) kX)),?_⟩;show rh _ _ _ _ [some (.ref D.p),some (.str x)] H;obtain⟨dx,fs,hp,ft⟩:=O.ex;walk_at"rd";refine fX (fun c1=>g9 (kx (.inl c1)) T.kN) fun c1=>?_;refine eG hp T.aJ T.bA ft.no ?_;walk_at"rd";refine⟨_,ia.k (k:=az x) O.hn,?_⟩;rw[NG];cases e:bz D.ns x with
  |none=>exact g9 (kx (.inr e)) T.kN
  |some v=>exact k c1 (by rw[e];simp)
inductive MH(C:Cl)(vs:List V)(H:Hp)(Q:VK)(E:XK):Prop|mk (D:TD) (x:Str) (ys:List Str) (h1:vs=[.ref D.p,.str x]) (h2:bQ C H D) (h3:Up D.ns x ys) (h4:ys.length<=900) (h5:∀l H',bI H H'->H l=none->H' l=some (.lst (ys.reverse.map V.str))->Q (.ref l) H'):MH C vs H Q E
include T in
theorem No:bN P w K mg base (eW P w) 1 cX "from_road" ["self","name"] [[]] (MH (⟨cK,cU,cQ,cD,cK,cX⟩:Cl)):=by
 refine T.qM.okN (k:=0) iW (fun vs H Q E h=>?_) (fun f b9 A outer s H vs Q E hr h=>?_)
 ·obtain⟨D,x,ys,rfl,_⟩:=h;rfl
 ·obtain⟨D,x,ys,rfl,O,U,yl,k⟩:=h;refine⟨_,(bS (gA (i:=2) iW.nd rfl (Dg bB)) (bS (KH PassesOwn.never (j7 GV (pv 1) vC (jL _)) (bS (j6 (sX b6 eR eS Ii (pv 2) (aL (pv 1) bB))) (c8 (gA (i:=1) iW.nd rfl (eK (o8 (bY hr) (eK (pv 0) rfl) (pv 1) (fun _ _=>rfl)) rfl))))) (bS (j6 (Tt b6 PySem.F.slot_list_reverse PySem.F.type_list_reverse zud (pv 2))) (c8 (gS (pv 2)))))),?_⟩;show dG _ _ _ [some (.ref D.p),some (.str x),none] H;walk_at"s";intro l hl;have s0:=fZ (o:=.lst []) hl;refine hR _ _ ?_;clear hR;refine bM fun R hR=>?_;refine Pd (fun m σ H'=>∃(xo:Option Str)(zs ws:List Str),σ=[some (.ref D.p),some (p8 xo),some (.ref l)]/\bI H H'/\H' l=some (.lst (zs.map V.str))/\ys=zs++ws/\(∀z,xo=some z->Up D.ns z ws)/\(xo=none->ws=[])/\m=ws.length) ⟨some x,[],ys,rfl,s0,bR,rfl,fun z e=>(by cases e;exact U),fun e=>(by cases e),rfl⟩ ?_;rintro m σ H1 ⟨xo,zs,ws,rfl,s1,h1,ey,hu,hn,rfl⟩;cases xo with
  |none=>
   refine⟨false,fun Q hQ=>?_,fun z=>(by cases z),fun _=>?_⟩
   ·walk_at"rd";exact hQ
   ·have:ws=[]:=hn rfl;subst this;rw[bw]at ey;subst ey;refine hR _ _ ?_;clear hR;walk_at"s";refine⟨GY h1,l,_,rfl,rfl,h1,hR _ _ ?_⟩;walk_at"rd";refine k l _ (fun b o e=>?_) hl ?_
    ·rw[dj (kW e hl)];exact s1 _ _ e
    ·rw[bR,List.map_reverse]
  |some z=>
   have Uz:=hu z rfl;obtain⟨n,hz⟩:=Uz.Ho;refine⟨true,fun Q hQ=>?_,fun _=>?_,fun z=>by cases z⟩
   ·walk_at"rd";exact hQ
   ·have zl:zs.length<=900:=by rw[ey,bF]at yl;omega
    walk_at"s";refine⟨GY h1,KW h1 (by rw[ae];omega) (hR _ _ ?_)⟩;clear hR;have O1:=O.same s1;have s2:bI H (aH H1 l (.lst (zs.map V.str++[.str z]))):=fun b o e=>by rw[dj (kW e hl)];exact s1 _ _ e
    have O2:=O.same s2;have h2:aH H1 l (.lst (zs.map V.str++[.str z])) l=some (.lst ((zs++[z]).map V.str)):=by rw[bR,aA];rfl
    show wu _ _ _ _ (aH H1 l (.lst (zs.map V.str++[.str z])));generalize aH H1 l (.lst (zs.map V.str++[.str z]))=H2 at s2 O2 h2⊢;obtain⟨dx,fs,hp,ft⟩:=O2.ex;obtain⟨gf,_⟩:=jK hz;obtain⟨dn,fn,oS,mW⟩:=(O2.nd n gf).ex;walk_at"rd";refine eG hp T.aJ T.bA ft.no ?_;walk_at"rd";refine⟨_,jW O2 hz,?_⟩;refine eG oS T.dB T.lK mW.ab ?_;cases Uz with
    |top q1 q2=>
     rw[hz]at q1;cases q1
     exact⟨0,by simp,none,by rw[q2],s2,zs++[z],h2,[],by rw[bw];exact ey,fun z e=>(by cases e),fun _=>rfl,rfl⟩
    |on q1 q2 q3=>
     rw[hz]at q1;cases q1
     rename_i y Nj
     exact⟨Nj.length,by simp,some y,by rw[q2],s2,zs++[z],h2,Nj,by rw[ey];simp,fun z e=>(by cases e;exact q3),fun e=>(by cases e),rfl⟩
inductive MC(cP:Addr)(C:Cl)(vs:List V)(H:Hp)(Q:VK)(E:XK):Prop|mk (D:TD) (u kd:Str) (n:ND) (ys:List Str) (h1:vs=[.ref D.p,.str u,.str kd]) (h2:bQ C H D) (h3:bz D.ns u=some n) (h4:Up D.ns u ys) (h5:ys.length<=900) (h6:(∀H',bI H H'->¬(nK kd/\n.ch≠none/\ys.length<=5)->Rs cP H' E)) (h7:(∀H',bI H H'->nK kd/\n.ch≠none/\ys.length<=5->Q .b7 H')):MC cP C vs H Q E
include T in
theorem zio:bN P w K mg base (eW P w) 2 cX "check_place" ["self","under","kind"] [[]] (MC cI (⟨cK,cU,cQ,cD,cK,cX⟩:Cl)):=by
 have dO:=No P w base T;refine T.oX.pB (k:=1) zgz (fun vs H Q E h=>?_) (fun f b9 A outer s H vs Q E hr h=>?_)
 ·obtain⟨D,u,kd,n,ys,rfl,_⟩:=h;rfl
 ·obtain⟨D,u,kd,n,ys,rfl,O,hu,U,yl,kx,k⟩:=h;obtain⟨lO,lJ,lP⟩:=T.nR;refine⟨_,(bS (dW (PW.pt (Im (j7 sW (pv 2) (KN rfl T.BH) (jL _)) (J1 (j7 (YQ K rfl) (pv 2) (O8 (v:=.ref lO) rfl lJ rfl) rfl)))) (c8 (yJ K rfl rfl yK (yL T.kC T.kH rfl T.kI (aL kY bB)))) kX) (bS (dW (j7 UY (eK (o8 (bY hr) (eK (pv 0) rfl) (pv 1) (fun _ _=>rfl)) rfl) vC (jL _)) (c8 (yJ K rfl rfl yK (yL T.kC T.kH rfl T.kI (aL kY bB)))) kX) (c8 (dW (j7 BL (rC (EX K rfl) rfl T.jo boot_len (aL (gh (cu:=[]) dO (by simp) T.aJ (hr.mono (by decide)) bL (pv 0) (aL (pv 1) bB)) bB)) (OX rfl T.uW) (jL _)) (c8 (yJ K rfl rfl yK (yL T.kC T.kH rfl T.kI (aL kY bB)))) kX)))),?_⟩;show dG _ _ _ [some (.ref D.p),some (.str u),some (.str kd)] H;obtain⟨dx,fs,hp,ft⟩:=O.ex;obtain⟨gf,_⟩:=jK hu;obtain⟨dn,fn,oS,mW⟩:=(O.nd n gf).ex;walk_at"s";have on:nK kd->R [some (.ref D.p),some (.str u),some (.str kd)] H:=fun ok=>hR _ _ (by
   clear hR;walk_at"s";refine eG hp T.aJ T.bA ft.no ?_;walk_at"rd";refine⟨_,jW O hu,?_⟩;refine eG oS T.dB T.bZ mW.ch ?_;cases hc:n.ch with
   |none=>
    walk_at"rd";exact g9 (kx H (bI.refl _) fun q=>q.2.1 hc) T.kO
   |some c=>
    show R _ _;refine hR _ _ ?_;walk_at"rd";refine gq hp (om ft _) ⟨D,u,ys,rfl,O,U,yl,fun l H' s' hl e=>?_⟩;refine Ip (.of e) ⟨_,rfl,?_⟩;rw[ae,dI];refine fX (fun c2=>g9 (kx H' s' fun q=>by omega) T.kO) fun c2=>k H' s' ⟨ok,by rw[hc];simp,by omega⟩)
  refine fX (fun c1=>on (.inl c1)) fun c1=>?_;refine⟨_,_,rfl,.inr (lP H),rfl,rfl,_,rfl,?_⟩;rw[Zv,if_pos rfl];by_cases c2:kj kd
  ·rw[if_neg (by simp[c2])];exact on (.inr c2)
  ·rw[if_pos (by simp[c2])];exact g9 (kx H (bI.refl _) fun q=>q.1.elim c1 c2) T.kO
inductive MS(cN cT cC cP cS cL:Addr)(C:Cl)(vs:List V)(H:Hp)(Q:VK)(E:XK):Prop|mk (D:TD) (x u kd:Str) (s:Int) (rm:V) (h1:vs=[.ref D.p,.str x,.str u,.str kd,.int s,rm]) (h2:bQ C H D) (h3:D.Wf) (h4:D.fit) (h5:PP 10000 x) (h6:(rm= .b7\/∃r,rm= .int r)) (h7:(∀r,lH D x u kd s rm=some r->∀H',bI H H'->Rs (r.at cN cT cC cP cS cL) H' E)) (h8:(lH D x u kd s rm=none->∀(un:ND)(c:lz×b5)(n:ND) H',bz D.ns u=some un->un.ch=some c->n.nm=x->n.ab=some u->n.rm=rm->n.bk=none->n.ps=[]->n.qu=[]->(kd=Str.ofString "leaf"->n.ch=none)->(kj kd->∃a,n.ch=some (a,b5.new (um kd)))->(∀b∈n.foot,H b=none)->bQ C H' (D.put un c s n)->iJ D.foot H H'->Q .b7 H')):MS cN cT cC cP cS cL C vs H Q E
include T in
theorem zul:bN P w K mg base (eW P w) 7 cX "put" ["self", "name", "under", "kind", "share", "room"] [[],[V.b7]] (MS cH cV cF cI cJ cG (⟨cK,cU,cQ,cD,cK,cX⟩:Cl)):=by
  have Ct:=zxf P w base T
  have pL:=zio P w base T
  have ig:=Uq P w base T
  have xG:=zqk P w base T
  have xE:=zqm P w base T
  have Au:=zzs P w base T
  have mD:=XU P w base T
  refine T.zG.pB (k:=6) zrn (fun vs H Q E h=>?_) (fun f b9 A outer s H vs Q E hr h=>?_)
  · obtain ⟨D,x,u,kd,s,rm,rfl,_⟩:=h
    rfl
  · obtain ⟨D,x,u,kd,s,rm,rfl,O,W,F,xl,QX,kx,k⟩:=h
    refine ⟨_,(bS (dW (Df (DC (ja Ct (hr.mono (by decide)) rfl bL (aL (pv 1) bB)))) (c8 (yJ K rfl rfl yK (yL T.CF T.CM rfl T.CO (aL kY bB)))) kX) (bS (dW (J5 (Po (bY hr) (pv 1) (eK (pv 0) rfl))) (c8 (yJ K rfl rfl yK (yL T.zf T.zA rfl T.zI (aL kY bB)))) kX) (bS (dW (J5 (Ux (bY hr) (pv 2) (eK (pv 0) rfl))) (c8 (yJ K rfl rfl yK (yL T.pQ T.pS rfl T.mJ (aL kY bB)))) kX) (bS (j6 (gh (cu:=[]) pL (by simp) T.aJ (hr.mono (by decide)) bL (pv 0) (aL (pv 2) (aL (pv 3) bB)))) (bS (j6 (ja ig (hr.mono (by decide)) rfl bL (aL (pv 4) bB))) (bS (dW (PW.pt (Im (j7 ji (pv 3) (KN rfl T.BH) (jL _)) (Im (j7 GV (pv 5) vC (jL _)) (J1 (j7 qU (pv 5) bP (jL _)))))) (c8 (yJ K rfl rfl yK (yL T.nF T.nM rfl T.nS (aL kY bB)))) kX) (bS (j6 (Iq (gh (cu:=[]) xG (by simp) T.aN (hr.mono (by decide)) bL (eK (o8 (bY hr) (eK (pv 0) rfl) (pv 2) (fun _ _=>rfl)) rfl) (aL (pv 1) (aL (pv 4) bB))) (gh (cu:=[]) xE (by simp) T.aF (hr.mono (by decide)) bL (eK (o8 (bY hr) (eK (pv 0) rfl) (pv 2) (fun _ _=>rfl)) rfl) (aL (pv 1) (aL (pv 4) bB))))) (c8 (Ao (bY hr) (eK (pv 0) rfl) (pv 1) (Nt (cu:=[]) Au (by simp) (hr.mono (by decide)) bL rfl T.BI (aL (pv 2) (aL (ja mD (hr.mono (by decide)) rfl bL (aL (pv 3) (aL (eK (pv 0) rfl) bB))) (aL (pv 5) bB)))) rfl))))))))),?_⟩
    show dG _ _ _ [some (.ref D.p),some (.str x),some (.str u),some (.str kd),some (.int s),some rm] H
    walk_at "s"
    refine ⟨x,rfl,xl.2,fun H1 s1=>?_⟩
    by_cases c1:xu x
    case neg =>
      rw [decide_eq_false c1]
      walk_at "rd"
      exact g9 (kx _ (Zw c1) H1 s1) T.De
    rw [decide_eq_true c1]
    walk_at "rd"
    refine hR _ _ ?_
    clear hR
    have O1:=O.same s1
    obtain ⟨dx,fs,hp,ft⟩:=O1.ex
    walk_at "s"
    refine eG hp T.aJ T.bA ft.no ?_
    walk_at "rd"
    refine ⟨_,ia.k (k:=az x) O1.hn,?_⟩
    rw [NG]
    cases hx:bz D.ns x with
    | some v =>
      exact g9 (kx _ (YT c1 (by rw [hx]; simp)) H1 s1) T.Ad
    | none =>
    refine hR _ _ ?_
    clear hR
    walk_at "s"
    refine eG hp T.aJ T.bA ft.no ?_
    walk_at "rd"
    refine ⟨_,ia.k (k:=az u) O1.hn,?_⟩
    rw [NG]
    cases hu:bz D.ns u with
    | none =>
      exact g9 (kx _ (Z3 c1 hx hu) H1 s1) T.kN
    | some un =>
    refine hR _ _ ?_
    clear hR
    obtain ⟨gZ,Fp⟩:=jK hu
    obtain ⟨ys,U,yl⟩:=W.up un gZ
    rw [Fp] at U
    walk_at "s"
    refine gq hp (om ft _) ⟨D,u,kd,un,ys,rfl,O1,hu,U,by omega,fun H2 s2 bad=>?_,fun H2 s2 IX=>hR _ _ ?_⟩
    · exact kx _ (YU c1 hx hu fun q=>bad ⟨q.1,q.2.1,q.2.2 ys U⟩) H2 (s1.trans s2)
    clear hR
    have gd:nK kd/\un.ch≠none/\∀ ys,Up D.ns u ys->ys.length<=5:=⟨IX.1,IX.2.1,fun zs z=>by rw [<- U.det z]; exact IX.2.2⟩
    walk_at "s"
    refine ⟨s,rfl,fun c3=>hR _ _ ?_,fun c3=>kx _ (YV c1 hx hu gd c3) H2 (s1.trans s2)⟩
    clear hR
    have Oz:=s1.trans s2
    have O2:=O.same Oz
    clear hp ft dx fs O1 s1 s2
    walk_at "s"
    have post:¬ (kd=Str.ofString "leaf" /\ ∃ r:Int,rm = .int r/\r<0)->R [some (.ref D.p),some (.str x),some (.str u),some (.str kd),some (.int s),some rm] H2:=fun c4=>hR _ _ (by
      clear hR
      have k:=k (Zx c1 hx hu gd c3 c4)
      cases hc:un.ch with
      | none=>exact absurd hc gd.2.1
      | some c =>
      obtain ⟨dx,fs,hp,ft⟩:=O2.ex
      have N2:=O2.nd un gZ
      obtain ⟨dn,fn,oS,mW⟩:=N2.ex
      rw [hc] at mW
      have CS:=N2.ch c hc
      have k9:=W.k9 un gZ c hc
      have nx:aP c.2.nm x=none:=by
        rw [Sw.j4,W.Al un gZ c hc]
        intro z
        unfold iD at z
        obtain ⟨y,hy,e⟩:=av.mp z
        exact nG.mp hx (av.mpr ⟨y,(dw.mp hy).1,e⟩)
      have csz:=F.2 un gZ c hc
      have fl:=F.1
      have kl:=W.lj gZ hc
      obtain ⟨a,cs⟩:=c
      refine bM fun R hR=>?_
      have Hh:∀ H3,lS a H2 H3->yM cU cQ cD H3 a D.most (cs.put x s)->R [some (.ref D.p),some (.str x),some (.str u),some (.str kd),some (.int s),some rm] H3:=fun H3 ow C3=>hR _ _ (by
        clear hR
        have O3:=O2.uf W.nn gZ hc ow C3
        obtain ⟨d3,f3,l7,Qk⟩:=O3.ex
        walk_at "rd"
        refine eG l7 T.aJ T.fh Qk.mo ?_
        walk_at "rd"
        have b3:∀ {b o},H b=some o->∃ o',H3 b=some o':=fun {b o} e=>by
          by_cases q:b∈lI a
          · exact (C3.at q).imp fun _ z=>z.1
          · exact ⟨o,ow.kU _ _ q (Oz _ _ e)⟩
        have n3:∀ {b},H3 b=none->H b=none:=fun {b} e=>by
          cases z:H b with
          | none=>rfl
          | some o=>obtain ⟨o',z'⟩:=b3 z; rw [e] at z'; cases z'
        have hx3:bz (dF D.ns { un with ch:=some (a,cs.put x s) }) x=none:=by
          rw [UL]
          split
          · rw [hx]; rfl
          · exact hx
        have fin:∀ (yF:Option (lz×b5)) (H4:Hp),bI H3 H4->(∀ c,yF=some c->yM cU cQ cD H4 c.1 D.most c.2/\∀ b∈lI c.1,H3 b=none)->(kd=Str.ofString "leaf" -> yF=none)->(kj kd->∃ a,yF=some (a,b5.new (um kd)))->∀ y dy,H4 y=none->H4 dy=none ->
            JK cK [V.ref y,V.str u,Lb yF,rm] (aH (aH H4 dy (.own y)) y (.ins cK dy [])) (fun v H2=>v=V.b7/\JB K (Str.ofString "nodes") (V.ref D.p) H2 fun x3 H2=>∃ a,x3=V.ref a/\∃ x4,lB H2 a (V.str x) (V.ref y) x4/\Q V.b7 x4) (fun v d H'=>E v d H'):=fun yF H4 s4 CI klf Gm y dy hy I0=>by
          refine ⟨y,dy,.str u,Lb yF,rm,rfl,bR,fun ql fs H5 bt hq h1 h2 h3=>⟨rfl,?_⟩⟩
          obtain ⟨s5,N5,fd5,q4⟩:=nD.new (C:=(⟨cK,cU,cQ,cD,cK,cX⟩:Cl)) (m:=D.most) (nm:=x) (ab:=some u) hy I0 bt hq h1 h2 h3 fun c e=>(CI c e).1
          have O5:=O3.same (s4.trans s5)
          obtain ⟨d5,f5,hp5,DW⟩:=O5.ex
          have Wd:∀ {b},H4 b=none->H3 b=none:=fun {b} e=>by
            cases z:H3 b with
            | none=>rfl
            | some o=>rw [s4 _ _ z] at e; cases e
          have fr:∀ b∈ND.foot ⟨x,y,ql,some u,yF,rm,none,[],[]⟩,H3 b=none:=fun b hb=>by
            unfold ND.foot at hb
            rcases ao.mp hb with z | hb
            · rw [z]; exact Wd hy
            rcases ao.mp hb with z | hb
            · rw [z]; exact Wd q4
            rcases ay.mp hb with z | z
            · cases yF with
              | none=>cases z
              | some c=>exact (CI c rfl).2 b z
            · cases z
          refine eG hp5 T.aJ T.bA DW.no ?_
          refine ⟨_,rfl,_,lB.k (k:=az x) O5.hn (Fx (by rw [Z1]; unfold dF; rw [ae]; omega)),?_⟩
          have e5:=SA (n:=⟨x,y,ql,some u,yF,rm,none,[],[]⟩) hx3
          rw [e5]
          refine k un (a,cs) ⟨x,y,ql,some u,yF,rm,none,[],[]⟩ _ hu hc rfl rfl rfl rfl rfl rfl klf Gm (fun b hb=>n3 (fr b hb)) (O3.snoc (s4.trans s5) N5 fd5 fr) fun b o nb e=>?_
          rw [dj (fun z=>nb (by rw [z]; exact ai _ (aj ..)))]
          refine s5 _ _ (s4 _ _ (ow.kU _ _ (fun z=>nb (TD.e8 gZ ?_)) (Oz _ _ e)))
          unfold ND.foot
          rw [hc]
          exact ai _ (ai _ (ay.mpr (.inl z)))
        refine ⟨kd,D.most,rfl,W.m1.1,fun ik a' H4 s4 na C4 y dy hy I0 _=>fin (some (a',b5.new (um kd))) H4 s4 (fun c e=>?_) (fun e=>?_) (fun _=>⟨a',rfl⟩) y dy hy I0,fun nk y dy hy I0 _=>fin none H3 (bI.refl _) (fun c e=>by cases e) (fun _=>rfl) (fun z=>absurd z nk) y dy hy I0⟩
        · cases e; exact ⟨C4,na⟩
        · subst e
          exact absurd ik (by decide +kernel))
      clear hR
      walk_at "rd"
      cases cs with
      | st nm tg gs ck ch N =>
        refine .inl ?_
        walk_at "rd"
        refine eG hp T.aJ T.bA ft.no ?_
        walk_at "rd"
        refine ⟨_,jW O2 hu,?_⟩
        refine eG oS T.dB T.bZ mW.ch ?_
        have S:Sx cU cD H2 a D.most nm tg gs ck ch N:=CS
        obtain ⟨CB,qp,pr,rG,zk,jV⟩:=S.ex
        refine gq rG (zk.qv _) ⟨a,D.most,nm,tg,gs,ck,ch,N,x,s,rfl,S,?_,fun z=>absurd nx z,fun _ z=>absurd c3 z,fun _ _ H3 ow S'=>Hh H3 ow S'⟩
        have:N<=800:=csz
        omega
      | rd nm q rs tu ch =>
        refine .inr ?_
        walk_at "rd"
        refine eG hp T.aJ T.bA ft.no ?_
        walk_at "rd"
        refine ⟨_,jW O2 hu,?_⟩
        refine eG oS T.dB T.bZ mW.ch ?_
        have S:Rx cQ cD H2 a D.most nm q rs tu ch:=CS
        refine S.nQ (by decide +kernel) ⟨a,D.most,nm,q,rs,tu,ch,x,s,rfl,S,k9.2,?_,fun z=>absurd nx z,fun _ z=>absurd c3 z,fun _ _ H3 ow S'=>Hh H3 ow S'⟩
        have:nm.length<=D.ns.length:=kl
        omega)
    clear hR
    refine fX (fun c4=>fX (fun c5=>post fun q=>?_) fun c5=>?_) fun c4=>post fun q=>c4 q.1
    · obtain ⟨r,e,_⟩:=q.2
      rw [c5] at e; cases e
    · obtain ⟨r,e⟩:=QX.resolve_left c5
      refine ⟨r,e,fX (fun c6=>g9 (kx _ (zui c1 hx hu gd c3 ⟨c4,r,e,c6⟩) H2 Oz) T.jG) fun c6=>post fun q=>?_⟩
      obtain ⟨r',e',h'⟩:=q.2
      rw [e] at e'; cases e'
      exact c6 h'
def RW(cC:Addr)(C:Cl):Sp:=fun vs H Q E=>∃(D:TD)(x:Str),vs=[.ref D.p,.str x]/\bQ C H D/\D.Wf/\(x=road\/bz D.ns x=none->Rs cC H E)/\(x≠road->∀ys,Up D.ns x ys->∀l H',bI H H'->H l=none->H' l=some (.lst (ys.reverse.tail.map V.str))->Q (.ref l) H')
include T in
theorem zum:bN P w K mg base (eW P w) 2 cX "way" ["self","name"] [[]] (RW cF (⟨cK,cU,cQ,cD,cK,cX⟩:Cl)):=by
 have cZ:=Nl P w base T;have dO:=No P w base T;refine T.zH.pB (k:=1) zrp (fun vs H Q E h=>?_) (fun f b9 A outer s H vs Q E hr h=>?_)
 ·obtain⟨D,x,rfl,_⟩:=h;rfl
 ·obtain⟨D,x,rfl,O,W,kx,k⟩:=h;refine⟨_,(bS (j6 (gh (cu:=[]) cZ (by simp) T.aJ (hr.mono (by decide)) bL (pv 0) (aL (pv 1) bB))) (c8 (gS (OW (Zg K rfl) (gh (cu:=[]) dO (by simp) T.aJ (hr.mono (by decide)) bL (pv 0) (aL (pv 1) bB)) (NB bP) UF)))),?_⟩;show dG _ _ _ [some (.ref D.p),some (.str x)] H;obtain⟨dx,fs,hp,ft⟩:=O.ex;walk_at"s";refine gq hp (om ft _) ⟨D,x,rfl,O,fun c1 c2=>hR _ _ ?_,kx⟩;cases hx:bz D.ns x with
  |none=>exact absurd hx c2
  |some n=>
  obtain⟨gf,ne⟩:=jK hx;obtain⟨ys,U,yl⟩:=W.up n gf;rw[ne]at U;walk_at"rd";refine gq hp (om ft _) ⟨D,x,ys,rfl,O,U,by omega,fun l H1 s1 hl e=>?_⟩;refine zze (.of e) fun l2 Ds=>?_;have yp:=U.pos;have ec:qE (ys.reverse.map V.str) (some 1) none=(ys.reverse.map V.str).drop 1:=zys _ 1 (by rw[ae,dI];omega);rw[ec];refine k c1 ys U l2 _ (s1.trans (fZ Ds)) ?_ ?_
  ·cases z:H l2 with
   |none=>rfl
   |some o=>rw[s1 _ _ z]at Ds;cases Ds
  ·rw[bR,List.drop_one,List.map_tail]
inductive MR(cL cP:Addr)(C:Cl)(vs:List V)(H:Hp)(Q:VK)(E:XK):Prop|mk (x dx:Addr) (m:Int) (kd:Str) (h1:vs=[.ref x,.int m,.str kd]) (h2:H x=some (.ins C.t dx [])) (h3:(¬(1<=m/\m<=1000000)->Rs cL H E)) (h4:(1<=m/\m<=1000000->¬kj kd->Rs cP H E)) (h5:(1<=m/\m<=1000000->kj kd->∀(pn pg:Addr)(n:ND)(a:lz) H',n=⟨road,n.p,n.ql,none,some (a,b5.new (um kd)),.b7,none,[],[]⟩->vv x H H'->(∀b∈TD.foot ⟨x,pn,pg,m,0,0,0,[n],[],[]⟩,b=x\/H b=none)->bQ C H' ⟨x,pn,pg,m,0,0,0,[n],[],[]⟩->Q .b7 H')):MR cL cP C vs H Q E
include T in
theorem T8:FW P w K mg base (eW P w) 7 cX ["self","most","kind"] [[],[V.str (Str.ofString "starts")]] (MR cG cI (⟨cK,cU,cQ,cD,cK,cX⟩:Cl)):=by
 have xy:=zqo P w base T;have mD:=XU P w base T;have Au:=zzs P w base T;refine T.Gk.pB (k:=6) zqf (fun vs H Q E h=>?_) (fun f b9 A outer s H vs Q E hr h=>?_)
 ·obtain⟨x,dx,m,kd,rfl,_⟩:=h;rfl
 ·obtain⟨x,dx,m,kd,rfl,hx,kl,kp,k⟩:=h;obtain⟨lO,lJ,lP⟩:=T.nR;refine⟨_,(bS (j6 (ja xy (hr.mono (by decide)) rfl bL (aL (pv 1) bB))) (bS (dW (j7 (YQ K rfl) (pv 2) (O8 (v:=.ref lO) rfl lJ rfl) rfl) (c8 (yJ K rfl rfl yK (yL T.kC T.kH rfl T.kI (aL kY bB)))) kX) (bS (pI (pv 0) (pv 1) rfl) (bS (pI (pv 0) (ZY (Zp (KN rfl T.x8) (Nt (cu:=[V.b7]) Au (by simp) (hr.mono (by decide)) bL rfl T.BI (aL vC (aL (ja mD (hr.mono (by decide)) rfl bL (aL (pv 2) (aL (pv 1) bB))) bB))) ZX) rfl rfl (by intro z;cases z) (by decide)) rfl) (bS (pI (pv 0) bP rfl) (bS (pI (pv 0) bP rfl) (bS (pI (pv 0) bP rfl) (c8 (pI (pv 0) (Dg bB) rfl))))))))),?_⟩;show dG _ _ _ [some (.ref x),some (.int m),some (.str kd)] H;walk_at"s";refine⟨m,rfl,fun c1=>hR _ _ ?_,kl⟩;clear hR;walk_at"s";refine⟨_,_,rfl,.inr (lP H),rfl,rfl,_,rfl,?_⟩;rw[Zv,if_pos rfl];by_cases c2:kj kd
  case neg=>
   rw[if_pos (by simp[c2])];exact g9 (kp c1 c2) T.kO
  rw[if_neg (by simp[c2])];refine hR _ _ ?_;clear hR;have k:=k c1 c2;have l1:=ki (fs:=[]) (f:="most") (v:=.int m);simp only[bU]at l1;walk_at"s";refine pJ hx T.aJ T.fh (by simp) (hR _ _ ?_);clear hR;have h1:aH H x (.ins cX dx (aE "most" (.int m) [])) x=some (.ins cX dx (aE "most" (.int m) [])):=bR;have b1:vv x H (aH H x (.ins cX dx (aE "most" (.int m) []))):=KP;have n1:∀{b},aH H x (.ins cX dx (aE "most" (.int m) [])) b=none->H b=none:=fun{b} e=>by
   by_cases z:b=x
   ·rw[z,bR]at e;cases e
   ·rw[dj z]at e;exact e
  show dG _ _ _ _ (aH H x (.ins cX dx (aE "most" (.int m) [])));generalize aH H x (.ins cX dx (aE "most" (.int m) []))=H1 at h1 b1 n1⊢;walk_at"s";unfold HX;intro pn Od;unfold sI sI;walk_at"rd";have s2:=fZ (o:=.dK []) Od;have h2:aH H1 pn (.dK []) pn=some (.dK []):=bR;generalize aH H1 pn (.dK [])=H2 at s2 h2⊢;refine⟨kd,m,rfl,c1.1,fun _ a H3 s3 na C3 y dy hy I0 _=>?_,fun z=>absurd c2 z⟩;refine⟨y,dy,.b7,.ref a.p,.b7,rfl,bR,fun ql fs H4 bt hq h4 f4 q4=>⟨rfl,?_⟩⟩;obtain⟨s4,N4,fd4,q3⟩:=nD.new (C:=(⟨cK,cU,cQ,cD,cK,cX⟩:Cl)) (m:=m) (nm:=road) (ab:=none) (ch:=some (a,b5.new (um kd))) (rm:=.b7) hy I0 bt hq h4 f4 q4 fun c e=>by cases e;exact C3
  refine⟨s4 _ _ (s3 _ _ h2),[((az road:Key),V.ref y)],rfl,by simp,?_⟩;have Lj:∀b∈ND.foot ⟨road,y,ql,none,some (a,b5.new (um kd)),.b7,none,[],[]⟩,H2 b=none:=fun b hb=>by
   have Wc:∀{b},H3 b=none->H2 b=none:=fun{b} e=>by
    cases z:H2 b with
    |none=>rfl
    |some o=>rw[s3 _ _ z]at e;cases e
   unfold ND.foot at hb;rcases ao.mp hb with z|hb
   ·rw[z];exact Wc hy
   rcases ao.mp hb with z|hb
   ·rw[z];exact Wc q3
   rcases ay.mp hb with z|z
   ·exact na b z
   ·cases z
  have Fo:bI H1 H4:=s2.trans (s3.trans s4);have no2:∀{b},H2 b=none->H1 b=none:=fun{b} e=>by
   cases z:H1 b with
   |none=>rfl
   |some o=>rw[s2 _ _ z]at e;cases e
  have R0:x≠pn:=kW h1 Od;have h5:aH H4 pn (.dK (Fz [] [((az road:Key),V.ref y)])) pn=some (.dK (wP [⟨road,y,ql,none,some (a,b5.new (um kd)),.b7,none,[],[]⟩])):=bR;have x5:aH H4 pn (.dK (Fz [] [((az road:Key),V.ref y)])) x=some (.ins cX dx (aE "most" (.int m) [])):=by rw[dj R0];exact Fo _ _ h1
  have k5:∀b o,b≠pn->H4 b=some o->aH H4 pn (.dK (Fz [] [((az road:Key),V.ref y)])) b=some o:=fun b o q e=>by rw[dj q];exact e
  have o5:∀b,aH H4 pn (.dK (Fz [] [((az road:Key),V.ref y)])) b=none->H4 b=none:=fun b e=>by
   by_cases z:b=pn
   ·rw[z,bR]at e;cases e
   ·rw[dj z]at e;exact e
  have Wl:=s4 _ _ (s3 _ _ h2);generalize aH H4 pn (.dK (Fz [] [((az road:Key),V.ref y)]))=H5 at h5 x5 k5 o5⊢;have l2:=ki (fs:=aE "most" (.int m) []) (f:="nodes") (v:=.ref pn);have l3:=ki (fs:=aE "nodes" (.ref pn) (aE "most" (.int m) [])) (f:="time") (v:=.int 0);have l4:=ki (fs:=aE "time" (.int 0) (aE "nodes" (.ref pn) (aE "most" (.int m) []))) (f:="free") (v:=.int 0);have l5:=ki (fs:=aE "free" (.int 0) (aE "time" (.int 0) (aE "nodes" (.ref pn) (aE "most" (.int m) [])))) (f:="counted") (v:=.int 0);refine pJ x5 T.aJ T.bA (by omega) (hR _ _ ?_);clear hR;walk_at"s";refine pJ bR T.aJ T.iU (by omega) (hR _ _ ?_);clear hR;rw[EZ];walk_at"s";refine pJ bR T.aJ T.mL (by omega) (hR _ _ ?_);clear hR;rw[EZ];walk_at"s";refine pJ bR T.aJ T.jO (by omega) (hR _ _ ?_);clear hR;rw[EZ];walk_at"rd";intro pg qq;have xg:pg≠x:=fun z=>by rw[z,bR]at qq;cases qq
  have g5:H5 pg=none:=by rw[dj xg]at qq;exact qq
  have g4:=o5 _ g5;have ng:pn≠pg:=kW Wl g4;refine pJ (by rw[dj (d8 xg),bR]) T.aJ T.qR (by omega) ?_;have kp:∀{b o},b≠x->b≠pg->H5 b=some o->aH (aH (aH H5 x (.ins cX dx (aE "counted" (.int 0) (aE "free" (.int 0) (aE "time" (.int 0) (aE "nodes" (.ref pn) (aE "most" (.int m) []))))))) pg (.lst [])) x (.ins cX dx (aE "gone" (.ref pg) (aE "counted" (.int 0) (aE "free" (.int 0) (aE "time" (.int 0) (aE "nodes" (.ref pn) (aE "most" (.int m) []))))))) b=some o:=fun{b o} q1 q2 e=>by rw[dj q1,dj q2,dj q1];exact e
  have hg:aH (aH (aH H5 x (.ins cX dx (aE "counted" (.int 0) (aE "free" (.int 0) (aE "time" (.int 0) (aE "nodes" (.ref pn) (aE "most" (.int m) []))))))) pg (.lst [])) x (.ins cX dx (aE "gone" (.ref pg) (aE "counted" (.int 0) (aE "free" (.int 0) (aE "time" (.int 0) (aE "nodes" (.ref pn) (aE "most" (.int m) []))))))) pg=some (.lst []):=by rw[dj xg,bR]
  have hf:aH (aH (aH H5 x (.ins cX dx (aE "counted" (.int 0) (aE "free" (.int 0) (aE "time" (.int 0) (aE "nodes" (.ref pn) (aE "most" (.int m) []))))))) pg (.lst [])) x (.ins cX dx (aE "gone" (.ref pg) (aE "counted" (.int 0) (aE "free" (.int 0) (aE "time" (.int 0) (aE "nodes" (.ref pn) (aE "most" (.int m) []))))))) x=some (.ins cX dx (aE "gone" (.ref pg) (aE "counted" (.int 0) (aE "free" (.int 0) (aE "time" (.int 0) (aE "nodes" (.ref pn) (aE "most" (.int m) []))))))):=bR;generalize aH (aH (aH H5 x (.ins cX dx (aE "counted" (.int 0) (aE "free" (.int 0) (aE "time" (.int 0) (aE "nodes" (.ref pn) (aE "most" (.int m) []))))))) pg (.lst [])) x (.ins cX dx (aE "gone" (.ref pg) (aE "counted" (.int 0) (aE "free" (.int 0) (aE "time" (.int 0) (aE "nodes" (.ref pn) (aE "most" (.int m) [])))))))=Hf at kp hg hf⊢;have bx:∀{b},H2 b=none->b≠x:=fun{b} e z=>by rw[z,s2 _ _ h1]at e;cases e
  have bn:∀{b},H2 b=none->b≠pn:=fun{b} e z=>by rw[z,h2]at e;cases e
  have k4:∀{b o},b≠x->b≠pn->H4 b=some o->Hf b=some o:=fun{b o} q1 q2 e=>kp q1 (kW e g4) (k5 b o q2 e);refine k pn pg ⟨road,y,ql,none,some (a,b5.new (um kd)),.b7,none,[],[]⟩ a Hf rfl (fun b o nb e=>?_) (fun b hb=>?_) ⟨⟨dx,_,hf,As.Jk ..⟩,kp R0.symm ng h5,fun z hz=>?_,hg,.nil,?_⟩
  ·have e1:=b1 b o nb e;exact k4 nb (kW e1 Od) (Fo _ _ e1)
  ·unfold TD.foot at hb;rcases ao.mp hb with z|hb
   ·exact .inl z
   rcases ao.mp hb with z|hb
   ·rw[z];exact .inr (n1 Od)
   rcases ao.mp hb with z|hb
   ·rw[z];refine .inr (n1 ?_);cases z:H1 pg with
    |none=>rfl
    |some o=>rw[Fo _ _ z]at g4;cases g4
   obtain⟨w,hw,z⟩:=dH.mp hb;rw[aC.mp hw]at z;exact .inr (n1 (no2 (Lj b z)))
  ·rw[aC.mp hz];refine N4.keep fun b o hb e=>?_;rcases hb with q|⟨xs,q⟩
   ·exact k4 (bx (Lj b q)) (bn (Lj b q)) e
   ·exact k4 (fun w=>by rw[w,Fo _ _ h1]at q;cases q) (fun w=>by rw[w,Wl]at q;cases q) e
  ·show(x::pn::pg::([⟨road,y,ql,none,some (a,b5.new (um kd)),.b7,none,[],[]⟩]:List ND).flatMap ND.foot).Nodup;rw[ju,G5,bw];simp only[aY,ao,not_or];refine⟨⟨R0,d8 xg,fun z=>bx (Lj _ z) rfl⟩,⟨ng,fun z=>bn (Lj _ z) rfl⟩,fun z=>?_,fd4⟩;obtain⟨o,ho,_⟩:=N4.at z;rw[g4]at ho;cases ho
theorem zyt{l D:Addr}{ps:List Addr}{gs:List D2}{H:Hp}{Q:VK}{te:TE}(pr:D2->Int)(R:U8 H l ps gs)(hD:H D=none)(ng:ps.length<=900)(ht:∀(g:D2)(H':Hp)(Z:VK),Z (.int (pr g)) H'->te [some (.int g.1),some (.int g.2)] H' Z)(k:∀H',bI H H'->H' D=some (.lst ((gs.map pr).map V.int))->Q (.ref D) H'):pe (FH K l) (CH K 2 (wK (nH 0) (wK (nH 1) DX))) Bb te D [none,none] (aH H D (.lst [])) Q:=by
 have lg:=R.r.len;refine KG (xs:=ps.map V.ref) (fun i τ H'=>(∃v0 v1,τ=[v0,v1])/\bI H H'/\H' D=some (.lst (((gs.take i).map pr).map V.int))) ⟨⟨none,none,rfl⟩,fZ hD,bR⟩ (fun i τ H' _ h=>.of (h.2.1 _ _ R.hl)) ?_ ?_
 ·rintro i x τ H' hx ⟨⟨v0,v1,rfl⟩,s',DY⟩;rw[aK]at hx;cases e:ps[i]? with
  |none=>rw[e]at hx;cases hx
  |some p=>
   rw[e]at hx;cases hx
   obtain⟨g,hg,hp⟩:=R.r.get e;refine⟨p,_,rfl,.of (s' _ _ hp),rfl,_,_,rfl,_,_,rfl,rfl,?_⟩;show Bb [some (.int g.1),some (.int g.2)] H' _;unfold Bb;refine ht g H' _ ?_;refine⟨_,DY,Fx ?_,⟨_,_,rfl⟩,fun b o e=>?_,?_⟩
   ·rw[ae,ae,bV];omega
   ·rw[dj (kW e hD)];exact s' _ _ e
   ·rw[bR,Cp hg,aA,aA];rfl
 ·rintro τ H' ⟨_,s',DY⟩;rw[ae,lg,bC]at DY;exact k H' s' DY
def BV(rm:V)(qu:List D2)(len:Int):Bool:=match rm with
 | .int r=>decide ((qu.map (·.2)).sum+len<=r)
 |_=>true
inductive MK(C:Cl)(vs:List V)(H:Hp)(Q:VK)(E:XK):Prop|mk (n:ND) (m len:Int) (h1:vs=[.ref n.p,.int len]) (h2:nD C H m n) (h3:n.ps.length<=900) (h4:(n.rm= .b7\/∃r,n.rm= .int r)) (h5:∀H',bI H H'->Q (.bl (BV n.rm n.qu len)) H'):MK C vs H Q E
include T in
theorem zhe:bN P w K mg base (eW P w) 1 cK "has_room_for" ["self","length"] [[]] (MK (⟨cK,cU,cQ,cD,cK,cX⟩:Cl)):=by
 refine T.nN.okN (k:=0) zgc (fun vs H Q E h=>?_) (fun f b9 A outer s H vs Q E hr h=>?_)
 ·obtain⟨n,m,len,rfl,_⟩:=h;rfl
 ·obtain⟨n,m,len,rfl,N,nl,QX,k⟩:=h;refine⟨_,(c8 (gS (Ml (GW UY (eK (pv 0) rfl) vC (jL _)) (NJ (GW qT (aM sL (rC (Np K rfl rfl) rfl T.su boot_sum (aL (sY ["number","each"] [] rfl (by with_unfolding_all rfl) (by decide+kernel) rfl (by decide+kernel) (by exact bh) (by with_unfolding_all rfl) bh (Ag K rfl (eK (pv 0) rfl)) (fun _ _ _=>(NE (n:=2) K rfl rfl (Dz (nZ (i:=0) (show(["number","each"]:List Str).Nodup from by decide+kernel) rfl (by first|left;rfl|right;rfl)) (Dz (nZ (i:=1) (show(["number","each"]:List Str).Nodup from by decide+kernel) rfl (by first|left;rfl|right;rfl)) Nz)))) (fun _ _ _=>OY) (fun _ _ _=>(pv 1))) bB)) (pv 1)) (eK (pv 0) rfl) (jL _)))))),?_⟩;show iN _ _ [some (.ref n.p),some (.int len)] H;obtain⟨dn,fn,oS,mW⟩:=N.ex;walk_at"rd";refine eG oS T.dB T.mK mW.rm ?_;rcases QX with z|⟨r,z⟩
  ·rw[z]at k⊢;exact fX (fun _=>k H (bI.refl _)) fun y=>absurd rfl y
  ·rw[z]at k mW⊢;refine fX (fun y=>by cases y) fun _=>?_;refine eG oS T.dB T.gF mW.qu ?_;walk_at"rd";refine⟨⟨_,.of N.qu.hl⟩,fun D hD=>?_⟩;refine zyt (·.2) N.qu hD nl (fun g H' Z q=>⟨_,rfl,q⟩) fun H' s' DY=>?_;refine⟨D,_,rfl,.of DY,_,rfl,?_⟩;refine eG (s' _ _ oS) T.dB T.mK mW.rm ⟨_,rfl,?_⟩;exact k H' s'
def RP(cC cP:Addr)(C:Cl):Sp:=fun vs H Q E=>∃(D:TD)(x:Str),vs=[.ref D.p,.str x]/\bQ C H D/\(x=road\/bz D.ns x=none->Rs cC H E)/\(x≠road->∀n,bz D.ns x=some n->n.ch≠none->Rs cP H E)/\(x≠road->∀n,bz D.ns x=some n->n.ch=none->Q .b7 H)
include T in
theorem zja:bN P w K mg base (eW P w) 2 cX "check_leaf" ["self","name"] [[]] (RP cF cI (⟨cK,cU,cQ,cD,cK,cX⟩:Cl)):=by
 have cZ:=Nl P w base T;refine T.pX.pB (k:=1) zii (fun vs H Q E h=>?_) (fun f b9 A outer s H vs Q E hr h=>?_)
 ·obtain⟨D,x,rfl,_⟩:=h;rfl
 ·obtain⟨D,x,rfl,O,kc,kp,k⟩:=h;refine⟨_,(bS (j6 (gh (cu:=[]) cZ (by simp) T.aJ (hr.mono (by decide)) bL (pv 0) (aL (pv 1) bB))) (c8 (dW (j7 GV (eK (o8 (bY hr) (eK (pv 0) rfl) (pv 1) (fun _ _=>rfl)) rfl) vC (jL _)) (c8 (yJ K rfl rfl yK (yL T.kC T.kH rfl T.kI (aL kY bB)))) kX))),?_⟩;show dG _ _ _ [some (.ref D.p),some (.str x)] H;obtain⟨dx,fs,hp,ft⟩:=O.ex;walk_at"s";refine gq hp (om ft _) ⟨D,x,rfl,O,fun c1 c2=>hR _ _ ?_,kc⟩;cases hx:bz D.ns x with
  |none=>exact absurd hx c2
  |some n=>
  obtain⟨dn,fn,oS,mW⟩:=(O.nd n (jK hx).1).ex;walk_at"rd";refine eG hp T.aJ T.bA ft.no ?_;walk_at"rd";refine⟨_,jW O hx,?_⟩;refine eG oS T.dB T.bZ mW.ch ?_;cases hc:n.ch with
  |none=>exact k c1 n hx hc
  |some c=>exact g9 (kp c1 n hx (by rw[hc];simp)) T.kO
def MN(C:Cl):Sp:=fun vs H Q _=>∃(D:TD),vs=[.ref D.p]/\bQ C H D/\Q (.int D.tm) H
include T in
theorem zun:bN P w K mg base (eW P w) 1 cX "now" ["self"] [[]] (MN (⟨cK,cU,cQ,cD,cK,cX⟩:Cl)):=by
 refine T.zF.okN (k:=0) zro (fun vs H Q E h=>?_) (fun f b9 A outer s H vs Q E hr h=>?_)
 ·obtain⟨D,rfl,_⟩:=h;rfl
 ·obtain⟨D,rfl,O,k⟩:=h;refine⟨_,(c8 (gS (eK (pv 0) rfl))),?_⟩;show iN _ _ [some (.ref D.p)] H;obtain⟨dx,fs,hp,ft⟩:=O.ex;walk_at"rd";exact eG hp T.aJ T.iU ft.ti k
inductive HK(C:Cl)(vs:List V)(H:Hp)(Q:VK)(E:XK):Prop|mk (D:TD) (x y:Str) (n u:ND) (h1:vs=[.ref D.p,.str x]) (h2:bQ C H D) (h3:bz D.ns x=some n) (h4:n.ab=some y) (h5:bz D.ns y=some u) (h6:Q (Lb u.ch) H):HK C vs H Q E
include T in
theorem Uh:bN P w K mg base (eW P w) 1 cX "chooser_over" ["self","name"] [[]] (HK (⟨cK,cU,cQ,cD,cK,cX⟩:Cl)):=by
 refine T.nP.okN (k:=0) zgd (fun vs H Q E h=>?_) (fun f b9 A outer s H vs Q E hr h=>?_)
 ·obtain⟨D,x,y,n,u,rfl,_⟩:=h;rfl
 ·obtain⟨D,x,y,n,u,rfl,O,hx,ha,hu,k⟩:=h;refine⟨_,(c8 (gS (eK (o8 (bY hr) (eK (pv 0) rfl) (eK (o8 (bY hr) (eK (pv 0) rfl) (pv 1) (fun _ _=>rfl)) rfl) (fun _ _=>rfl)) rfl))),?_⟩;show iN _ _ [some (.ref D.p),some (.str x)] H;obtain⟨dx,fs,hp,ft⟩:=O.ex;obtain⟨dn,fn,oS,mW⟩:=(O.nd n (jK hx).1).ex;obtain⟨du,fu,hup,huf⟩:=(O.nd u (jK hu).1).ex;walk_at"rd";refine eG hp T.aJ T.bA ft.no ?_;walk_at"rd";refine eG hp T.aJ T.bA ft.no ?_;walk_at"rd";refine⟨_,jW O hx,?_⟩;refine eG oS T.dB T.lK mW.ab ?_;rw[ha];refine⟨_,jW O hu,?_⟩;exact eG hup T.dB T.bZ huf.ch k
def TD.oO(D:TD)(n:ND)(q:Addr)(len:Int):TD:={D with ct:=D.ct+1,ns:=dF D.ns {n with ps:=n.ps++[q],qu:=n.qu++[(D.ct,len)]}}
inductive Ex(cC cP cL:Addr)(C:Cl)(vs:List V)(H:Hp)(Q:VK)(E:XK):Prop|mk (D:TD) (x:Str) (len:Int) (h1:vs=[.ref D.p,.str x,.int len]) (h2:bQ C H D) (h3:D.Wf) (h4:(∀n∈D.ns,n.ps.length<=890/\(n.rm= .b7\/∃r,n.rm= .int r))) (h5:(x=road\/bz D.ns x=none->Rs cC H E)) (h6:(x≠road->∀n,bz D.ns x=some n->n.ch≠none->Rs cP H E)) (h7:(x≠road->∀n,bz D.ns x=some n->n.ch=none->(¬(1<=len/\len<=D.most)->Rs cL H E)/\(1<=len/\len<=D.most->(BV n.rm n.qu len=false->∀H',bI H H'->Q .b7 H')/\(BV n.rm n.qu len=true->∀q H',H q=none->bQ C H' (TD.oO D n q len)->iJ D.foot H H'->Q (.int D.ct) H')))):Ex cC cP cL C vs H Q E
include T in
theorem zrs:bN P w K mg base (eW P w) 3 cX "come" ["self","name","length"] [[]] (Ex cF cI cG (⟨cK,cU,cQ,cD,cK,cX⟩:Cl)):=by
 have qx:=zja P w base T;have oB:=zhe P w base T;refine T.xY.pB (k:=2) qZ (fun vs H Q E h=>?_) (fun f b9 A outer s H vs Q E hr h=>?_)
 ·obtain⟨D,x,len,rfl,_⟩:=h;rfl
 ·obtain⟨D,x,len,rfl,O,W,ql,kc,kp,k⟩:=h;refine⟨_,(bS (j6 (gh (cu:=[]) qx (by simp) T.aJ (hr.mono (by decide)) bL (pv 0) (aL (pv 1) bB))) (bS (dW (Df (UC qT qT bP (pv 2) (eK (pv 0) rfl))) (c8 (yJ K rfl rfl yK (yL T.nF T.nM rfl T.nS (aL kY bB)))) kX) (bS (dW (Df (DC (gh (cu:=[]) oB (by simp) T.dB (hr.mono (by decide)) bL (o8 (bY hr) (eK (pv 0) rfl) (pv 1) (fun _ _=>rfl)) (aL (pv 2) bB)))) (c8 (gS vC)) kX) (bS (gA (i:=3) qZ.nd rfl (eK (pv 0) rfl)) (bS (pI (pv 0) (aM sL (pv 3) bP) rfl) (bS (j6 (sX b6 eR eS Ii (eK (o8 (bY hr) (eK (pv 0) rfl) (pv 1) (fun _ _=>rfl)) rfl) (aL (wA (aL (pv 3) (aL (pv 2) bB))) bB))) (c8 (gS (pv 3))))))))),?_⟩;show dG _ _ _ [some (.ref D.p),some (.str x),some (.int len),none] H;obtain⟨dx,fs,hp,ft⟩:=O.ex;walk_at"s";refine gq hp (om ft _) ⟨D,x,rfl,O,kc,kp,fun c1 n hx hc=>hR _ _ ?_⟩;clear hR;obtain⟨kl,k⟩:=k c1 n hx hc;obtain⟨gf,ne⟩:=jK hx;have N:=O.nd n gf;obtain⟨dn,fn,oS,mW⟩:=N.ex;obtain⟨ql1,ql2⟩:=ql n gf;walk_at"s";have post:1<=len/\len<=D.most->R [some (.ref D.p),some (.str x),some (.int len),none] H:=fun c2=>hR _ _ (by
   clear hR;obtain⟨kn,k⟩:=k c2;walk_at"s";refine eG hp T.aJ T.bA ft.no ?_;walk_at"rd";refine⟨_,jW O hx,?_⟩;refine gq oS (mW.qv _) ⟨n,D.most,len,rfl,N,by omega,ql2,fun H1 s1=>?_⟩;cases hb:BV n.rm n.qu len with
   |false=>
    walk_at"rd";exact kn hb H1 s1
   |true=>
    walk_at"rd";refine hR _ _ ?_;clear hR;have k:=k hb;have O1:=O.same s1;obtain⟨dx,fs,hp,ft⟩:=O1.ex;walk_at"s";refine eG hp T.aJ T.jO ft.co (hR _ _ ?_);clear hR;walk_at"s";refine pJ hp T.aJ T.jO (by have:=ft.len;omega) (hR _ _ ?_);clear hR;have O2:=O1.field hp (ft.Jw (P6:=D.ct+1));have V3:∀b o,b≠D.p->H1 b=some o->aH H1 D.p (.ins cX dx (aE "counted" (.int (D.ct+1)) fs)) b=some o:=fun b o q e=>by rw[dj q];exact e
    have n2:∀b,aH H1 D.p (.ins cX dx (aE "counted" (.int (D.ct+1)) fs)) b=none->H b=none:=fun b e=>by
     by_cases z:b=D.p
     ·rw[z,bR]at e;cases e
     ·rw[dj z]at e;cases y:H b with
      |none=>rfl
      |some o=>rw[s1 _ _ y]at e;cases e
    refine(show dG _ _ _ [some (.ref D.p),some (.str x),some (.int len),some (.int D.ct)] (aH H1 D.p (.ins cX dx (aE "counted" (.int (D.ct+1)) fs)))from ?_);generalize aH H1 D.p (.ins cX dx (aE "counted" (.int (D.ct+1)) fs))=H2 at O2 V3 n2⊢;obtain⟨dx,fs,hp,ft⟩:=O2.ex;have N2:=O2.nd n gf;obtain⟨dn,fn,oS,mW⟩:=N2.ex;walk_at"s";refine eG hp T.aJ T.bA ft.no ?_;walk_at"rd";refine⟨_,jW (D:={D with ct:=D.ct+1}) O2 hx,?_⟩;refine eG oS T.dB T.gF mW.qu ?_;walk_at"rd";refine⟨GY N2.qu.hl,fun q hq=>?_⟩;have s3:=fZ (o:=.tup [.int D.ct,.int len]) hq;have O3:=O2.same s3;have r3:tq (aH H2 q (.tup [.int D.ct,.int len])) (n.ps++[q]) (n.qu++[(D.ct,len)]):=OP (F:=fun p(g:D2)=>aH H2 q (.tup [.int D.ct,.int len]) p=some (.tup (d2 g))) bR (O3.nd n gf).qu.r;have O4:=O3.queue W.nn gf r3;rw[aA]at O4;refine KW (s3 _ _ N2.qu.hl) (by rw[ae];omega) (hR _ _ ?_);clear hR;walk_at"rd";refine k q _ (n2 q hq) O4 fun b o nb e=>?_;have b1:b≠D.p:=fun z=>nb (z▸aj ..);have b2:b≠n.ql:=fun z=>nb (TD.e8 gf (z▸ai _ (aj ..)));have e2:=V3 b o b1 (s1 _ _ e);rw[dj b2];exact s3 _ _ e2)
  clear hR;refine fX (fun a1=>eG hp T.aJ T.fh ft.mo ⟨_,rfl,?_⟩) fun a1=>g9 (kl fun z=>a1 z.1) T.jG;exact fX (fun a2=>post ⟨a1,a2⟩) fun a2=>g9 (kl fun z=>a2 z.2) T.jG
def RT(C:Cl):Sp:=fun vs H Q _=>∃(D:TD),vs=[.ref D.p]/\bQ C H D/\D.ns.length<=900/\∀l H',bI H H'->H l=none->H' l=some (.lst ((gm D.ns).map V.str))->Q (.ref l) H'
include T in
theorem WL:bN P w K mg base (eW P w) 1 cX "full_leaves" ["self"] [[]] (RT (⟨cK,cU,cQ,cD,cK,cX⟩:Cl)):=by
 refine T.oY.okN (k:=0) zha (fun vs H Q E h=>?_) (fun f b9 A outer s H vs Q E hr h=>?_)
 ·obtain⟨D,rfl,_⟩:=h;rfl
 ·obtain⟨D,rfl,O,nl,k⟩:=h;refine⟨_,(c8 (gS (Ss (sY ["name","node"] [] rfl (by with_unfolding_all rfl) (by decide+kernel) rfl (by decide+kernel) (by exact bh) (by with_unfolding_all rfl) bh (zyd (eK (pv 0) rfl)) (fun _ _ _=>(NE (n:=2) K rfl rfl (Dz (nZ (i:=0) (show(["name","node"]:List Str).Nodup from by decide+kernel) rfl (by first|left;rfl|right;rfl)) (Dz (nZ (i:=1) (show(["name","node"]:List Str).Nodup from by decide+kernel) rfl (by first|left;rfl|right;rfl)) Nz)))) (fun _ _ _=>(Ij (Uy K rfl (UM K rfl (pv 1) rfl)))) (fun _ _ _=>(pv 0)))))),?_⟩;show iN _ _ [some (.ref D.p)] H;obtain⟨dx,fs,hp,ft⟩:=O.ex;walk_at"rd";unfold Ib;walk_at"rd";unfold zzj;walk_at"rd";refine eG hp T.aJ T.bA ft.no ?_;refine⟨_,rfl,_,O.hn,fun o L hL=>?_⟩;have nL:L≠D.pn:=fun z=>by rw[z,bR]at hL;cases hL
  have hL0:H L=none:=by rw[dj nL]at hL;exact hL
  have lk:(wP D.ns).length=D.ns.length:=Z1 _;refine zug (fun i τ H'=>(∃v0 v1,τ=[v0,v1])/\bI (aH H D.pn (.jm o (.dK (wP D.ns)))) H'/\H' L=some (.lst ((gm (D.ns.take i)).map V.str))) ⟨⟨none,none,rfl⟩,fZ hL,bR⟩ (fun i τ H' _⟨_,sm,_⟩=>sm _ _ bR) ?_ ?_
  ·rintro i kv τ H6 p j3 ⟨⟨v0,v1,rfl⟩,sm,yH⟩ Ob;obtain⟨n,hw,rfl⟩:∃n,D.ns[i]?=some n/\((az n.nm:Key),V.ref n.p)=kv:=by
    unfold wP at j3;rw[aK]at j3;cases e:D.ns[i]? with
    |none=>rw[e]at j3;cases j3
    |some p=>rw[e]at j3;exact⟨p,rfl,ak j3⟩
   have gf:=aV hw;have N:=O.nd n gf;obtain⟨dn,fn,oS,mW⟩:=N.ex;have sn:=fZ (o:=.tup [kV (az n.nm:Key),V.ref n.p]) Ob;have sm:=sm.trans sn;have yH:=sn _ _ yH;refine⟨p,_,rfl,.of bR,rfl,?_⟩;generalize aH H6 p (.tup [kV (az n.nm:Key),V.ref n.p])=H7 at sm yH⊢;have a1:=(O.apart gf (b:=n.p) (aj ..)).2.1;have a2:=(O.apart gf (b:=n.ql) (ai _ (aj ..))).2.1;have h7:=sm _ _ (show aH H D.pn (.jm o (.dK (wP D.ns))) n.p=_ by rw[dj a1];exact oS);have q7:=sm _ _ (show aH H D.pn (.jm o (.dK (wP D.ns))) n.ql=_ by rw[dj a2];exact N.qu.hl);have ta:gm (D.ns.take (i+1))=gm (D.ns.take i)++(if decide (n.ps≠[])=true then[n.nm]else[]):=by unfold gm;rw[Cp hw,fR,aA,gx,ID];split <;> rfl
   walk_at"rd";refine eG h7 T.dB T.gF mW.qu ⟨_,RZ (.of q7),?_⟩;rw[ta];cases e:n.ps with
   |nil=>
    refine fX (fun z=>by cases z) fun _=>⟨sm,?_⟩;rw[if_neg (by simp),bw];exact yH
   |cons y r=>
    refine fX (fun _=>?_) fun z=>absurd rfl z;walk_at"rd";have ll:((gm (D.ns.take i)).map V.str).length<=900:=by rw[ae];unfold gm;rw[ae];have:=eN (fun n:ND=>decide (n.ps≠[])) (D.ns.take i);rw[bV]at this;omega
    refine⟨_,yH,Fx (by omega),fun b u' e'=>?_,?_⟩
    ·rw[dj (kW e' hL)];exact sm _ _ e'
    ·rw[bR,if_neg (show ¬(y::r=[])from by simp),aA];rfl
  ·rintro τ H6 ⟨_,sm,yH⟩;rw[lk,bC]at yH;refine⟨D.pn,⟨_,O.hn⟩,o,_,sm _ _ bR,?_⟩;refine k L _ (fun b u' e=>?_) hL0 (by rw[dj nL];exact yH);by_cases z:b=D.pn
   ·subst z;rw[O.hn]at e;cases e
    exact bR
   ·rw[dj z];exact sm _ _ (by rw[dj z];exact e)
inductive ML(C:Cl)(vs:List V)(H:Hp)(Q:VK)(E:XK):Prop|mk (D:TD) (x:Str) (t:Int) (n:ND) (g:D2) (r:List D2) (ys:List Str) (h1:vs=[.ref D.p,.str x,.int t]) (h2:bQ C H D) (h3:bz D.ns x=some n) (h4:n.qu=g::r) (h5:Up D.ns x ys) (h6:ys.length<=6) (h7:(1<=g.2/\g.2<=D.most/\D.most<=1000000)) (h8:(∀b∈k8 D.ns ys,kQ D.most b/\b.s<=t)) (h9:(0<=t/\t<10000000000000000)) (yG:(L2.yV D)) (Dr:∀a H',bI H H'->FM (k8 D.ns ys) t g.2 a->Q (.int a) H'):ML C vs H Q E
include T in
theorem WX:bN P w K mg base (eW P w) 2 cX "leaf_time" ["self","name","at"] [[]] (ML (⟨cK,cU,cQ,cD,cK,cX⟩:Cl)):=by
 have dO:=No P w base T;refine T.qO.okN (k:=1) iX (fun vs H Q E h=>?_) (fun f b9 A outer s H vs Q E hr h=>?_)
 ·obtain⟨D,x,t,n,g,r,ys,rfl,_⟩:=h;rfl
 ·obtain⟨D,x,t,n,g,r,ys,rfl,O,hx,hq,U,yl,gb,ok,tb,nb,k⟩:=h;refine⟨_,(bS (gA (i:=3) iX.nd rfl (bG (jb K rfl) (bG (DA K rfl) (eK (o8 (bY hr) (eK (pv 0) rfl) (pv 1) (fun _ _=>rfl)) rfl) bP (fun _ _=>rfl)) bP (fun _ _=>rfl))) (bS (Pe (i0:=4) ["one"] [("self",0)] rfl (by with_unfolding_all rfl) (by decide+kernel) rfl (by decide+kernel) (by exact⟨rfl,bh⟩) (by with_unfolding_all rfl) ⟨⟨rfl,rfl,rfl⟩,bh⟩ (Ag K rfl (gh (cu:=[]) dO (by simp) T.aJ (hr.mono (by decide)) aT (pv 0) (aL (pv 1) bB))) (fun _ _ _=>(nZ (i:=0) (show(["one","self"]:List Str).Nodup from by decide+kernel) rfl (by first|left;rfl|right;rfl))) (fun _ _ _=>OY) (fun _ _ _=>(UM K rfl (o8 (bY hr) (UM K rfl (pv 1) rfl) (pv 0) (fun _ _=>rfl)) rfl)) (by with_unfolding_all rfl) iX.nd rfl (by first|left;rfl|right;rfl)) (c8 (gS (Si K rfl rfl rfl T.Er (aL (sY ["bucket"] [("at",2),("length",3)] rfl (by with_unfolding_all rfl) (by decide+kernel) rfl (by decide+kernel) (by exact⟨rfl,⟨rfl,bh⟩⟩) (by with_unfolding_all rfl) ⟨⟨rfl,rfl,rfl⟩,⟨⟨rfl,rfl,rfl⟩,bh⟩⟩ (Ag K rfl (pv 4)) (fun _ _ _=>(nZ (i:=0) (show(["bucket","at","length"]:List Str).Nodup from by decide+kernel) rfl (by first|left;rfl|right;rfl))) (fun _ _ _=>(Ij (j7 GV (pv 0) vC (jL _)))) (fun _ _ _=>zyj)) bB) (pv 2)))))),?_⟩;show dG _ _ _ [some (.ref D.p),some (.str x),some (.int t),none,none] H;obtain⟨dx,fs,hp,ft⟩:=O.ex;obtain⟨gf,ne⟩:=jK hx;have N:=O.nd n gf;obtain⟨dn,fn,oS,mW⟩:=N.ex;have QL:=N.qu;rw[hq]at QL;obtain⟨p0,rest,ep,h0⟩:∃p0 rest,n.ps=p0::rest/\H p0=some (.tup (d2 g)):=by
   have r0:=QL.r;generalize n.ps=ps at r0;cases r0 with
   |cons a b=>exact⟨_,_,rfl,a⟩
  have hl:=N.qu.hl;rw[ep]at hl;walk_at"s";refine eG hp T.aJ T.bA ft.no ⟨_,rfl,_,jW O hx,?_⟩;refine eG oS T.dB T.gF mW.qu ?_;refine NL (.of hl) (KO (xs:=(p0::rest).map V.ref) (j:=0) (v:=.ref p0) rfl) (jc (.of h0) (v:=.int g.2) rfl (hR _ _ ?_));clear hR;walk_at"s";refine gq hp (om ft _) ⟨D,x,ys,rfl,O,U,by omega,fun l H1 s1 fl Lx=>⟨l,rfl,⟨_,.of Lx⟩,fun L hL=>?_⟩⟩;have O1:=O.same s1;have nL:l≠L:=kW Lx hL;refine KG (K:=K) (a:=l) (xs:=ys.reverse.map V.str) (fun i τ H'=>(∃v0,τ=[v0,some (.ref D.p)])/\bI H1 H'/\H' L=some (.lst (La D.ns (ys.reverse.take i)))) ⟨⟨none,rfl⟩,fZ hL,bR⟩ (fun i τ H' _ h=>.of (h.2.1 _ _ Lx)) ?_ ?_
  ·rintro i v τ H2 hv ⟨⟨v0,rfl⟩,s2,yH⟩;obtain⟨y,hy,rfl⟩:∃y,ys.reverse[i]?=some y/\V.str y=v:=by
    rw[aK]at hv;cases e:ys.reverse[i]? with
    |none=>rw[e]at hv;cases hv
    |some z=>rw[e]at hv;exact⟨z,rfl,ak hv⟩
   obtain⟨m,hm⟩:=U.mem y (jS.mp (aV hy));obtain⟨min,me⟩:=jK hm;have O2:=O1.same s2;obtain⟨dx2,fs2,Aj,Qj⟩:=O2.ex;obtain⟨dm,fm,QJ,QK⟩:=(O2.nd m min).ex;walk_at"rd";simp only[Bb,if_true];walk_at"rd";refine eG Aj T.aJ T.bA Qj.no ⟨_,rfl,_,jW O2 hm,?_⟩;refine eG QJ T.dB T.kJ QK.bk ?_;refine⟨_,yH,Fx ?_,fun b u' e=>?_,?_⟩
   ·unfold La;rw[ae,bV,dI];omega
   ·rw[dj (kW e hL)];exact s2 _ _ e
   ·rw[bR,Cp hy];unfold La;rw[aA];show _=some (HO.lst (_++[NV ((bz D.ns y).bind (·.bk))]));rw[hm];rfl
  ·rintro τ H2 ⟨_,s2,yH⟩;rw[ae,bC,SN nb]at yH;refine hR _ _ ?_;clear hR;have fL:H1 L=none:=hL;walk_at"rd";unfold HY;walk_at"rd";refine⟨⟨_,.of yH⟩,fun M hM=>?_⟩;refine KG (K:=K) (a:=L) (xs:=ys.reverse.map fun _=>V.b7) (fun i τ H'=>(∃v0 v1 v2,τ=[v0,v1,v2])/\bI H2 H'/\H' M=some (.lst [])) ⟨⟨_,_,_,rfl⟩,fZ hM,bR⟩ (fun i τ H' _ h=>.of (h.2.1 _ _ yH)) ?_ ?_
   ·rintro i v τ H3 hv ⟨⟨v0,v1,v2,rfl⟩,s3,N3⟩;obtain rfl:v=V.b7:=by
     rw[aK]at hv;cases e:ys.reverse[i]? with
     |none=>rw[e]at hv;cases hv
     |some z=>rw[e]at hv;exact(ak hv).symm
    walk_at"rd"
    first
     |exact⟨⟨_,_,_,rfl⟩,s3,N3⟩
     |exact⟨s3,N3⟩
   ·rintro τ H3 ⟨_,s3,N3⟩;refine⟨M,rfl,[],.of N3,fun m h0 _=>?_⟩;obtain rfl:=h0 rfl;refine k _ H3 (s1.trans (s2.trans s3)) ?_;rw[zwv nb];exact FM.nil _ _
inductive MO(C:Cl)(vs:List V)(H:Hp)(Q:VK)(E:XK):Prop|mk (D:TD) (t:Int) (v:Nat) (h1:vs=[.ref D.p,.int t]) (h2:bQ C H D) (h3:D.Dy t v) (h4:(0<=t/\t<10000000000000000)) (h5:(L2.yV D)) (h6:∀l ks H',bI H H'->H l=none->H' l=some (.dK (A3 ks))->(∀y,y∈ks↔fO D t y)->Q (.ref l) H'):MO C vs H Q E
include T in
theorem zlz:bN P w K mg base (eW P w) 3 cX "ready_at" ["self","at"] [[]] (MO (⟨cK,cU,cQ,cD,cK,cX⟩:Cl)):=by
 have iA:=WL P w base T;have jk:=WX P w base T;have dO:=No P w base T;refine T.sr.okN (k:=2) gX (fun vs H Q E h=>?_) (fun f b9 A outer s H vs Q E hr h=>?_)
 ·obtain⟨D,t,v,rfl,_⟩:=h;rfl
 ·obtain⟨D,t,v,rfl,O,Y,tb,nb,k⟩:=h;refine⟨_,(bS (gA (i:=2) gX.nd rfl KI) (bS (DE PassesOwn.never rfl (Ag K rfl (xm (cu:=[]) iA (by simp) T.aJ (hr.mono (by decide)) aT (pv 0))) (nZ (i:=3) gX.nd rfl (by first|left;rfl|right;rfl)) (c8 (dW (j7 ji (gh (cu:=[]) jk (by simp) T.aJ (hr.mono (by decide)) aT (pv 0) (aL (pv 3) (aL (pv 1) bB))) (pv 1) (jL _)) (c8 (DE PassesOwn.never rfl (Ag K rfl (gh (cu:=[]) dO (by simp) T.aJ (hr.mono (by decide)) aT (pv 0) (aL (pv 3) bB))) (nZ (i:=4) gX.nd rfl (by first|left;rfl|right;rfl)) (c8 (Ao (bY hr) (pv 2) (pv 4) wQ rfl)))) kX))) (c8 (gS (pv 2))))),?_⟩;show dG _ _ _ [some (.ref D.p),some (.int t),none,none,none] H;have nl:=Y.ln;walk_at"s";intro l hl;refine hR _ _ ?_;clear hR;have s1:=fZ (o:=.dK []) hl;have O1:=O.same s1;obtain⟨dx,fs,hp,ft⟩:=O1.ex;walk_at"s";refine DB fun Z hZ=>?_;walk_at"rd";refine gq hp (om ft _) ⟨D,rfl,O1,by omega,fun l2 H2 s2 Ds h2=>⟨l2,rfl,⟨_,.of h2⟩,hZ _ _ ?_⟩⟩;clear hZ;have fll:(gm D.ns).length<=60:=by unfold gm;rw[ae];exact bO (eN _ _) nl
  have s02:bI H H2:=s1.trans s2;have VF:H2 l=some (.dK (A3 [])):=s2 _ _ bR;have nl2:l2≠l:=fun z=>by rw[z,VF]at h2;cases h2
  have f2:H l2=none:=by
   cases z:H l2 with
   |none=>rfl
   |some o=>rw[s1 _ _ z]at Ds;cases Ds
  refine GR (K:=K) (a:=l2) (xs:=(gm D.ns).map V.str) (fun i σ H'=>∃v3 v4 ks,σ=[some (.ref D.p),some (.int t),some (.ref l),v3,v4]/\bI H H'/\H' l2=some (.lst ((gm D.ns).map V.str))/\H' l=some (.dK (A3 ks))/\ks.length<=6*i/\(∀y,y∈ks↔∃x∈(gm D.ns).take i,∃ys,yC D x t/\Up D.ns x ys/\y∈ys)) ⟨none,none,[],rfl,s02,h2,VF,aq _,fun y=>⟨fun z=>absurd z bf,fun⟨x,hx,_⟩=>absurd hx (by simp)⟩⟩ (fun i σ H' _⟨_,_,_,_,_,h,_⟩=>.of h) ?_ ?_
  ·rintro i w0 σ H3 hv ⟨v3,v4,ks,rfl,s3,h3,Ko,kl,kk⟩;obtain⟨x,hx,rfl⟩:∃x,(gm D.ns)[i]?=some x/\V.str x=w0:=by
    rw[aK]at hv;cases e:(gm D.ns)[i]? with
    |none=>rw[e]at hv;cases hv
    |some z=>rw[e]at hv;exact⟨z,rfl,ak hv⟩
   have hi:i<60:=by have:=(aD.mp hx).1;omega
   have KA:=aV hx;obtain⟨n,g,r,ys,hn,hq,U,yl,gb,ok⟩:=Y.leaf O KA;have O3:=O.same s3;obtain⟨dx3,fs3,l7,Qk⟩:=O3.ex;have Ic:∀y,(∃x∈(gm D.ns).take (i+1),∃ys,yC D x t/\Up D.ns x ys/\y∈ys)↔(y∈ks\/(yC D x t/\y∈ys)):=fun y=>by
    rw[Cp hx];constructor
    ·rintro⟨z,hz,zs,h1,h2,h3⟩;rcases ay.mp hz with q|q
     ·exact .inl ((kk y).mpr ⟨z,q,zs,h1,h2,h3⟩)
     ·rw[aC.mp q]at h1 h2;rw[h2.det U]at h3;exact .inr ⟨h1,h3⟩
    ·rintro(q|⟨q1,q2⟩)
     ·obtain⟨z,hz,zs,h⟩:=(kk y).mp q;exact⟨z,ay.mpr (.inl hz),zs,h⟩
     ·exact⟨x,ay.mpr (.inr (aC.mpr rfl)),ys,q1,U,q2⟩
   show rh _ _ _ _ [some (.ref D.p),some (.int t),some (.ref l),some (.str x),v4] H3;refine An fun N hN=>?_;refine zyh fun Gp Vu=>?_;walk_at"rd";refine gq l7 (om Qk _) ⟨D,x,t,n,g,r,ys,rfl,O3,hn,hq,U,yl,gb,ok,tb,nb,fun a H4 s4 la=>?_⟩;have Kp:=s4 _ _ Ko;have h4:=s4 _ _ h3;have RL:=s3.trans s4;have mi:=(UP hn hq U t).trans la.now.symm;walk_at"rd";refine fX (fun c=>Vu _ _ ?_) fun c=>hN _ _ ⟨_,_,ks,rfl,RL,h4,Kp,by omega,fun y=>?_⟩
   ·clear Vu;have my:=mi.mpr c;have O4:=O.same RL;obtain⟨dx4,fs4,QT,Ql⟩:=O4.ex;refine DB fun Z hZ=>?_;walk_at"rd";refine gq QT (om Ql _) ⟨D,x,ys,rfl,O4,U,by omega,fun l5 H5 s5 Vi VG=>⟨l5,rfl,⟨_,.of VG⟩,hZ _ _ ?_⟩⟩;clear hZ;have n5:l5≠l:=fun z=>by rw[z,Kp]at Vi;cases Vi
    refine GR (K:=K) (a:=l5) (xs:=ys.reverse.map V.str) (fun j σ H'=>∃v4 Eh,σ=[some (.ref D.p),some (.int t),some (.ref l),some (.str x),v4]/\bI H H'/\H' l2=some (.lst ((gm D.ns).map V.str))/\H' l5=some (.lst (ys.reverse.map V.str))/\H' l=some (.dK (A3 Eh))/\Eh.length<=6*i+j/\∀y,y∈Eh↔y∈ks\/y∈ys.reverse.take j) ⟨v4,ks,rfl,RL.trans s5,s5 _ _ h4,VG,s5 _ _ Kp,by omega,fun y=>⟨.inl,fun z=>z.elim id fun q=>absurd q (by simp)⟩⟩ (fun j σ H' _⟨_,_,_,_,_,h,_⟩=>.of h) ?_ ?_
    ·rintro j w1 σ H6 LK ⟨v4',Eh,rfl,s6,h6,Vt,QE,V2,Op⟩;obtain⟨y,hy,rfl⟩:∃y,ys.reverse[j]?=some y/\V.str y=w1:=by
      rw[aK]at LK;cases e:ys.reverse[j]? with
      |none=>rw[e]at LK;cases LK
      |some z=>rw[e]at LK;exact⟨z,rfl,ak LK⟩
     have hj:j<6:=by have:=(aD.mp hy).1;rw[dI]at this;omega
     show zR _ _ _ _ [some (.ref D.p),some (.int t),some (.ref l),some (.str x),some (.str y)] H6;refine An fun N2 hN2=>?_;walk_at"rd";have lk:(A3 Eh).length=Eh.length:=ae _;refine⟨_,lB.k (k:=az y) QE (Fx (by omega)),hN2 _ _ ?_⟩;rw[SK];have kp:∀b o,b≠l->H6 b=some o->aH H6 l (.dK (A3 (yZ Eh y))) b=some o:=fun b o q e=>by rw[dj q];exact e
     refine⟨_,yZ Eh y,rfl,fun b o e=>kp b o (kW e hl) (s6 _ _ e),kp _ _ nl2 h6,kp _ _ n5 Vt,bR,?_,fun z=>?_⟩
     ·have:=zym Eh y;omega
     ·rw[zyl,Op,Cp hy,ay,aC,or_assoc]
    ·rintro σ H6 ⟨v4',Eh,rfl,s6,h6,Vt,QE,V2,Op⟩;rw[ae,bC]at Op;rw[ae,dI]at V2;refine hN _ _ ⟨_,_,Eh,rfl,s6,h6,QE,by omega,fun y=>?_⟩;rw[Ic,Op,jS];exact or_congr Iff.rfl ⟨fun q=>⟨my,q⟩,fun q=>q.2⟩
   ·rw[Ic];exact⟨.inl,fun q=>q.elim id fun z=>absurd (mi.mp z.1) c⟩
  ·rintro σ H3 ⟨v3,v4,ks,rfl,s3,h3,Ko,kl,kk⟩;rw[ae,bC]at kk;refine hR _ _ ?_;walk_at"rd";refine k l ks H3 s3 hl Ko fun y=>?_;rw[kk];constructor
   ·rintro⟨x,_,ys,h1,h2,h3⟩;exact⟨x,ys,h1,h2,h3⟩
   ·rintro⟨x,ys,h1,h2,h3⟩;exact⟨x,Y.full O h1,ys,h1,h2,h3⟩
inductive JJ(C:Cl)(vs:List V)(H:Hp)(Q:VK)(E:XK):Prop|mk (D:TD) (τ:Int) (v:Nat) (h1:vs=[.ref D.p]) (h2:bQ C H D) (h3:D.Dy τ v) (h4:(τ<=D.tm\/τ<=D.fr)) (h5:(0<=D.tm/\D.tm<10000000000000000/\D.fr<10000000000000000)) (h6:(L2.yV D)) (h7:(gm D.ns=[]->∀H',bI H H'->Q .b7 H')) (h8:(∀a,Nx D a->a<=max D.tm D.fr+1000000000000->∀H',bI H H'->Q (.int a) H')):JJ C vs H Q E
include T in
theorem ziq:bN P w K mg base (eW P w) 3 cX "next_choice" ["self"] [[]] (JJ (⟨cK,cU,cQ,cD,cK,cX⟩:Cl)):=by
 have iA:=WL P w base T;have jk:=WX P w base T;refine T.o4.okN (k:=2) jX (fun vs H Q E h=>?_) (fun f b9 A outer s H vs Q E hr h=>?_)
 ·obtain⟨D,τ,v,rfl,_⟩:=h;rfl
 ·obtain⟨D,τ,v,rfl,O,Y,tv,tb,nb,k0,k⟩:=h;refine⟨_,(bS (gA (i:=1) jX.nd rfl (rC (zva rfl) rfl T.Er boot_max (aL (eK (pv 0) rfl) (aL (eK (pv 0) rfl) bB)))) (c8 (gS (SG K rfl rfl rfl T.ya (aL (sY ["name"] [("at",1),("self",0)] rfl (by with_unfolding_all rfl) (by decide+kernel) rfl (by decide+kernel) (by exact⟨rfl,⟨rfl,bh⟩⟩) (by with_unfolding_all rfl) ⟨⟨rfl,rfl,rfl⟩,⟨⟨rfl,rfl,rfl⟩,bh⟩⟩ (Ag K rfl (xm (cu:=[]) iA (by simp) T.aJ (hr.mono (by decide)) aT (pv 0))) (fun _ _ _=>(nZ (i:=0) (show(["name","at","self"]:List Str).Nodup from by decide+kernel) rfl (by first|left;rfl|right;rfl))) (fun _ _ _=>OY) (fun _ _ _=>(gh (cu:=[]) jk (by simp) T.aJ (hr.mono (by decide)) aT (pv 2) (aL (pv 0) (aL (pv 1) bB))))) bB) vC)))),?_⟩;show dG _ _ _ [some (.ref D.p),none] H;obtain⟨dx,fs,hp,ft⟩:=O.ex;have nl:=Y.ln;walk_at"s";refine eG hp T.aJ T.iU ft.ti (eG hp T.aJ T.mL ft.fr ⟨_,rfl,_,rfl,hR _ _ ?_⟩);clear hR;walk_at"rd";unfold HZ;walk_at"rd";obtain⟨Dn,e0,a1,a2,a3⟩:∃Dn,(if D.fr > D.tm then D.fr else D.tm)=Dn/\D.tm<=Dn/\D.fr<=Dn/\Dn<=max D.tm D.fr:=by refine⟨_,rfl,?_,?_,?_⟩ <;> split <;> omega
  rw[e0];have tb0:0<=Dn/\Dn<10000000000000000:=by omega
  refine gq hp (om ft _) ⟨D,rfl,O,by omega,fun l H1 s1 hl h1=>⟨l,rfl,⟨_,.of h1⟩,fun L hL=>?_⟩⟩;have nL:l≠L:=kW h1 hL;have O1:=O.same s1;have fll:(gm D.ns).length<=60:=by unfold gm;rw[ae];exact bO (eN _ _) nl
  refine KG (K:=K) (a:=l) (xs:=(gm D.ns).map V.str) (fun i τ H'=>∃v0 as,τ=[v0,some (.int Dn),some (.ref D.p)]/\bI H1 H'/\H' L=some (.lst ((as:List Int).map V.int))/\Paired (fun x a=>FL D Dn x a) ((gm D.ns).take i) as) ⟨none,[],rfl,fZ hL,bR,.nil⟩ (fun i τ H' _⟨_,_,_,h,_⟩=>.of (h _ _ h1)) ?_ ?_
  ·rintro i w0 τ H2 hv ⟨v0,as,rfl,s2,yH,pr⟩;obtain⟨x,hx,rfl⟩:∃x,(gm D.ns)[i]?=some x/\V.str x=w0:=by
    rw[aK]at hv;cases e:(gm D.ns)[i]? with
    |none=>rw[e]at hv;cases hv
    |some z=>rw[e]at hv;exact⟨z,rfl,ak hv⟩
   have KA:=aV hx;obtain⟨n,g,r,ys,hn,hq,U,yl,gb,ok⟩:=Y.leaf O KA;have O2:=O1.same s2;obtain⟨dx2,fs2,Aj,Qj⟩:=O2.ex;have ok:∀b∈k8 D.ns ys,kQ D.most b/\b.s<=Dn:=fun b hb=>⟨(ok b hb).1,by have:=(ok b hb).2;omega⟩;walk_at"rd";simp only[Bb,if_true];walk_at"rd";refine gq Aj (om Qj _) ⟨D,x,Dn,n,g,r,ys,rfl,O2,hn,hq,U,yl,gb,ok,tb0,nb,fun a H3 s3 la=>?_⟩;have al:=pr.length;rw[bV]at al;refine⟨_,s3 _ _ yH,Fx (by rw[ae];omega),fun b u' e=>?_,as++[a],?_,?_⟩
   ·rw[dj (kW e hL)];exact s3 _ _ (s2 _ _ e)
   ·rw[bR,aA];rfl
   ·rw[Cp hx];exact OP (F:=fun x a=>FL D Dn x a) ⟨n,g,r,ys,hn,hq,U,la,la.bound (fun b hb=>(ok b hb).1) gb.2.1 (by omega) gb.2.2 fun b hb=>(ok b hb).2⟩ pr
  ·rintro τ H2 ⟨v0,as,rfl,s2,yH,pr⟩;rw[ae,bC]at pr;refine⟨L,rfl,as,.of yH,fun ea=>?_,fun a ha la=>?_⟩
   ·refine k0 ?_ H2 (s1.trans s2);have:=pr.length;rw[ea]at this;exact j8 this
   ·obtain⟨x,hx,h⟩:=Yo pr a ha;obtain⟨m1,m2,m3⟩:=h.may;obtain⟨_,_,_,_,_,_,_,_,bd⟩:=h;refine k a ⟨⟨x,m1⟩,⟨by omega,by omega⟩,fun z u u1 u2 mz=>?_⟩ (by omega) H2 (s1.trans s2);obtain⟨a',ha',h'⟩:=X0 pr z (Y.full O mz);have:=h'.may.2.2 u (by rw[<-e0];split <;> omega) mz;have:=la a' ha';omega
inductive HL(C:Cl)(vs:List V)(H:Hp)(Q:VK)(E:XK):Prop|mk (D:TD) (n:ND) (t len:Int) (h1:vs=[.ref n.p,.int t,.int len]) (h2:bQ C H D) (h3:(D.ns.map (·.nm)).Nodup) (h4:n∈D.ns) (h5:(∀c,n.ch=some c->c.2.DL)) (h6:(1<=len/\len<=1000000)) (h7:(0<=t/\t<100000000000000000)) (h8:(∀b,n.bk=some b->kQ D.most b.2/\b.2.s<=t/\(len:Rat)<=b.2.lv t)) (h9:(L2.yV D)) (yG:∀H',bQ C H' {D with ns:=dF D.ns (n.chg t len)}->iJ n.foot H H'->Q .b7 H'):HL C vs H Q E
include T in
theorem zoe:bN P w K mg base (eW P w) 6 cK "charge" ["self","at","length"] [[]] (HL (⟨cK,cU,cQ,cD,cK,cX⟩:Cl)):=by
 have xF:=zql P w base T;have xD:=zqn P w base T;refine T.uM.okN (k:=5) zmm (fun vs H Q E h=>?_) (fun f b9 A outer s H vs Q E hr h=>?_)
 ·obtain⟨D,n,t,len,rfl,_⟩:=h;rfl
 ·obtain⟨D,n,t,len,rfl,O,nn,gf,pok,lb,tb,bok,nb,k⟩:=h;refine⟨_,(bS (dW (j7 GV (eK (pv 0) rfl) vC (jL _)) (c8 (j6 (Iq (gh (cu:=[]) xF (by simp) T.aN (hr.mono (by decide)) aT (eK (pv 0) rfl) (aL (pv 2) bB)) (gh (cu:=[]) xD (by simp) T.aF (hr.mono (by decide)) aT (eK (pv 0) rfl) (aL (pv 2) bB))))) kX) (c8 (dW (j7 GV (eK (pv 0) rfl) vC (jL _)) (c8 Za) kX))),?_⟩;show dG _ _ _ [some (.ref n.p),some (.int t),some (.int len)] H;have N:=O.nd n gf;obtain⟨dn,fn,oS,mW⟩:=N.ex;have hb:n.bk=none:=nb n gf;refine bM fun R hR=>?_;have post:∀H1 n1,n1.p=n.p->n1.bk=none->bQ (⟨cK,cU,cQ,cD,cK,cX⟩:Cl) H1 {D with ns:=dF D.ns n1}->n1=n.chg t len->n1.nm=n.nm->iJ n.foot H H1->R [some (.ref n.p),some (.int t),some (.int len)] H1:=fun H1 n1 e1 e2 O1 e3 e4 dd=>hR _ _ (by
   clear hR;have Gs:n1∈dF D.ns n1:=by unfold dF;exact av.mpr ⟨n,gf,by rw[if_pos e4.symm]⟩
   obtain⟨d1,f1,h1,VB⟩:=(O1.nd n1 Gs).ex;rw[e1]at h1;rw[e2]at VB;walk_at"rd";refine eG h1 T.dB T.kJ VB.bk ?_;rw[e3]at O1;exact fX (fun _=>k H1 O1 dd) fun z=>absurd rfl z)
  clear hR;walk_at"rd";refine eG oS T.dB T.bZ mW.ch ?_;cases hc:n.ch with
  |none=>
   refine fX (fun _=>post H n rfl hb (by rw[zwx nn gf];exact O) ?_ rfl (bI.refl _).kU) fun z=>absurd rfl z;unfold ND.chg;rw[hc,hb];obtain⟨a1,a2,a3,a4,a5,a6,a7,a8,a9⟩:=n;cases hc
   cases hb;rfl
  |some c=>
   refine fX (fun z=>by cases z) fun _=>?_;obtain⟨a,cs⟩:=c;have pk:=pok _ hc;have CS:=N.ch _ hc;rw[hc]at mW;have sub:∀b∈lI a,b∈n.foot:=fun b hb=>by unfold ND.foot;rw[hc];exact ai _ (ai _ (ay.mpr (.inl hb)))
   have Hh:∀H1,lS a H H1->yM cU cQ cD H1 a D.most (cs.qV cs.yF len)->R [some (.ref n.p),some (.int t),some (.int len)] H1:=fun H1 ow C1=>post H1 {n with ch:=some (a,cs.qV cs.yF len)} rfl hb (O.uf nn gf hc ow C1) (by
    unfold ND.chg;rw[hc,hb];obtain⟨a1,a2,a3,a4,a5,a6,a7,a8,a9⟩:=n;cases hb
    rfl) rfl (ow.kU.mono sub)
   clear post;walk_at"rd";cases cs with
   |st nm tg gs ck ch M=>
    obtain⟨x,s,g,e1,e2,sb,e3,e4,e5,e6,e7⟩:=pk;subst e1;refine .inl ?_;walk_at"rd";refine eG oS T.dB T.bZ mW.ch ?_;have S:Sx cU cD H a D.most nm tg gs ck (.str x) M:=CS;obtain⟨CB,qp,pr,rG,zk,jV⟩:=S.ex;refine gq rG (zk.qv _) ⟨a,D.most,nm,tg,gs,ck,M,x,s,g,len,rfl,S,by omega,e2,e3,e4,sb.1,sb.2,by omega,lb.2,e6,e5.mono (by decide),fun H1 ow S1=>Hh H1 ow ?_⟩;show Sx cU cD H1 a D.most nm (gY tg x (ck+(len:Rat) / (((aP nm x).getD 1:Int):Rat))) (gY gs x (max ((gs x).getD 0) ((len:Rat) / (((aP nm x).getD 1:Int):Rat)))) ck (.str x) (M+2);rw[e2,e4];exact S1
   |rd nm q rs tu ch=>
    obtain⟨x,r,e1,e2,e3⟩:=pk;subst e1;refine .inr ?_;walk_at"rd";refine eG oS T.dB T.bZ mW.ch ?_;have S:Rx cQ cD H a D.most nm q rs tu (.str x):=CS;refine S.nQ (by decide+kernel) ⟨a,D.most,nm,q,rs,tu,x,r,len,rfl,S,by omega,e2,fun H1 ow S1=>Hh H1 ow ?_⟩;show Rx cQ cD H1 a D.most nm q (putN rs x ((aP rs x).getD 0-len)) tu (.str x);rw[e2];exact S1
inductive MP(C:Cl)(vs:List V)(H:Hp)(Q:VK)(E:XK):Prop|mk (D:TD) (t:Int) (x:Str) (pre:List Str) (g:D2) (v:Nat) (h1:vs=[.ref D.p,.str x,.int t]) (h2:bQ C H {D with ns:=D.ns.map (kh D.most (fO D t) (x::pre))}) (h3:(∀n∈D.ns,n.ch≠none->n.qu=[]/\n.ps=[])) (h4:D.Dy t v) (h5:yR D t x pre g) (h6:(0<=t/\t<10000000000000000)) (h7:(L2.yV D)) (h8:D.gp.length<=900) (h9:∀p H',bQ C H' (D.step (fO D t) (x::pre) x t g p)->iJ D.foot H H'->Q .b7 H'):MP C vs H Q E
include T in
theorem zjb:bN P w K mg base (eW P w) 7 cX "send_first" ["self","name","at"] [[]] (MP (⟨cK,cU,cQ,cD,cK,cX⟩:Cl)):=by
 have dO:=No P w base T;have vF:=zoe P w base T;refine T.pY.okN (k:=6) iE (fun vs H Q E h=>?_) (fun f b9 A outer s H vs Q E hr h=>?_)
 ·obtain⟨D,t,x,pre,g,v,rfl,_⟩:=h;rfl
 ·obtain⟨D,t,x,pre,g,v,rfl,O,LC,Y,G,tb,nb,gl,k⟩:=h;refine⟨_,(bS (gA (i:=3) iE.nd rfl (sX b6 PySem.F.slot_list_pop PySem.F.type_list_pop zxt (eK (o8 (bY hr) (eK (pv 0) rfl) (pv 1) (fun _ _=>rfl)) rfl) (aL bP bB))) (bS (DE PassesOwn.never rfl (Ag K rfl (gh (cu:=[]) dO (by simp) T.aJ (hr.mono (by decide)) aT (pv 0) (aL (pv 1) bB))) (nZ (i:=4) iE.nd rfl (by first|left;rfl|right;rfl)) (c8 (j6 (gh (cu:=[]) vF (by simp) T.dB (hr.mono (by decide)) aT (o8 (bY hr) (eK (pv 0) rfl) (pv 4) (fun _ _=>rfl)) (aL (pv 2) (aL (bG (jb K rfl) (pv 3) bP (fun _ _=>rfl)) bB)))))) (bS (j6 (sX b6 eR eS Ii (eK (pv 0) rfl) (aL (wA (aL (pv 2) (aL (bG (jb K rfl) (pv 3) bP (fun _ _=>rfl)) (aL (pv 1) bB)))) bB))) (c8 (pI (pv 0) (aM sL (pv 2) (bG (jb K rfl) (pv 3) bP (fun _ _=>rfl))) rfl))))),?_⟩;show dG _ _ _ [some (.ref D.p),some (.str x),some (.int t),none,none] H;obtain⟨n,r,hx,Lq,Ge,Qq⟩:=G.q;obtain⟨gf,ne⟩:=jK hx;have U:=G.up;obtain⟨ys,U',yl⟩:=Y.W.up n gf;rw[ne]at U';obtain rfl:=U.det U';have gb:=Y.qu n gf g (by rw[Ge];exact aj ..);have m6:=Y.W.m1.2;have en:∀f:ND->ND,(∀y,(f y).nm=y.nm)->((D.ns.map f).map (·.nm)).Nodup:=fun f hf=>by
   have:(D.ns.map f).map (·.nm)=D.ns.map (·.nm):=by rw[bg];exact aO fun y _=>hf y
   rw[this];exact Y.W.nn
  have zw:bz (D.ns.map (kh D.most (fO D t) (x::pre))) x=some (kh D.most (fO D t) (x::pre) n):=by rw[Pf GZ,hx];rfl
  obtain⟨Gs,n1e⟩:=jK zw;have N1:=O.nd _ Gs;obtain⟨dn,fn,oS,mW⟩:=N1.ex;obtain⟨c1,c2,c3,c4⟩:=T7 (m:=D.most) (R:=fO D t) (S:=x::pre) n;have QL:=N1.qu;rw[c1,c2,c3,Ge]at QL;obtain⟨p0,rest,ep,h0,rr⟩:∃p0 rest,n.ps=p0::rest/\H p0=some (.tup (d2 g))/\tq H rest r:=by
   have r0:=QL.r;generalize n.ps=ps at r0;cases r0 with
   |cons a b=>exact⟨_,_,rfl,a,b⟩
  have hl:=QL.hl;rw[ep]at hl;obtain⟨dx,fs,hp,ft⟩:=O.ex;have Gw:(kh D.most (fO D t) (x::pre) n).ql=n.ql:=c3;walk_at"s";refine eG hp T.aJ T.bA ft.no ⟨_,rfl,_,jW O zw,?_⟩;refine eG oS T.dB T.gF mW.qu ?_;rw[Gw];refine⟨GY hl,n.ql,_,0,0,.ref p0,rfl,rfl,hl,by decide,by decide,by unfold seqIndex?;simp,rfl,hR _ _ ?_⟩;clear hR;have O2:=O.queue (en _ GZ) Gs (ps:=rest) (qu:=r) rr;have eh:aH H (kh D.most (fO D t) (x::pre) n).ql (.lst (rest.map V.ref))=aH H n.ql (.lst (rest.map V.ref)):=by rw[Gw]
  rw[eh]at O2;have e2:dF (D.ns.map (kh D.most (fO D t) (x::pre))) {kh D.most (fO D t) (x::pre) n with ps:=rest,qu:=r}=D.ns.map (jn D.most (fO D t) (x::pre) x [] t g.2):=by
   refine Ny Y.W.nn GZ gf (GZ n) ?_ fun y _ q=>?_
   ·unfold jn;rw[if_neg bf,if_pos ne,ep,Ge];rfl
   ·unfold jn;rw[if_neg bf,if_neg (fun z=>q (z.trans ne.symm))]
  have O2:bQ (⟨cK,cU,cQ,cD,cK,cX⟩:Cl) (aH H n.ql (.lst (rest.map V.ref))) {D with ns:=dF (D.ns.map (kh D.most (fO D t) (x::pre))) {kh D.most (fO D t) (x::pre) n with ps:=rest,qu:=r}}:=O2;rw[e2]at O2;have O2:bQ (⟨cK,cU,cQ,cD,cK,cX⟩:Cl) (aH H n.ql (.lst (rest.map V.ref))) (D.mid t x pre [] g.2):=O2;have F3:iJ D.foot H (aH H n.ql (.lst (rest.map V.ref))):=Nv (TD.e8 gf (ai _ (aj ..)));have Qn:aH H n.ql (.lst (rest.map V.ref)) p0=some (.tup (d2 g)):=by rw[dj (cj h0 hl (by intro z;cases z))];exact h0
  refine(show dG _ _ _ [some (.ref D.p),some (.str x),some (.int t),some (.ref p0),none] (aH H n.ql (.lst (rest.map V.ref)))from ?_);generalize aH H n.ql (.lst (rest.map V.ref))=H2 at O2 F3 Qn⊢;clear O N1 oS mW QL hl hp ft rr h0 e2;have LV:∀T':List Str,(D.mid t x pre T' g.2).foot=D.foot:=fun T'=>ZA fun y=>OS y;have Um:∀T':List Str,Up (D.mid t x pre T' g.2).ns x (x::pre):=fun T'=>zzq NH (fun y=>by
   unfold jn;split
   ·exact zzp y
   ·split <;> exact T6 y) U
  refine bM fun R hR=>?_;refine DB fun Z hZ=>?_;walk_at"rd";obtain⟨dx,fs,hp,ft⟩:=O2.ex;refine gq hp (om ft _) ⟨D.mid t x pre [] g.2,x,x::pre,rfl,O2,Um [],by omega,fun l H3 s3 fl Ko=>⟨l,rfl,⟨_,.of Ko⟩,hZ _ _ ?_⟩⟩;clear hZ hp ft;have Kh:l∉D.foot:=by have:=O2.free fl;rw[LV]at this;exact this
  have d3:iJ D.foot H H3:=F3.trans s3.kU;have Vp:=s3 _ _ Qn;have O3:=O2.same s3;clear O2 F3 Qn s3 fl;have Wk:p0∉D.foot:=by have:=O3.L7 Vp;rw[LV]at this;exact this
  refine GR (K:=K) (a:=l) (xs:=(x::pre).reverse.map V.str) (fun j σ H'=>∃v4,σ=[some (.ref D.p),some (.str x),some (.int t),some (.ref p0),v4]/\bQ (⟨cK,cU,cQ,cD,cK,cX⟩:Cl) H' (D.mid t x pre ((x::pre).reverse.take j) g.2)/\iJ D.foot H H'/\H' p0=some (.tup (d2 g))/\H' l=some (.lst ((x::pre).reverse.map V.str))) ⟨none,rfl,O3,d3,Vp,Ko⟩ (fun j σ H' _⟨_,_,_,_,_,h⟩=>.of h) ?_ ?_
  ·rintro j w0 σ H4 hv ⟨v4,rfl,O4,d4,Ll,Kp⟩;obtain⟨y,hy,rfl⟩:∃y,(x::pre).reverse[j]?=some y/\V.str y=w0:=by
    rw[aK]at hv;cases e:(x::pre).reverse[j]? with
    |none=>rw[e]at hv;cases hv
    |some z=>rw[e]at hv;exact⟨z,rfl,ak hv⟩
   have Ni:=jS.mp (aV hy);obtain⟨m,hm⟩:=U.mem y Ni;obtain⟨min,me⟩:=jK hm;have nd:(x::pre).reverse.Nodup:=List.pairwise_reverse.mpr (U.nodup.imp d8);have yT:m.nm∉(x::pre).reverse.take j:=fun z=>by rw[me]at z;obtain⟨i,hi,e⟩:=List.mem_iff_getElem.mp z;rw[bV]at hi;rw[List.getElem_take]at e;obtain⟨hj,e'⟩:=aD.mp hy;have:=(G6 nd).mp (e.trans e'.symm);omega
   have VI:bz (D.mid t x pre ((x::pre).reverse.take j) g.2).ns y=some (jn D.most (fO D t) (x::pre) x ((x::pre).reverse.take j) t g.2 m):=by show bz (D.ns.map _) y=_;rw[Pf NH,hm];rfl
   obtain⟨LU,m4e⟩:=jK VI;obtain⟨dx4,fs4,QT,Ql⟩:=O4.ex;show w4 _ _ [some (.ref D.p),some (.str x),some (.int t),some (.ref p0),some (.str y)] H4;refine An fun N hN=>?_;walk_at"rd";refine eG QT T.aJ T.bA Ql.no ⟨_,rfl,_,jW O4 VI,?_⟩;obtain⟨dm,fm,QJ,QK⟩:=(O4.nd _ LU).ex;refine gq QJ (QK.qv _) (jc (.of Ll) (v:=.int g.2) rfl ?_);have nn4:((D.mid t x pre ((x::pre).reverse.take j) g.2).ns.map (·.nm)).Nodup:=en _ NH;have eqs:=SQ Y G LC (T:=(x::pre).reverse.take j) min (by rw[me];exact Ni) yT;have P0:(jn D.most (fO D t) (x::pre) x ((x::pre).reverse.take j) t g.2 m).bk=m.bk:=by unfold jn;rw[if_neg yT];split <;> exact U1 m
   refine⟨D.mid t x pre ((x::pre).reverse.take j) g.2,_,t,g.2,rfl,O4,nn4,LU,fun c hc=>?_,⟨gb.1,by omega⟩,⟨by omega,by omega⟩,fun b hb=>?_,?_,fun H5 O5 d5=>hN _ _ ⟨_,rfl,?_,fun b o nb e=>?_,?_,?_⟩⟩
   ·
    unfold jn at hc;rw[if_neg yT]at hc;by_cases e:m.nm=x
    ·rw[if_pos e]at hc;have:m=n:=by have:=sN Y.W.nn min;rw[e,hx]at this;exact(ak this).symm
     subst this;have hc:(kh D.most (fO D t) (x::pre) m).ch=some c:=hc;unfold kh at hc;split at hc
     ·rw[Lq]at hc;cases hc
     ·rw[Lq]at hc;cases hc
    ·rw[if_neg e]at hc;have rG:m.nm∈pre:=(ao.mp (by rw[me];exact Ni:m.nm∈x::pre)).resolve_left e;obtain⟨m',c',z,q1,q2,q3⟩:=G.led.LN m.nm rG;rw[sN Y.W.nn min]at q1;cases q1
     unfold kh at hc;rw[if_pos (by rw[me];exact Ni),q2]at hc;obtain rfl:(c'.1,c'.2.kL D.most (fO D t))=c:=ak hc;exact(OZ (R:=fO D t) (len:=g.2) Y min q2 q3).2.2.2.1
   ·rw[P0]at hb;obtain⟨b1,b2⟩:=Y.bk m min b hb;exact⟨b1,b2,Qq b.2 (Z6 Ni hm hb)⟩
   ·first
     |trivial
     |exact SR nb t x pre _ g.2
   ·have e5:dF (D.ns.map (jn D.most (fO D t) (x::pre) x ((x::pre).reverse.take j) t g.2)) ((jn D.most (fO D t) (x::pre) x ((x::pre).reverse.take j) t g.2 m).chg t g.2)=D.ns.map (jn D.most (fO D t) (x::pre) x ((x::pre).reverse.take (j+1)) t g.2):=by
     refine Ny Y.W.nn NH min ?_ ?_ fun y' _ q=>?_
     ·show(jn D.most (fO D t) (x::pre) x ((x::pre).reverse.take j) t g.2 m).nm=_;exact NH m
     ·rw[eqs];unfold jn;rw[if_pos (by rw[Cp hy,me];simp)]
     ·unfold jn;have:y'.nm∈(x::pre).reverse.take (j+1)↔y'.nm∈(x::pre).reverse.take j:=by rw[Cp hy,ay,aC];exact⟨fun z=>z.resolve_right fun w=>q (w.trans me.symm),.inl⟩
      by_cases c:y'.nm∈(x::pre).reverse.take j
      ·rw[if_pos c,if_pos (this.mpr c)]
      ·rw[if_neg c,if_neg (fun z=>c (this.mp z))]
    have O5:bQ (⟨cK,cU,cQ,cD,cK,cX⟩:Cl) H5 {D with ns:=dF (D.ns.map (jn D.most (fO D t) (x::pre) x ((x::pre).reverse.take j) t g.2)) ((jn D.most (fO D t) (x::pre) x ((x::pre).reverse.take j) t g.2 m).chg t g.2)}:=O5;rw[e5]at O5;exact O5
   ·refine d5 b o (fun z=>nb ?_) (d4 b o nb e);rw[OS]at z;exact TD.e8 min z
   ·refine d5 _ _ (fun z=>Wk ?_) Ll;rw[OS]at z;exact TD.e8 min z
   ·refine d5 _ _ (fun z=>Kh ?_) Kp;rw[OS]at z;exact TD.e8 min z
  ·rintro σ H4 ⟨v4,rfl,O4,d4,Ll,Kp⟩;rw[ae,bC]at O4;refine hR _ _ ?_;clear hR;have e6:D.ns.map (jn D.most (fO D t) (x::pre) x (x::pre).reverse t g.2)=D.ns.map (stN D.most (fO D t) (x::pre) t g.2):=by
    refine aO fun y _=>?_;unfold jn;by_cases c:y.nm∈x::pre
    ·rw[if_pos (jS.mpr c)]
    ·rw[if_neg (fun z=>c (jS.mp z)),if_neg (fun z=>c (by rw[z];exact aj ..))];unfold kh L2.stN;rw[if_neg c,if_neg c]
   have O4:bQ (⟨cK,cU,cQ,cD,cK,cX⟩:Cl) H4 {D with ns:=D.ns.map (jn D.most (fO D t) (x::pre) x (x::pre).reverse t g.2)}:=O4;rw[e6]at O4;obtain⟨dx,fs,hp,ft⟩:=O4.ex;walk_at"s";refine eG hp T.aJ T.qR ft.go ?_;refine⟨GY O4.go,jc (.of Ll) (v:=.int g.1) rfl fun p fp=>?_⟩;have s5:=fZ (o:=.tup [.int t,.int g.1,.str x]) fp;have O5:=O4.same s5;have Vq:=s5 _ _ Ll;have h5:aH H4 p (.tup [.int t,.int g.1,.str x]) p=some (.tup (NW (t,g.1,x))):=bR;have d5:=d4.trans (s5.kU (S:=D.foot));generalize aH H4 p (.tup [.int t,.int g.1,.str x])=H5 at O5 Vq h5 d5⊢;refine KW O5.go (by rw[ae];show D.gp.length<1000;omega) (hR _ _ ?_);clear hR;have O6:=O5.gone h5;have Mn:D.pg∈D.foot:=ai _ (ai _ (aj ..));have eg:(HO.lst (D.gp.map V.ref++[V.ref p]))= .lst ((D.gp++[p]).map V.ref):=by rw[aA];rfl
   have Vr:aH H5 D.pg (.lst ((D.gp++[p]).map V.ref)) p0=some (.tup (d2 g)):=by rw[dj (fun z=>Wk (by rw[z];exact Mn))];exact Vq
   have d6:iJ D.foot H (aH H5 D.pg (.lst ((D.gp++[p]).map V.ref))):=d5.trans (Nv Mn);refine(show(_:TS) _ [some (.ref D.p),some (.str x),some (.int t),some (.ref p0),v4] (aH H5 D.pg (.lst (D.gp.map V.ref++[V.ref p])))from ?_);rw[eg];have O6:bQ (⟨cK,cU,cQ,cD,cK,cX⟩:Cl) (aH H5 D.pg (.lst ((D.gp++[p]).map V.ref))) {D with ns:=D.ns.map (L2.stN D.most (fO D t) (x::pre) t g.2),gp:=D.gp++[p],gs:=D.gs++[(t,g.1,x)]}:=O6;generalize aH H5 D.pg (.lst ((D.gp++[p]).map V.ref))=H6 at O6 Vr d6⊢;obtain⟨dx6,fs6,Ob,Vk⟩:=O6.ex;walk_at"rd";refine jc (.of Vr) (v:=.int g.2) rfl ?_;refine⟨_,rfl,pJ Ob T.aJ T.mL (by have:=Vk.len;omega) ?_⟩;have O7:=O6.field Ob (Vk.Jx (Qg:=t+g.2));exact k p _ O7 (d6.trans (Nv (aj ..)))
inductive MM(C:Cl)(vs:List V)(H:Hp)(Q:VK)(E:XK):Prop|mk (D:TD) (t:Int) (v:Nat) (h1:vs=[.ref D.p,.int t]) (h2:bQ C H D) (h3:D.Dy t v) (h4:(∃x,yC D x t)) (h5:(0<=t/\t<10000000000000000)) (h6:(L2.yV D)) (h7:D.gp.length<=900) (h8:∀x pre g p H',yR D t x pre g->bQ C H' (D.step (fO D t) (x::pre) x t g p)->iJ D.foot H H'->Q .b7 H'):MM C vs H Q E
include T in
theorem zir:bN P w K mg base (eW P w) 8 cX "make_choice" ["self","at"] [[]] (MM (⟨cK,cU,cQ,cD,cK,cX⟩:Cl)):=by
 have tK:=zlz P w base T;have tI:=zlv P w base T;have tF:=zly P w base T;have gj:=Ul P w base T;have iR:=Xj P w base T;have qy:=zjb P w base T;refine T.oZ.okN (k:=7) e9 (fun vs H Q E h=>?_) (fun f b9 A outer s H vs Q E hr h=>?_)
 ·obtain⟨D,t,v,rfl,_⟩:=h;rfl
 ·obtain⟨D,t,v,rfl,O,Y,my,tb,nb,gl,k⟩:=h;refine⟨_,(bS (gA (i:=2) e9.nd rfl (gh (cu:=[]) tK (by simp) T.aJ (hr.mono (by decide)) aT (pv 0) (aL (pv 1) bB))) (bS (gA (i:=3) e9.nd rfl (KN rfl T.x8)) (bS (KH PassesOwn.never (j7 GV (eK (o8 (bY hr) (eK (pv 0) rfl) (pv 3) (fun _ _=>rfl)) rfl) vC (jL _)) (bS (gA (i:=4) e9.nd rfl (eK (o8 (bY hr) (eK (pv 0) rfl) (pv 3) (fun _ _=>rfl)) rfl)) (c8 (gA (i:=3) e9.nd rfl (Iq (gh (cu:=[]) tI (by simp) T.aN (hr.mono (by decide)) aT (pv 4) (aL (sY ["child"] [("ready",2)] rfl (by with_unfolding_all rfl) (by decide+kernel) rfl (by decide+kernel) (by exact⟨rfl,bh⟩) (by with_unfolding_all rfl) ⟨⟨rfl,rfl,rfl⟩,bh⟩ (Ag K rfl (Iq (xm (cu:=[]) gj (by simp) T.aN (hr.mono (by decide)) aT (pv 4)) (xm (cu:=[]) iR (by simp) T.aF (hr.mono (by decide)) aT (pv 4)))) (fun _ _ _=>(nZ (i:=0) (show(["child","ready"]:List Str).Nodup from by decide+kernel) rfl (by first|left;rfl|right;rfl))) (fun _ _ _=>(Ij (J5 (Po (bY hr) (pv 0) (pv 1))))) (fun _ _ _=>(pv 0))) bB)) (gh (cu:=[]) tF (by simp) T.aF (hr.mono (by decide)) aT (pv 4) (aL (sY ["child"] [("ready",2)] rfl (by with_unfolding_all rfl) (by decide+kernel) rfl (by decide+kernel) (by exact⟨rfl,bh⟩) (by with_unfolding_all rfl) ⟨⟨rfl,rfl,rfl⟩,bh⟩ (Ag K rfl (Iq (xm (cu:=[]) gj (by simp) T.aN (hr.mono (by decide)) aT (pv 4)) (xm (cu:=[]) iR (by simp) T.aF (hr.mono (by decide)) aT (pv 4)))) (fun _ _ _=>(nZ (i:=0) (show(["child","ready"]:List Str).Nodup from by decide+kernel) rfl (by first|left;rfl|right;rfl))) (fun _ _ _=>(Ij (J5 (Po (bY hr) (pv 0) (pv 1))))) (fun _ _ _=>(pv 0))) bB))))))) (c8 (j6 (gh (cu:=[]) qy (by simp) T.aJ (hr.mono (by decide)) aT (pv 0) (aL (pv 3) (aL (pv 1) bB)))))))),?_⟩;show dG _ _ _ [some (.ref D.p),some (.int t),none,none,none] H;obtain⟨dx,fs,hp,ft⟩:=O.ex;have LC:∀n∈D.ns,n.ch≠none->n.qu=[]/\n.ps=[]:=fun n gf hc=>Lv.ps O Y.lv gf hc;walk_at"s";refine gq hp (om ft _) ⟨D,t,v,rfl,O,Y,tb,nb,fun l ks H1 s1 fl hl kk=>hR _ _ ?_⟩;clear hR hp ft;have Kh:l∉D.foot:=O.free fl;have O1:=O.same s1;walk_at"s";refine hR _ _ ?_;clear hR;have e0:D.ask t []=D:=by
   unfold TD.ask;have:D.ns.map (kh D.most (fO D t) [])=D.ns:=by
    conv=>rhs;rw[<-j9 D.ns]
    exact aO fun y _=>SJ y
   rw[this]
  obtain⟨rn,hr0,ra0,rc0⟩:=Y.W.Mw;refine bM fun R hR=>?_;refine Pd (fun m σ H'=>∃y pre v4,σ=[some (.ref D.p),some (.int t),some (.ref l),some (.str y),v4]/\bQ (⟨cK,cU,cQ,cD,cK,cX⟩:Cl) H' (D.ask t pre)/\iJ D.foot H H'/\H' l=some (.dK (A3 ks))/\IC D.ns (fO D t) pre y/\fO D t y/\Up D.ns y (y::pre)/\m+pre.length=6) (m0:=6) ⟨road,[],none,rfl,by rw[e0];exact O1,s1.kU,hl,.nil,my.elim fun x m=>m.road Y.W,.top hr0 ra0,rfl⟩ ?_;rintro m σ H2 ⟨y,pre,v4,rfl,O2,F3,Ds,ld,Wm,U,hm⟩;obtain⟨n,hy⟩:=U.Ho;obtain⟨gf,ne⟩:=jK hy;have nd:=U.nodup;rw[aY]at nd;have cn:kh D.most (fO D t) pre n=n:=by unfold kh;rw[if_neg (by rw[ne];exact nd.1)]
  have Oj:bz (D.ask t pre).ns y=some n:=by show bz (D.ns.map _) y=_;rw[Pf GZ,hy];exact congrArg some cn
  obtain⟨LW,_⟩:=jK Oj;have N2:=O2.nd n LW;obtain⟨dn,fn,oS,mW⟩:=N2.ex;obtain⟨dx,fs,hp,ft⟩:=O2.ex;have ul:(y::pre).length<=6:=by obtain⟨ys,U',l'⟩:=Y.W.up n gf;rw[ne]at U';rw[U.det U'];exact l'
  rw[bj]at ul;cases hc:n.ch with
  |none=>
   refine⟨false,fun Q hQ=>?_,fun z=>(by cases z),fun _=>hR _ _ ?_⟩
   ·walk_at"rd";refine eG hp T.aJ T.bA ft.no ⟨_,rfl,_,jW O2 Oj,?_⟩;refine eG oS T.dB T.bZ mW.ch ?_;rw[hc];exact hQ
   ·clear hR;have may:=Wm.leaf Y.W hy hc;obtain⟨n',ys,g,r,q1,q2,q3,q4⟩:=may;rw[hy]at q1;cases q1
    rw[<-U.det q3]at q4;have G:yR D t y pre g:=⟨ld,⟨n,ys,g,r,hy,q2,q3,by rw[<-U.det q3];exact q4⟩,U,n,r,hy,hc,q2,q4⟩;have O2:bQ (⟨cK,cU,cQ,cD,cK,cX⟩:Cl) H2 {D with ns:=D.ns.map (kh D.most (fO D t) pre)}:=O2;rw[zyn Y.W.nn hy hc]at O2;walk_at"rd";exact gq hp (om ft _) ⟨D,t,y,pre,g,v,rfl,O2,LC,Y,G,tb,nb,gl,fun p H3 O3 d3=>k y pre g p H3 G O3 (F3.trans d3)⟩
  |some c=>
   refine⟨true,fun Q hQ=>?_,fun _=>?_,fun z=>by cases z⟩
   ·walk_at"rd";refine eG hp T.aJ T.bA ft.no ⟨_,rfl,_,jW O2 Oj,?_⟩;refine eG oS T.dB T.bZ mW.ch ?_;rw[hc];exact hQ
   ·clear hR;rw[hc]at mW;walk_at"s";refine eG hp T.aJ T.bA ft.no ⟨_,rfl,_,jW O2 Oj,?_⟩;refine eG oS T.dB T.bZ mW.ch (hR _ _ ?_);clear hR;obtain⟨a,cs⟩:=c;have RJ:=Wm.child Y.W Y.lv hy hc;have sub:∀z∈sA cs (fO D t),aP cs.nm z≠none:=fun z hz=>Sw.jt.mpr (uo.mp hz).1;have k9:=Y.W.k9 n gf _ hc;obtain⟨f1,f2⟩:=Y.fin n gf _ hc;have CA:=Y.CA;have kl:=Y.W.lj gf hc;have nln:=Y.ln;have CS:=N2.ch _ hc;have rf:=zuj (c:=cs) kk;have af:∀b∈lI a,b∈D.foot:=fun b hb=>TD.e8 gf (by unfold ND.foot;rw[hc];exact ai _ (ai _ (ay.mpr (.inl hb))))
    refine An fun N hN=>?_;have post:∀z H3,cs.qW (sA cs (fO D t))=some z->∀Px,bI H2 Px->lS a Px H3->yM cU cQ cD H3 a D.most (cs.ie D.most (sA cs (fO D t)) z)->N [some (.ref D.p),some (.int t),some (.ref l),some (.str z),some (.ref a.p)] H3:=fun z H3 hz Px s2 ow C3=>hN _ _ (by
     have O2':=O2.same s2;have O3:=O2'.uf (by show((D.ns.map (kh D.most (fO D t) pre)).map (fun x:ND=>x.nm)).Nodup;rw[bg];have:D.ns.map ((fun x:ND=>x.nm)∘kh D.most (fO D t) pre)=D.ns.map (·.nm):=aO fun y _=>GZ y;rw[this];exact Y.W.nn) LW hc ow C3
     have e3:dF (D.ns.map (kh D.most (fO D t) pre)) {n with ch:=some (a,cs.ie D.most (sA cs (fO D t)) z)}=D.ns.map (kh D.most (fO D t) (y::pre)):=by
      refine Ny Y.W.nn GZ gf rfl ?_ fun y' _ q=>?_
      ·unfold kh;rw[if_pos (by rw[ne];exact aj ..),hc];show({n with ch:=some (a,cs.kL D.most (fO D t))}:ND)=_;rw[(OZ (R:=fO D t) (len:=1) Y gf hc hz).1]
      ·unfold kh;have:y'.nm∈y::pre↔y'.nm∈pre:=by rw[ao];exact⟨fun w=>w.resolve_left fun u=>q (u.trans ne.symm),.inr⟩
       by_cases c':y'.nm∈pre
       ·rw[if_pos c',if_pos (this.mpr c')]
       ·rw[if_neg c',if_neg (fun w=>c' (this.mp w))]
     have O3:bQ (⟨cK,cU,cQ,cD,cK,cX⟩:Cl) H3 {D with ns:=dF (D.ns.map (kh D.most (fO D t) pre)) {n with ch:=some (a,cs.ie D.most (sA cs (fO D t)) z)}}:=O3;rw[e3]at O3;have zin:=YX hz;obtain⟨z1,z2⟩:=uo.mp zin;rw[Y.W.Al n gf _ hc,ne]at z1;obtain⟨mz,QM,ea⟩:=UO Y.W.nn z1;have Uz:Up D.ns z (z::y::pre):=.on QM ea U;have zl:(z::y::pre).length<=6:=by obtain⟨ys,U',l'⟩:=Y.W.up mz (jK QM).1;rw[(jK QM).2]at U';rw[Uz.det U'];exact l'
     rw[bj,bj]at zl;refine⟨m-1,by omega,z,y::pre,_,rfl,O3,(F3.trans s2.kU).trans (ow.kU.mono af),ow.kU _ _ (fun w=>Kh (af _ w)) (s2 _ _ Ds),.snoc ld hy hc hz,z2,Uz,by rw[bj];omega⟩)
    clear hN;have Ve:∀(Hn:Hp)(ln:Addr)(Z:VK),bI H2 Hn->Hn ln=some (.lst (rJ cs.nm))->∀L,Hn L=none->(∀H',bI Hn H'->H' L=some (.lst ((sA cs (fO D t)).map V.str))->Z (.ref L) H')->pe (FH K ln) (nH 0) (tB (ET (Ac 0) (Ac 1))) (Ac 0) L [none,some (.ref l)] (aH Hn L (.lst [])) Z:=fun Hn ln Z sn VH L hL kz=>by
     have ev:rJ cs.nm=(cs.nm.map (·.1)).map V.str:=by unfold rJ;rw[bg];rfl
     rw[ev]at VH;have nll:(cs.nm.map (·.1)).length<=60:=by rw[ae];exact bO kl nln
     have QH:=sn _ _ Ds;refine KG (K:=K) (a:=ln) (xs:=(cs.nm.map (·.1)).map V.str) (fun i τ H'=>(∃v0,τ=[v0,some (.ref l)])/\bI Hn H'/\H' L=some (.lst ((((cs.nm.map (·.1)).take i).filter fun y=>decide (y∈ks)).map V.str))) ⟨⟨none,rfl⟩,fZ hL,bR⟩ (fun i τ H' _ h=>.of (h.2.1 _ _ VH)) ?_ ?_
     ·rintro i w0 τ H5 hv ⟨⟨v0,rfl⟩,s5,Lm⟩;obtain⟨z,hz,rfl⟩:∃z,(cs.nm.map (·.1))[i]?=some z/\V.str z=w0:=by
       rw[aK]at hv;cases e:(cs.nm.map (·.1))[i]? with
       |none=>rw[e]at hv;cases hv
       |some z=>rw[e]at hv;exact⟨z,rfl,ak hv⟩
      have dg:=ia.k (k:=az z) (s5 _ _ QH);have dv:=SM ks z;walk_at"rd";refine⟨_,dg,?_⟩;rw[dv,Cp hz,fR,gx,ID];by_cases c:z∈ks
      ·rw[if_pos (decide_eq_true c),if_pos (decide_eq_true c)];refine⟨_,Lm,Fx ?_,fun b u' e=>?_,?_⟩
       ·rw[ae];have:=eN (fun y=>decide (y∈ks)) ((cs.nm.map (·.1)).take i);rw[bV]at this;omega
       ·rw[dj (kW e hL)];exact s5 _ _ e
       ·rw[bR,aA];rfl
      ·rw[if_neg (by simp[c]),if_neg (by simp[c]),bw];exact⟨s5,Lm⟩
     ·rintro τ H5 ⟨_,s5,Lm⟩;rw[ae,bC,<-rf]at Lm;exact kz H5 s5 Lm
    walk_at"rd";cases cs with
    |st nm tg gs ck ch M=>
     refine .inl ?_;walk_at"rd";have S:Sx cU cD H2 a D.most nm tg gs ck ch M:=CS;obtain⟨CB,qp,pr,rG,zk,jV⟩:=S.ex;refine gq rG (zk.qv _) (.inl ?_);walk_at"rd";refine gq rG (zk.qv _) ⟨a,D.most,nm,tg,gs,ck,ch,M,rfl,S,fun ln Qf=>⟨ln,rfl,⟨_,.of bR⟩,fun L hL=>?_⟩⟩;have sn:=fZ (o:=.lst (rJ nm)) Qf;refine Ve _ ln _ sn bR L hL fun H4 s4 NZ=>?_;have CZ:=sn.trans s4;have S4:=S.same CZ;obtain⟨G,g0,gz,⟨c1,c2,c3⟩,ht,hg⟩:=f1;have tfo:∀z∈nm.map (·.1),tg z=some ((tg z).getD 0)/\Sw.eY 5000 ((tg z).getD 0):=fun z hz=>by obtain⟨tz,gz',e1,_⟩:=k9.2 z (Sw.jt.mpr hz);rw[e1];obtain⟨t1,t2,t3⟩:=ht z tz e1;exact⟨rfl,(UN (by omega) g0 gz t1 t2 t3).mono (by decide)⟩
     refine⟨a,D.most,nm,tg,gs,ck,ch,M,L,sA (.st nm tg gs ck ch M) (fO D t),fun z=>(tg z).getD 0,rfl,S4,NZ,?_,tfo,(UN (by omega) g0 gz c1 c2 c3).mono (by decide),fun z=>absurd z RJ,fun _⟨z,hz,e⟩=>absurd e (sub z hz),fun _ _ z H5 hz ow S5=>post z H5 hz H4 CZ ow S5⟩;have:nm.length<=D.ns.length:=kl;omega
    |rd nm q rs tu ch=>
     refine .inr ?_;walk_at"rd";have S:Rx cQ cD H2 a D.most nm q rs tu ch:=CS;refine S.nQ (by decide+kernel) (.inr ?_);walk_at"rd";refine S.nQ (by decide+kernel) ⟨a,D.most,nm,q,rs,tu,ch,rfl,S,fun ln Qf=>⟨ln,rfl,⟨_,.of bR⟩,fun L hL=>?_⟩⟩;have sn:=fZ (o:=.lst (rJ nm)) Qf;refine Ve _ ln _ sn bR L hL fun H4 s4 NZ=>?_;have CZ:=sn.trans s4;have S4:=S.same CZ;have nl9:nm.length<=90:=by have:nm.length<=D.ns.length:=kl;omega
     refine⟨a,D.most,nm,q,rs,tu,ch,L,sA (.rd nm q rs tu ch) (fO D t),rfl,S4,NZ,fun z=>absurd z RJ,fun _⟨z,hz,e⟩=>absurd e (sub z hz),fun _ _=>⟨⟨k9.2,Y.W.m1.2,nl9,fun z hz=>k9.1.ok z hz,NZ,fun e=>?_,RJ,sub⟩,fun z H5 hz ow S5=>post z H5 hz H4 CZ ow S5⟩⟩;rw[e]at hL;rw[sn _ _ S.hq]at hL;cases hL
inductive MV(cE:Addr)(C:Cl)(vs:List V)(H:Hp)(Q:VK)(E:XK):Prop|mk (D:TD) (t:Int) (v:Nat) (h1:vs=[.ref D.p,.int t]) (h2:bQ C H D) (h3:D.Dy D.tm v) (h4:(0<=D.tm/\D.tm<=1000000000000000/\D.fr<=1000000000000000/\t<=1000000000000000)) (h5:(L2.yV D)) (h6:(t<D.tm->Rs cE H E)) (h7:(D.tm<=t->∀D' H',Runs t D D'->D'.foot=D.foot->bQ C H' {D' with tm:=t}->iJ D.foot H H'->Q .b7 H')):MV cE C vs H Q E
include T in
theorem zqp:bN P w K mg base (eW P w) 9 cX "until" ["self", "at"] [[]] (MV cW (⟨cK,cU,cQ,cD,cK,cX⟩:Cl)):=by
 have kq:=ziq P w base T
 have pM:=zir P w base T
 refine T.wg.pB (k:=8) lM (fun vs H Q E h=>?_) (fun f b9 A outer s H vs Q E hr h=>?_)
 ·obtain ⟨D,t,v,rfl,_⟩:=h
  rfl
 ·obtain ⟨D0,t,v,rfl,O,Y,tb,V6,ke,k⟩:=h
  refine ⟨_,(bS (dW (j7 qU (pv 1) (eK (pv 0) rfl) (jL _)) (c8 (yJ K rfl rfl yK (yL T.zh T.zB rfl T.zJ (aL kY bB)))) kX) (bS (gA (i:=2) lM.nd rfl (xm (cu:=[]) kq (by simp) T.aJ (hr.mono (by decide)) bL (pv 0))) (bS (KH PassesOwn.leaving (PW.pt (Im (j7 GV (pv 2) vC (jL _)) (J1 (j7 qU (pv 2) (pv 1) (jL _))))) (bS (j6 (gh (cu:=[]) pM (by simp) T.aJ (hr.mono (by decide)) bL (pv 0) (aL (pv 2) bB))) (c8 (gA (i:=2) lM.nd rfl (xm (cu:=[]) kq (by simp) T.aJ (hr.mono (by decide)) bL (pv 0)))))) (c8 (pI (pv 0) (pv 1) rfl))))),?_⟩
  show dG _ _ _ [some (.ref D0.p),some (.int t),none] H
  obtain ⟨dx,fs,hp,ft⟩:=O.ex
  walk_at "s"
  refine eG hp T.aJ T.iU ft.ti ⟨_,rfl,fX (fun c=>g9 (ke c) T.Ae) fun c=>hR _ _ ?_⟩
  clear hR
  have t0:D0.tm<=t:=by omega
  have k:=k t0
  walk_at "s"
  have V0:∀ (D:TD) (Hx:Hp) (τ:Int) (Z:V->Hp->Prop),D.p=D0.p->D.tm=D0.tm->bQ (⟨cK,cU,cQ,cD,cK,cX⟩:Cl) Hx D->D.Dy τ v->(τ<=D.tm\/τ<=D.fr)->D.fr<=2000000000000000->(L2.yV D)->(∀ sv H',bI Hx H'->((sv = .b7/\DQ D t)\/∃ a,sv = .int a/\Nx D a/\a<=4000000000000000)->Z sv H')->wR cX (Str.ofString "next_choice") (.ref D0.p) Hx (JJ (⟨cK,cU,cQ,cD,cK,cX⟩:Cl) [.ref D0.p] Hx Z fun v d H'=>E v d H'):=fun D Hx τ Z ep et O Y tv fb nb kz=>by
   obtain ⟨dx,fs,hp,ft⟩:=O.ex
   rw [ep] at hp
   refine gq hp (om ft _) ⟨D,τ,v,by rw [ep],O,Y,tv,⟨by omega,by omega,by omega⟩,nb,fun e H' s'=>kz _ H' s' (.inl ⟨rfl,fun x u _ _ m=>?_⟩),fun a na la H' s'=>kz _ H' s' (.inr ⟨a,rfl,na,by omega⟩)⟩
   have:=Y.full O m
   rw [e] at this; cases this
  refine V0 D0 H D0.tm _ rfl rfl O Y (.inl (gi _)) (by omega) V6 fun sv H1 s1 LI=>hR _ _ ?_
  clear hR hp ft
  refine bM fun R hR=>?_
  refine Pd (fun m σ H'=>∃ (D:TD) (τ:Int) (sv:V),σ = [some (.ref D0.p),some (.int t),some sv]/\D.p=D0.p/\D.tm=D0.tm/\bQ (⟨cK,cU,cQ,cD,cK,cX⟩:Cl) H' D/\D.Dy τ v/\(τ<=D.tm\/τ<=D.fr)/\D.fr<=2000000000000000/\(L2.yV D)/\((sv = .b7/\DQ D t)\/∃ a,sv = .int a/\Nx D a/\a<=4000000000000000)/\D.foot=D0.foot/\iJ D0.foot H H'/\(∀ D',Runs t D D'->Runs t D0 D')/\m=dh D.ns) (m0:=dh D0.ns) ⟨D0,D0.tm,sv,rfl,rfl,rfl,O.same s1,Y,.inl (gi _),by omega,V6,LI,rfl,s1.kU,fun _ h=>h,rfl⟩ ?_
  rintro m σ H2 ⟨D,τ,sv,rfl,ep,et,O2,Y2,tv,fb,nb,LI,ef,F3,rn,rfl⟩
  have fin:DQ D t->R [some (.ref D0.p),some (.int t),some sv] H2:=fun rs=>hR _ _ (by
   obtain ⟨dx,fs,hp,ft⟩:=O2.ex
   have rG:=hp
   rw [ep] at hp
   walk_at "rd"
   refine pJ hp T.aJ T.iU (by have:=ft.len; omega) ?_
   have O3:=O2.field rG (ft.Jz (RY:=t))
   have eh:aH H2 D.p (.ins cX dx (aE "time" (.int t) fs))=aH H2 D0.p (.ins cX dx (aE "time" (.int t) fs)):=by rw [ep]
   have O3:bQ (⟨cK,cU,cQ,cD,cK,cX⟩:Cl) (aH H2 D.p (.ins cX dx (aE "time" (.int t) fs))) { D with tm:=t }:=O3
   rw [eh] at O3
   exact k D _ (rn D (.stop rs)) ef O3 (F3.trans (Nv (aj ..))))
  rcases LI with ⟨rfl,rs⟩ | ⟨a,rfl,na,ab⟩
  ·refine ⟨false,fun Q hQ=>?_,fun z=>(by cases z),fun _=>fin rs⟩
   walk_at "rd"
   exact hQ
  ·by_cases c:a<t
   ·refine ⟨true,fun Q hQ=>?_,fun _=>?_,fun z=>by cases z⟩
    ·walk_at "rd"
     rw [decide_eq_true c]
     exact hQ
    ·clear hR fin
     obtain ⟨dx,fs,hp,ft⟩:=O2.ex
     have rG:=hp
     rw [ep] at hp
     obtain ⟨g1,g2⟩:=na.ge
     have Ya:=Y2.mono (τ':=a) (by omega)
     walk_at "s"
     refine gq hp (om ft _) ⟨D,a,v,by rw [ep],O2,Ya,na.may,⟨by omega,by omega⟩,nb,?_,fun x pre g p H3 G O3 d3=>hR _ _ ?_⟩
     ·have:=O2.gr.length
      have:=Y2.CA
      omega
     ·clear hR
      obtain ⟨Y3,wl⟩:=G.dy Ya (gi _) p
      obtain ⟨nx,r,hx,_,Ge,_⟩:=G.q
      have gb:=Y2.qu nx (jK hx).1 g (by rw [Ge]; exact aj ..)
      have m6:=Y2.W.m1.2
      refine An fun N hN=>?_
      walk_at "rd"
      refine V0 (D.step (fO D a) (x :: pre) x a g p) H3 a _ ep et O3 Y3 (.inr ?_) ?_ ?_ fun sv H4 s4 LI=>hN _ _ ⟨_,?_,D.step (fO D a) (x :: pre) x a g p,a,sv,rfl,ep,et,O3.same s4,Y3,.inr ?_,?_,?_,LI,C9.trans ef,?_,fun D' h=>rn D' (.go na c G h),rfl⟩
      ·show a<=a+g.2
       omega
      ·show a+g.2<=_
       omega
      ·first
        | trivial
        | exact UD nb _ _ _ _ _ _
      ·omega
      ·show a<=a+g.2
       omega
      ·show a+g.2<=_
       omega
      ·first
        | trivial
        | exact UD nb _ _ _ _ _ _
      ·rw [ef] at d3
       exact (F3.trans d3).trans s4.kU
   ·refine ⟨false,fun Q hQ=>?_,fun z=>(by cases z),fun _=>fin (na.rest (by omega))⟩
    walk_at "rd"
    rw [decide_eq_false c]
    exact hQ
theorem BO{K:aa}{H:Hp}{t:Addr}{i:Int}{Q:VK}(xs:List V)(h0:0<=i)(h1:i<xs.length)(k:∀v∈xs,Q v (aH H t (.lst xs))):CW K (.ref t) (.int i) (aH H t (.lst xs)) Q:=by have e:=KO (xs:=xs) (j:=i.toNat) (v:=xs[i.toNat]'(by omega)) (aU (by omega));rw[rQ h0]at e;exact NL (.of bR) e (k _ (nv _))
theorem SX(xs:List V)(lo hi:Nat):(qE xs (some (lo:Int)) (some (hi:Int))).length<=hi-lo:=by unfold qE;rw[HT.yc,HT.yc,bV];omega
def mS(C:Cl)(D:TD)(x u kd:Str)(s:Int)(rm:V)(H H':Hp)(D':TD):Prop:=∃(un:ND)(c:lz×b5)(n:ND),D'=D.put un c s n/\bz D.ns u=some un/\un.ch=some c/\n.nm=x/\n.ab=some u/\n.rm=rm/\n.bk=none/\n.ps=[]/\n.qu=[]/\(kd=Str.ofString "leaf"->n.ch=none)/\(kj kd->∃a,n.ch=some (a,b5.new (um kd)))/\(∀b∈n.foot,H b=none)/\bQ C H' D'/\iJ D.foot H H'
theorem US{D:TD}{x u kd:Str}{s:Int}{rm:V}(h:lH D x u kd s rm=none):xu x/\bz D.ns x=none/\(∃n,bz D.ns u=some n/\nK kd/\n.ch≠none/\∀ys,Up D.ns u ys->ys.length<=5)/\(1<=s/\s<=1000000):=by
 by_cases c1:xu x
 case neg=>rw[Zw c1]at h;cases h
 cases hx:bz D.ns x with
 |some v=>rw[YT c1 (by rw[hx];simp)]at h;cases h
 |none=>
 cases hu:bz D.ns u with
 |none=>rw[Z3 c1 hx hu]at h;cases h
 |some n=>
 by_cases c2:nK kd/\n.ch≠none/\∀ys,Up D.ns u ys->ys.length<=5
 case neg=>rw[YU c1 hx hu c2]at h;cases h
 by_cases c3:1<=s/\s<=1000000
 case neg=>rw[YV c1 hx hu c2 c3]at h;cases h
 exact⟨c1,rfl,⟨n,rfl,c2⟩,c3⟩
theorem ZD{x:Str}(h:xu x):PyData.strOk x=true/\x.length<=8:=by
 refine⟨?_,h.1.2⟩;rw[TZ];intro c hc;have:∀c∈lets.cps.toList,c<1114112:=by decide+kernel
 exact this c (h.2 c hc)
theorem mS.wf{C:Cl}{D D':TD}{x u kd:Str}{s:Int}{rm:V}{H H':Hp}(h:mS C D x u kd s rm H H' D')(W:D.Wf)(d:lH D x u kd s rm=none):D'.Wf:=by
 obtain⟨un,c,n,rfl,hu,hc,h1,h2,h3,h4,h5,h6,h7,h8,h9,yG,Dr⟩:=h;obtain⟨Hw,hx,⟨n',Oh,ok,_,dp⟩,sh⟩:=US d;rw[hu]at Oh;cases Oh
 obtain⟨gZ,Fp⟩:=jK hu;have nx:aP c.2.nm x=none:=by rw[Sw.j4,W.Al un gZ c hc];intro z;unfold iD at z;obtain⟨y,hy,e⟩:=av.mp z;exact nG.mp hx (av.mpr ⟨y,(dw.mp hy).1,e⟩)
 have so:=ZD Hw;subst h1;refine W.put gZ hc rfl ((W.k9 un gZ c hc).put nx sh.1 sh.2 so.1) hx (by rw[h2,Fp]) (fun ys U=>dp ys (by rw[<-Fp];exact U)) (fun d hd=>?_) so;rcases ok with z|z
 ·rw[h7 z]at hd;cases hd
 ·obtain⟨a,e⟩:=h8 z;rw[e]at hd;cases hd
  exact⟨b5.x9 _,b5.Ok.new W.m1.1 _⟩
theorem Il{ns:List ND}{n y:ND}(h:y∈dF ns n):y=n\/(y∈ns/\y.nm≠n.nm):=by
 unfold dF at h;obtain⟨z,hz,q⟩:=av.mp h;split at q
 ·exact .inl q.symm
 ·rename_i k
  exact .inr ⟨q▸hz,q▸k⟩
theorem mS.foot{C:Cl}{D D':TD}{x u kd:Str}{s:Int}{rm:V}{H H':Hp}(h:mS C D x u kd s rm H H' D'):∀b∈D'.foot,b∈D.foot\/H b=none:=by
 obtain⟨un,c,n,rfl,hu,hc,h1,h2,h3,h4,h5,h6,h7,h8,h9,yG,Dr⟩:=h;intro b hb;obtain⟨gZ,Fp⟩:=jK hu;unfold TD.foot at hb;rcases ao.mp hb with z|hb
 ·exact .inl (z▸aj ..)
 rcases ao.mp hb with z|hb
 ·exact .inl (z▸ai _ (aj ..))
 rcases ao.mp hb with z|hb
 ·exact .inl (z▸ai _ (ai _ (aj ..)))
 obtain⟨y,hy,z⟩:=dH.mp hb;rcases ay.mp hy with hy|hy
 ·rcases Il hy with q|q
  ·left;refine TD.e8 gZ ?_;rw[q]at z;unfold ND.foot at z⊢;rw[hc];exact z
  ·exact .inl (TD.e8 q.1 z)
 ·rw[aC.mp hy]at z;exact .inr (h9 b z)
theorem mS.len{C:Cl}{D D':TD}{x u kd:Str}{s:Int}{rm:V}{H H':Hp}(h:mS C D x u kd s rm H H' D'):D'.ns.length=D.ns.length+1:=by obtain⟨un,c,n,rfl,_⟩:=h;show(dF D.ns _++[n]).length=_;rw[bF];unfold dF;rw[ae];rfl
theorem zzt(c:b5)(x:Str)(s:Int):(c.put x s).sz<=c.sz+3:=by
 cases c with
 |st=>exact aq _
 |rd nm q rs tu ch=>
  show(nm++[(x,s)]).length<=nm.length+3;rw[bF];simp
theorem mS.full{C:Cl}{D D':TD}{x u kd:Str}{s:Int}{rm:V}{H H':Hp}(h:mS C D x u kd s rm H H' D')(ok:nK kd)(F:D.full)(l:D.ns.length<60):D'.full:=by
 have ln:=h.len;obtain⟨un,c,n,rfl,hu,hc,h1,h2,h3,h4,h5,h6,h7,h8,h9,yG,Dr⟩:=h;obtain⟨gZ,Fp⟩:=jK hu;refine⟨by omega,fun y hy d hd=>?_⟩;rw[ln];rcases ay.mp hy with hy|hy
 ·rcases Il hy with q|q
  ·rw[q]at hd;cases hd
   have:=zzt c.2 n.nm s;have:=F.2 un gZ c hc;show(c.2.put n.nm s).sz<=_;omega
  ·have:=F.2 y q.1 d hd;omega
 ·rw[aC.mp hy]at hd;rcases ok with z|z
  ·rw[h7 z]at hd;cases hd
  ·obtain⟨a,e⟩:=h8 z;rw[e]at hd;cases hd
   have:(b5.new (um kd)).sz=0:=by cases um kd <;> rfl
   show(b5.new (um kd)).sz<=_;rw[this];omega
theorem Y7(a b:List ND):dh (a++b)=dh a+dh b:=by unfold dh;rw[aA,IE]
theorem UB{ns:List ND}(nn:(ns.map (·.nm)).Nodup){n n':ND}(hn:n∈ns)(e:n'.nm=n.nm)(l:n'.qu.length<=n.qu.length):dh (dF ns n')<=dh ns:=by
 have:=Ny (ns:=ns) nn (f:=id) (g:=fun y=>if y.nm=n.nm then n' else y) (n:=n) (n':=n') (fun _=>rfl) hn e (by rw[if_pos rfl]) (fun y _ q=>by rw[if_neg q];rfl);rw[j9]at this;rw[this];refine OT fun y hy=>?_;by_cases q:y.nm=n.nm
 ·rw[if_pos q];have a:=sN nn hy;rw[q,sN nn hn]at a;rw[<-ak a];exact l
 ·rw[if_neg q];exact aq _
theorem mS.dy{C:Cl}{D D':TD}{x u kd:Str}{s:Int}{rm:V}{H H':Hp}{τ:Int}{v:Nat}(h:mS C D x u kd s rm H H' D')(d:lH D x u kd s rm=none)(Y:D.Dy τ v)(l:D.ns.length<60)(lv:v<180):D'.Dy τ (v+1):=by
 have W':=h.wf Y.W d;have ln:=h.len;obtain⟨un,c,n,rfl,hu,hc,h1,h2,h3,h4,h5,h6,h7,h8,h9,yG,Dr⟩:=h;obtain⟨gZ,Fp⟩:=jK hu;obtain⟨Hw,hx,⟨n0,Oh,ok,_,_⟩,sh⟩:=US d;have mem:∀y∈(D.put un c s n).ns,y={un with ch:=some (c.1,c.2.put n.nm s)}\/y∈D.ns\/y=n:=fun y hy=>by
  rcases ay.mp hy with q|q
  ·rcases Il q with q|q
   ·exact .inl q
   ·exact .inr (.inl q.1)
  ·exact .inr (.inr (aC.mp q))
 have Vo:(D.put un c s n).gs=D.gs:=rfl;have m0:(D.put un c s n).most=D.most:=rfl;refine⟨W',fun y hy e he=>?_,fun y hy b hb=>?_,fun y hy hq=>?_,fun y hy g hg=>?_,?_,by omega,by omega⟩
 ·rw[Vo];rcases mem y hy with q|q|q
  ·rw[q]at he;cases he
   obtain⟨f1,f2⟩:=Y.fin un gZ c hc;have:=zzt c.2 n.nm s;exact⟨f1.put n.nm s,by show(c.2.put n.nm s).sz<=_;omega⟩
  ·obtain⟨f1,f2⟩:=Y.fin y q e he;exact⟨f1,by omega⟩
  ·rw[q]at he;rcases ok with z|z
   ·rw[h7 z]at he;cases he
   ·obtain⟨a,e'⟩:=h8 z;rw[e']at he;cases he
    have:(b5.new (um kd)).sz=0:=by cases um kd <;> rfl
    exact⟨(b5.jj.new _).mono (bW _),by show(b5.new (um kd)).sz<=_;omega⟩
 ·rcases mem y hy with q|q|q
  ·rw[q]at hb;exact Y.bk un gZ b hb
  ·exact Y.bk y q b hb
  ·rw[q,h4]at hb;cases hb
 ·rcases mem y hy with q|q|q
  ·rw[q]at hq;have:=Y.lv un gZ hq;rw[hc]at this;cases this
  ·exact Y.lv y q hq
  ·rw[q,h6]at hq;exact absurd rfl hq
 ·rcases mem y hy with q|q|q
  ·rw[q]at hg;exact Y.qu un gZ g hg
  ·exact Y.qu y q g hg
  ·rw[q,h6]at hg;cases hg
 ·have e1:dh (D.put un c s n).ns<=dh D.ns:=by
   show dh (dF D.ns _++[n])<=_;rw[Y7];have:=UB Y.W.nn (n':={un with ch:=some (c.1,c.2.put n.nm s)}) gZ rfl (aq _);have e2:dh [n]=0:=by unfold dh;rw[au,jv,h6];rfl
   omega
  have:=Y.CA;rw[Vo];omega
theorem Yt{D:TD}{x:Str}{n:ND}{q:Addr}{len τ:Int}{v:Nat}(Y:D.Dy τ v)(hx:bz D.ns x=some n):dh (TD.oO D n q len).ns<=dh D.ns+1:=by
 obtain⟨gf,ne⟩:=jK hx;have e0:(TD.oO D n q len).ns=D.ns.map (fun y=>if y.nm=n.nm then{n with ps:=n.ps++[q],qu:=n.qu++[(D.ct,len)]}else y):=rfl;have:∀(f:ND->ND)(ns:List ND),(ns.map (·.nm)).Nodup->(∀y∈ns,y.nm≠n.nm->(f y).qu.length=y.qu.length)->(∀y∈ns,y.nm=n.nm->(f y).qu.length<=y.qu.length+1)->dh (ns.map f)<=dh ns+1:=fun f ns=>by
  induction ns with
  |nil=>intro _ _ _;exact bW _
  |cons p r ih=>
   intro nd h1 h2;rw[au,aY]at nd;by_cases e:p.nm=n.nm
   ·have h3:dh (r.map f)<=dh r:=OT fun y hy=>by rw[h1 y (ai _ hy) fun z=>nd.1 (av.mpr ⟨y,hy,z.trans e.symm⟩)];exact aq _
    have h4:=h2 p (aj ..) e;unfold dh at h3⊢;rw[au,au,au,dU,dU];omega
   ·have h3:=ih nd.2 (fun y hy=>h1 y (ai _ hy)) (fun y hy=>h2 y (ai _ hy));have h4:=h1 p (aj ..) e;unfold dh at h3⊢;rw[au,au,au,dU,dU];omega
 have:=this (fun y=>if y.nm=n.nm then{n with ps:=n.ps++[q],qu:=n.qu++[(D.ct,len)]}else y) D.ns Y.W.nn (fun y _ z=>by rw[if_neg z]) (fun y hy z=>by rw[if_pos z];have a:=sN Y.W.nn hy;rw[z,sN Y.W.nn gf]at a;rw[<-ak a];show(n.qu++[(D.ct,len)]).length<=_;rw[bF];exact aq _)
 rw[e0];exact this
theorem SY{D:TD}{x:Str}{n:ND}{q:Addr}{len τ:Int}{v:Nat}(Y:D.Dy τ v)(hx:bz D.ns x=some n)(hc:n.ch=none)(lb:1<=len/\len<=D.most)(l:dh D.ns+D.gs.length<120):(TD.oO D n q len).Dy τ v:=by
 obtain⟨gf,ne⟩:=jK hx;have mem:∀y∈(TD.oO D n q len).ns,y={n with ps:=n.ps++[q],qu:=n.qu++[(D.ct,len)]}\/y∈D.ns:=fun y hy=>by
  rcases Il hy with z|z
  ·exact .inl z
  ·exact .inr z.1
 have W':{D with ns:=dF D.ns {n with ps:=n.ps++[q],qu:=n.qu++[(D.ct,len)]}}.Wf:=Y.W.set gf rfl rfl Iff.rfl (fun c c' e1 e2=>by rw[show n.ch=some c' from e2]at e1;cases e1;rfl) fun c e=>Y.W.k9 n gf c e;refine⟨⟨W'.nn,W'.rd,W'.ra,W'.up,W'.Al,W'.lf,W'.k9,W'.m1,W'.HJ⟩,fun y hy e he=>?_,fun y hy b hb=>?_,fun y hy hq=>?_,fun y hy g hg=>?_,?_,?_,Y.vl⟩
 ·rcases mem y hy with z|z
  ·rw[z]at he;exact Y.fin n gf e he
  ·exact Y.fin y z e he
 ·rcases mem y hy with z|z
  ·rw[z]at hb;exact Y.bk n gf b hb
  ·exact Y.bk y z b hb
 ·rcases mem y hy with z|z
  ·rw[z];exact hc
  ·exact Y.lv y z hq
 ·rcases mem y hy with z|z
  ·rw[z]at hg;rcases ay.mp hg with w|w
   ·exact Y.qu n gf g w
   ·rw[aC.mp w];exact lb
  ·exact Y.qu y z g hg
 ·show dh (dF D.ns _)+D.gs.length<=120;have:=Yt (q:=q) (len:=len) Y hx;have e0:dh (dF D.ns {n with ps:=n.ps++[q],qu:=n.qu++[(D.ct,len)]})=dh (TD.oO D n q len).ns:=rfl;rw[e0];omega
 ·show(dF D.ns _).length<=60;unfold dF;rw[ae];exact Y.ln
theorem UE{nm:Nm}(nd:(nm.map (·.1)).Nodup){p:Str×Int}(hp:p∈nm):aP nm p.1=some p.2:=by
 induction nm with
 |nil=>cases hp
 |cons y r ih=>
  rw[au,aY]at nd;unfold L2.aP at ih⊢;rw[bH];rcases ao.mp hp with e|e
  ·subst e;simp
  ·have ne:decide (y.1=p.1)=false:=decide_eq_false fun z=>nd.1 (by rw[z];exact av.mpr ⟨p,e,rfl⟩);rw[ne];exact ih nd.2 e
theorem zxg:∀{nm:Nm},(∀p∈nm,1<=p.2/\p.2<=1000000)->(nm.length:Int)<=bu nm/\bu nm<=1000000*(nm.length:Int)
 |[],_=>⟨gi _,gi _⟩
 |p::r,h=>by obtain⟨i1,i2⟩:=zxg (nm:=r) fun q hq=>h q (ai _ hq);have:=h p (aj ..);unfold bu at i1 i2⊢;rw[au,dU,bj];omega
theorem Pg{nm:Nm}(h:At nm)(l:nm.length<=900){x:Str}{s:Int}(e:aP nm x=some s):0<bu nm/\bu nm<1000000000000:=by
 obtain⟨b1,b2⟩:=zxg (nm:=nm) fun p hp=>h.sh _ _ (UE h.nd hp);have:0<nm.length:=by
  cases nm with
  |nil=>cases e
  |cons _ _=>exact Nat.succ_pos _
 omega
inductive MU(cC cS:Addr)(C:Cl)(vs:List V)(H:Hp)(Q:VK)(E:XK):Prop|mk (D:TD) (x:Str) (s:Int) (h1:vs=[.ref D.p,.str x,.int s]) (h2:bQ C H D) (h3:D.Wf) (h4:D.fit) (h5:(x=road\/bz D.ns x=none->Rs cC H E)) (h6:(x≠road->bz D.ns x≠none->¬(1<=s/\s<=1000000)->Rs cS H E)) (h7:(x≠road->1<=s/\s<=1000000->∀n un c H',bz D.ns x=some n->n.ab=some un.nm->un∈D.ns->un.ch=some c->aP c.2.nm x≠none->bQ C H' (D.gH un c x s)->iJ D.foot H H'->Q .b7 H')):MU cC cS C vs H Q E
include T in
theorem zmq:bN P w K mg base (eW P w) 7 cX "reshare" ["self","name","share"] [[]] (MU cF cJ (⟨cK,cU,cQ,cD,cK,cX⟩:Cl)):=by
 have cZ:=Nl P w base T;have di:=Uh P w base T;have rT:=zka P w base T;have rS:=zkb P w base T;refine T.tV.pB (k:=6) zln (fun vs H Q E h=>?_) (fun f b9 A outer s H vs Q E hr h=>?_)
 ·obtain⟨D,x,s,rfl,_⟩:=h;rfl
 ·obtain⟨D,x,sh,rfl,O,W,F,kc,ks,k⟩:=h;refine⟨_,(bS (j6 (gh (cu:=[]) cZ (by simp) T.aJ (hr.mono (by decide)) bL (pv 0) (aL (pv 1) bB))) (c8 (j6 (Iq (gh (cu:=[]) rT (by simp) T.aN (hr.mono (by decide)) bL (gh (cu:=[]) di (by simp) T.aJ (hr.mono (by decide)) bL (pv 0) (aL (pv 1) bB)) (aL (pv 1) (aL (pv 2) bB))) (gh (cu:=[]) rS (by simp) T.aF (hr.mono (by decide)) bL (gh (cu:=[]) di (by simp) T.aJ (hr.mono (by decide)) bL (pv 0) (aL (pv 1) bB)) (aL (pv 1) (aL (pv 2) bB))))))),?_⟩;show dG _ _ _ [some (.ref D.p),some (.str x),some (.int sh)] H;obtain⟨dx,fs,hp,ft⟩:=O.ex;walk_at"s";refine gq hp (om ft _) ⟨D,x,rfl,O,fun c1 c2=>hR _ _ ?_,kc⟩;clear hR;cases hx:bz D.ns x with
  |none=>exact absurd hx c2
  |some n=>
  obtain⟨u,c,ha,gZ,hu,hc,yI⟩:=W.above c1 hx;have CS:=(O.nd u gZ).ch c hc;have k9:=W.k9 u gZ c hc;have kl:=W.lj gZ hc;have fl:=F.1;have fz:=F.2 u gZ c hc;have ks:=ks c1 (by rw[hx];simp);obtain⟨a,cs⟩:=c;have Hh:1<=sh/\sh<=1000000->∀H2,lS a H H2->yM cU cQ cD H2 a D.most (cs.gH D.most x sh)->Q .b7 H2:=fun My H2 ow C2=>by have O2:=O.uf W.nn gZ hc ow C2;refine k c1 My n u (a,cs) H2 hx ha gZ hc yI O2 fun b o nb e=>ow.kU _ _ (fun z=>nb (TD.e8 gZ ?_)) e;unfold ND.foot;rw[hc];exact ai _ (ai _ (ay.mpr (.inl z)))
  walk_at"rd";cases cs with
  |st nm tg gs ck ch N'=>
   refine .inl ?_;walk_at"rd";refine gq hp (om ft _) ⟨D,x,u.nm,n,u,rfl,O,hx,ha,hu,?_⟩;rw[hc];have S:Sx cU cD H a D.most nm tg gs ck ch N':=CS;have fz:N'<=800:=fz;obtain⟨CB,qp,pr,rG,zk,jV⟩:=S.ex;exact gq rG (zk.qv _) ⟨a,D.most,nm,tg,gs,ck,ch,N',x,sh,rfl,S,by omega,fun z=>absurd z yI,fun _ z=>ks z,fun _ My H2 ow S'=>Hh My H2 ow S'⟩
  |rd nm q rs tu ch=>
   refine .inr ?_;walk_at"rd";refine gq hp (om ft _) ⟨D,x,u.nm,n,u,rfl,O,hx,ha,hu,?_⟩;rw[hc];have S:Rx cQ cD H a D.most nm q rs tu ch:=CS;have kl:nm.length<=D.ns.length:=kl;have rl:rs.length=nm.length:=by have:=congrArg gG k9.2.ks;rwa [ae,ae]at this
   have rx:aP rs x≠none:=by have yI:aP nm x≠none:=yI;rw[Sw.jt]at yI⊢;rw[k9.2.ks];exact yI
   cases er:aP rs x with
   |none=>exact absurd er rx
   |some r=>
   refine S.nQ (by decide+kernel) ⟨a,D.most,nm,q,rs,tu,ch,x,sh,rfl,S,by omega,by omega,W.m1.1,W.m1.2,fun z=>absurd z yI,fun _ z=>ks z,fun _ My=>⟨r,er,fun H2 ow S'=>Hh My H2 ow (?_:yM _ _ _ _ _ _ _)⟩⟩;show Rx cQ cD H2 a D.most (putN nm x sh) q (putN rs x (if sh*D.most<(aP rs x).getD 0 then sh*D.most else(aP rs x).getD 0)) tu ch;rw[er];exact S'
def MT(cC:Addr)(C:Cl):Sp:=fun vs H Q E=>∃(D:TD)(x:Str),vs=[.ref D.p,.str x]/\bQ C H D/\D.Wf/\D.fit/\(x=road\/bz D.ns x=none->Rs cC H E)/\(x≠road->∀n un c s,bz D.ns x=some n->n.ab=some un.nm->un∈D.ns->un.ch=some c->aP c.2.nm x=some s->∀q,H q=none->Q (.ref q) (aH H q (.tup (fq ((s:Rat) / (bu c.2.nm:Rat))))))
include T in
theorem zru:bN P w K mg base (eW P w) 5 cX "part" ["self","name"] [[]] (MT cF (⟨cK,cU,cQ,cD,cK,cX⟩:Cl)):=by
 have cZ:=Nl P w base T;have di:=Uh P w base T;have lF:=XD P w base T;have lE:=XE P w base T;refine T.x6.pB (k:=4) zqh (fun vs H Q E h=>?_) (fun f b9 A outer s H vs Q E hr h=>?_)
 ·obtain⟨D,x,rfl,_⟩:=h;rfl
 ·obtain⟨D,x,rfl,O,W,F,kc,k⟩:=h;refine⟨_,(bS (j6 (gh (cu:=[]) cZ (by simp) T.aJ (hr.mono (by decide)) bL (pv 0) (aL (pv 1) bB))) (c8 (gS (Iq (gh (cu:=[]) lF (by simp) T.aN (hr.mono (by decide)) bL (gh (cu:=[]) di (by simp) T.aJ (hr.mono (by decide)) bL (pv 0) (aL (pv 1) bB)) (aL (pv 1) bB)) (gh (cu:=[]) lE (by simp) T.aF (hr.mono (by decide)) bL (gh (cu:=[]) di (by simp) T.aJ (hr.mono (by decide)) bL (pv 0) (aL (pv 1) bB)) (aL (pv 1) bB)))))),?_⟩;show dG _ _ _ [some (.ref D.p),some (.str x)] H;obtain⟨dx,fs,hp,ft⟩:=O.ex;walk_at"s";refine gq hp (om ft _) ⟨D,x,rfl,O,fun c1 c2=>hR _ _ ?_,kc⟩;clear hR;cases hx:bz D.ns x with
  |none=>exact absurd hx c2
  |some n=>
  obtain⟨u,c,ha,gZ,hu,hc,yI⟩:=W.above c1 hx;have CS:=(O.nd u gZ).ch c hc;have k9:=W.k9 u gZ c hc;have kl:=W.lj gZ hc;have fl:=F.1;have al:∀s,aP c.2.nm x=some s->0<bu c.2.nm/\bu c.2.nm<1000000000000:=fun s e=>Pg k9.F6 (by omega) e;have k:=fun s e=>k c1 n u c s hx ha gZ hc e;obtain⟨a,cs⟩:=c;walk_at"rd";cases cs with
  |st nm tg gs ck ch N'=>
   refine .inl ?_;walk_at"rd";refine gq hp (om ft _) ⟨D,x,u.nm,n,u,rfl,O,hx,ha,hu,?_⟩;rw[hc];have S:Sx cU cD H a D.most nm tg gs ck ch N':=CS;obtain⟨CB,qp,pr,rG,zk,jV⟩:=S.ex;exact gq rG (zk.qv _) ⟨a,D.most,nm,tg,gs,ck,ch,N',x,rfl,S,fun z=>absurd z yI,fun s e=>⟨(al s e).1,(al s e).2,k s e⟩⟩
  |rd nm q rs tu ch=>
   refine .inr ?_;walk_at"rd";refine gq hp (om ft _) ⟨D,x,u.nm,n,u,rfl,O,hx,ha,hu,?_⟩;rw[hc];have S:Rx cQ cD H a D.most nm q rs tu ch:=CS;exact S.nQ (by decide+kernel) ⟨a,D.most,nm,q,rs,tu,ch,x,rfl,S,fun z=>absurd z yI,fun s e=>⟨(al s e).1,(al s e).2,k s e⟩⟩
inductive EL(C Cm:Addr)(vs:List V)(H:Hp)(Q:VK)(E:XK):Prop|mk (a most nm tg gs ck ch N x s g:_) (h1:vs=[.ref a.p,.str x]) (h2:Sx C Cm H a most nm tg gs ck ch N) (h3:aP nm x=some s) (h4:gs x=some g) (h5:1<=s) (h6:s<=1000000) (h7:0<=most) (h8:most<=1000000) (h9:Sw.eY 5000 g) (yG:∀q H',bI H H'->H' q=some (.tup (fq (max ((most:Rat) / (s:Rat)) g)))->Q (.ref q) H'):EL C Cm vs H Q E
include T in
theorem zoh:bN P w K mg base (eW P w) 4 cU "step" ["self","name"] [[]] (EL cU cD):=by
 have fW:=Uj P w base T;have lU:=UA P w base T;have fc:=GX P w base T;refine T.uU.okN (k:=3) zmg (fun vs H Q E h=>?_) (fun f b9 A outer s H vs Q E hr h=>?_)
 ·obtain⟨a,most,nm,tg,gs,ck,ch,N,x,s,g,rfl,_⟩:=h;rfl
 ·obtain⟨a,most,nm,tg,gs,ck,ch,N,x,s,g,rfl,S,hx,hg,s0,s1,m0,m1,zg,k⟩:=h;refine⟨_,(c8 (gS (ja lU (hr.mono (by decide)) rfl aT (aL (ja fc (hr.mono (by decide)) rfl aT (aL (eK (pv 0) rfl) (aL (gh (cu:=[]) fW (by simp) T.aN (hr.mono (by decide)) aT (pv 0) (aL (pv 1) bB)) bB))) (aL (o8 (bY hr) (eK (pv 0) rfl) (pv 1) (fun _ _=>rfl)) bB))))),?_⟩;show iN _ _ [some (.ref a.p),some (.str x)] H;obtain⟨dx,fs,pr,hp,ft,jV⟩:=S.ex;obtain⟨kvs,qq,hv,Ht⟩:=S.dg.ex;walk_at"rd";refine eG hp T.aN T.kK ft.mo ?_;refine gq hp (ft.qv _) ⟨a,most,nm,tg,gs,ck,ch,N,x,rfl,S,fun z=>(by rw[hx]at z;cases z),fun s' e'=>?_⟩;rw[hx]at e';cases e'
  have zs:Sw.Sz 70 s:=Sw.Sz.jI (by omega) (by omega);have zm:Sw.Sz 70 most:=Sw.Sz.jI (by omega) (by omega);refine⟨most,s,70,rfl,by decide,zs,fun _ q1 QW=>?_,fun z=>absurd z (by omega)⟩;have sn:=fZ (o:=.tup (fq ((most:Rat) / (s:Rat)))) QW;refine eG (sn _ _ hp) T.aN T.ee ft.gr ?_;walk_at"rd";rcases hv x with⟨z,_⟩ |⟨r,q,e1,e2,e3⟩
  ·rw[hg]at z;cases z
  ·rw[hg]at e1;cases e1
   have hd:=ia.k (k:=az x) (sn _ _ qq);rw[e2]at hd;refine⟨.ref q,hd,?_⟩;refine⟨q1,q,(most:Rat) / (s:Rat),g,rfl,bR,sn _ _ e3,(Sw.eY.of (by omega) rfl zm zs).mono (by decide),zg,fun q2 Oe=>?_⟩;exact k q2 _ (sn.trans (fZ Oe)) bR
include T in
theorem zge:bN P w K mg base (eW P w) 1 cU "turn_length" ["self"] [[]] (fun vs H Q _=>∃p,vs=[.ref p]/\Q (.int 0) H):=by
 refine T.m8.okN (k:=0) zfm (fun vs H Q E h=>?_) (fun f b9 A outer s H vs Q E hr h=>?_)
 ·obtain⟨p,rfl,_⟩:=h;rfl
 ·obtain⟨p,rfl,k⟩:=h;refine⟨_,(c8 (gS bP)),?_⟩;show iN _ _ [some (.ref p)] H;walk_at"rd";exact k
def jE(n:Nat)(all s most tl:Int)(st:Rat):Rat:=(s:Rat) / (all:Rat)*((((n:Int)-1)*most:Int)+((all-s:Int):Rat)*(st+(tl:Rat)))
inductive Ey(C Cm:Addr)(vs:List V)(H:Hp)(Q:VK)(E:XK):Prop|mk (a most nm tg gs ck ch N x s g:_) (h1:vs=[.ref a.p,.str x]) (h2:Sx C Cm H a most nm tg gs ck ch N) (h3:aP nm x=some s) (h4:gs x=some g) (h5:Sw.eY 70 g) (h6:1<=s) (h7:s<=1000000) (h8:1<=most) (h9:most<=1000000) (yG:nm.length<=900) (Dr:(0<bu nm/\bu nm<1000000000000)) (Kl:∀q H',bI H H'->H' q=some (.tup (fq (jE nm.length (bu nm) s most 0 (max ((most:Rat) / (s:Rat)) g))))->Q (.ref q) H'):Ey C Cm vs H Q E
include T in
theorem zoi:bN P w K mg base (eW P w) 5 cU "lack" ["self","name"] [[]] (Ey cU cD):=by
 have gj:=Ul P w base T;have fW:=Uj P w base T;have vL:=zoh P w base T;have nC:=zge P w base T;have lF:=XD P w base T;have eO:=Ug P w base T;have mE:=Pr P w base T;have kZ:=UQ P w base T;refine T.uR.okN (k:=4) gR (fun vs H Q E h=>?_) (fun f b9 A outer s H vs Q E hr h=>?_)
 ·obtain⟨a,most,nm,tg,gs,ck,ch,N,x,s,g,rfl,_⟩:=h;rfl
 ·obtain⟨a,most,nm,tg,gs,ck,ch,N,x,s,g,rfl,S,hx,hg,zg,s0,s1,m0,m1,nl,al,k⟩:=h;refine⟨_,(bS (gA (i:=2) gR.nd rfl (aM Fy (rC (EX K rfl) rfl T.jo boot_len (aL (xm (cu:=[]) gj (by simp) T.aN (hr.mono (by decide)) aT (pv 0)) bB)) bP)) (bS (gA (i:=3) gR.nd rfl (aM Fy (xm (cu:=[]) eO (by simp) T.bD (hr.mono (by decide)) aT (eK (pv 0) rfl)) (gh (cu:=[]) fW (by simp) T.aN (hr.mono (by decide)) aT (pv 0) (aL (pv 1) bB)))) (bS (gA (i:=4) gR.nd rfl (ja mE (hr.mono (by decide)) rfl aT (aL (gh (cu:=[]) vL (by simp) T.aN (hr.mono (by decide)) aT (pv 0) (aL (pv 1) bB)) (aL (wA (aL (xm (cu:=[]) nC (by simp) T.aN (hr.mono (by decide)) aT (pv 0)) (aL bP bB))) bB)))) (bS (gA (i:=5) gR.nd rfl (ja mE (hr.mono (by decide)) rfl aT (aL (wA (aL (aM rL (pv 2) (eK (pv 0) rfl)) (aL bP bB))) (aL (ja kZ (hr.mono (by decide)) rfl aT (aL (wA (aL (pv 3) (aL bP bB))) (aL (pv 4) bB))) bB)))) (c8 (gS (ja kZ (hr.mono (by decide)) rfl aT (aL (gh (cu:=[]) lF (by simp) T.aN (hr.mono (by decide)) aT (pv 0) (aL (pv 1) bB)) (aL (pv 5) bB))))))))),?_⟩;show dG _ _ _ [some (.ref a.p),some (.str x),none,none,none,none] H;obtain⟨dx,fs,pr,hp,ft,jV⟩:=S.ex;walk_at"s";refine gq hp (ft.qv _) ⟨a,most,nm,tg,gs,ck,ch,N,rfl,S,fun l fl=>?_⟩;refine Ip (.of bR) ?_;walk_at"rd";refine hR _ _ ?_;clear hR hp ft;have Gy:=fZ (o:=.lst (rJ nm)) fl;have S:=S.same Gy;have el:(rJ nm).length=nm.length:=by unfold rJ;rw[ae]
  rw[el];show dG _ _ _ [some (.ref a.p),some (.str x),some (.int ((nm.length:Int)-1)),none,none,none] (aH H l (.lst (rJ nm)));generalize aH H l (.lst (rJ nm))=H1 at Gy S⊢;obtain⟨dx,fs,pr,hp,ft,jV⟩:=S.ex;obtain⟨dm,fm,kG,BD,jU,fK⟩:=S.mb.ex;walk_at"s";refine eG hp T.aN T.dD ft.me ?_;have no:=fun m h1 h2 h3 h4 h5 h6=>ft.no m h1 h2 h3 h4 h5 h6;refine gq kG (jU _ (by decide+kernel)) ⟨a.pm,a.ps,nm,rfl,S.mb,gq hp (ft.qv _) ⟨a,most,nm,tg,gs,ck,ch,N,x,rfl,S,fun z=>(by rw[hx]at z;cases z),fun s' e'=>?_⟩⟩;rw[hx]at e';cases e'
  refine⟨_,rfl,_,rfl,hR _ _ ?_⟩;clear hR no;have zs:Sw.Sz 70 s:=Sw.Sz.jI (by omega) (by omega);have zm:Sw.Sz 70 most:=Sw.Sz.jI (by omega) (by omega);have zq:Sw.eY 70 ((most:Rat) / (s:Rat)):=Sw.eY.of (by omega) rfl zm zs;have KY:Sw.eY 70 (max ((most:Rat) / (s:Rat)) g):=by
   rw[gI];split
   ·exact zg
   ·exact zq
  walk_at"s";refine gq hp (ft.qv _) ⟨a,most,nm,tg,gs,ck,ch,N,x,s,g,rfl,S,hx,hg,s0,s1,by omega,m1,zg.mono (by decide),fun q H2 s2 hq=>?_⟩;have Aj:=s2 _ _ hp;refine gq Aj (ft.qv _) fun p3 f3=>?_;generalize max ((most:Rat) / (s:Rat)) g=st at k KY hq;have s3:=fZ (o:=.tup [.int 0,.int 1]) f3;have z0:Sw.eY 70 ((0:Int):Rat):=Sw.eY.int (z:=69) (Sw.Sz.jI (by decide) (by decide));refine⟨q,p3,st,((0:Int):Rat),70,rfl,s3 _ _ hq,bR,by decide,KY,z0,fun r4 f4=>hR _ _ ?_⟩;clear hR;have s4:=fZ (o:=.tup (fq (st+((0:Int):Rat)))) f4;have CZ:=(s2.trans s3).trans s4;have S:=S.same CZ;have Gf:aH (aH H2 p3 (.tup [.int 0,.int 1])) r4 (.tup (fq (st+((0:Int):Rat)))) r4=some (.tup (fq (st+((0:Int):Rat)))):=bR;have Fo:=Gy.trans CZ;show dG _ _ _ [some (.ref a.p),some (.str x),some (.int ((nm.length:Int)-1)),some (.int (bu nm-s)),some (.ref r4),none] (aH (aH H2 p3 (.tup [.int 0,.int 1])) r4 (.tup (fq (st+((0:Int):Rat)))));generalize aH (aH H2 p3 (.tup [.int 0,.int 1])) r4 (.tup (fq (st+((0:Int):Rat))))=H4 at S Gf Fo⊢;clear CZ s4 s3 s2 hp Aj ft hq kG jU Gy;have zr:Sw.eY 200 (st+((0:Int):Rat)):=(KY.add z0).mono (by decide);obtain⟨dx,fs,pr,hp,ft,jV⟩:=S.ex;walk_at"s";refine eG hp T.aN T.kK ft.mo ?_;walk_at"rd";have Wa:((nm.length:Int)-1)*most<=1000*1000000:=by
   rcases lW nm.length with z|z
   ·rw[z];omega
   ·exact dS (by omega) m1 (by omega) (by omega)
  have Wb:-1000000<=((nm.length:Int)-1)*most:=by have:(-1)*most<=((nm.length:Int)-1)*most:=eV (by omega) (by omega);omega
  have zo:Sw.eY 70 ((((nm.length:Int)-1)*most:Int):Rat):=Sw.eY.int (z:=69) (Sw.Sz.jI (by omega) (by omega));have za:Sw.eY 70 ((bu nm-s:Int):Rat):=Sw.eY.int (z:=69) (Sw.Sz.jI (by omega) (by omega));refine⟨⟨(show Sw.Sz 70 _ from Sw.Sz.jI (by omega) (by omega)).mono (by decide),zm.mono (by decide)⟩,fun p5 f5 p6 f6=>?_⟩;have s5:=fZ (o:=.tup [V.int (((nm.length:Int)-1)*most),V.int 1]) f5;have s6:=fZ (o:=.tup [V.int (bu nm-s),V.int 1]) f6;refine⟨p6,r4,((bu nm-s:Int):Rat),st+((0:Int):Rat),200,rfl,bR,s6 _ _ (s5 _ _ Gf),by decide,za.mono (by decide),zr,fun r7 f7=>?_⟩;have s7:=fZ (o:=.tup (fq (((bu nm-s:Int):Rat)*(st+((0:Int):Rat))))) f7;have zt:Sw.eY 400 (((bu nm-s:Int):Rat)*(st+((0:Int):Rat))):=(za.mul zr).mono (by decide);refine⟨p5,r7,((((nm.length:Int)-1)*most:Int):Rat),_,400,rfl,s7 _ _ (s6 _ _ bR),bR,by decide,zo.mono (by decide),zt,fun r8 f8=>hR _ _ ?_⟩;clear hR;have zb:Sw.eY 900 (((((nm.length:Int)-1)*most:Int):Rat)+((bu nm-s:Int):Rat)*(st+((0:Int):Rat))):=((zo.mono (by decide:70<=400)).add zt).mono (by decide);have s8:=fZ (o:=.tup (fq (((((nm.length:Int)-1)*most:Int):Rat)+((bu nm-s:Int):Rat)*(st+((0:Int):Rat))))) f8;have JI:=((s5.trans s6).trans s7).trans s8;have S:=S.same JI;have Mz:=Fo.trans JI;have Jd:aH (aH (aH (aH H4 p5 (.tup [V.int (((nm.length:Int)-1)*most),V.int 1])) p6 (.tup [V.int (bu nm-s),V.int 1])) r7 (.tup (fq (((bu nm-s:Int):Rat)*(st+((0:Int):Rat)))))) r8 (.tup (fq (((((nm.length:Int)-1)*most:Int):Rat)+((bu nm-s:Int):Rat)*(st+((0:Int):Rat))))) r8=some (.tup (fq (((((nm.length:Int)-1)*most:Int):Rat)+((bu nm-s:Int):Rat)*(st+((0:Int):Rat))))):=bR;show iN _ _ [some (.ref a.p),some (.str x),some (.int ((nm.length:Int)-1)),some (.int (bu nm-s)),some (.ref r4),some (.ref r8)] (aH (aH (aH (aH H4 p5 (.tup [V.int (((nm.length:Int)-1)*most),V.int 1])) p6 (.tup [V.int (bu nm-s),V.int 1])) r7 (.tup (fq (((bu nm-s:Int):Rat)*(st+((0:Int):Rat)))))) r8 (.tup (fq (((((nm.length:Int)-1)*most:Int):Rat)+((bu nm-s:Int):Rat)*(st+((0:Int):Rat))))));generalize aH (aH (aH (aH H4 p5 (.tup [V.int (((nm.length:Int)-1)*most),V.int 1])) p6 (.tup [V.int (bu nm-s),V.int 1])) r7 (.tup (fq (((bu nm-s:Int):Rat)*(st+((0:Int):Rat)))))) r8 (.tup (fq (((((nm.length:Int)-1)*most:Int):Rat)+((bu nm-s:Int):Rat)*(st+((0:Int):Rat)))))=H8 at S Mz Jd⊢;unfold jE at k;generalize((((nm.length:Int)-1)*most:Int):Rat)+((bu nm-s:Int):Rat)*(st+((0:Int):Rat))=B at k zb Jd;clear JI s8 s7 s6 s5 f5 f6 f7 f8 hp ft;obtain⟨dx,fs,pr,hp,ft,jV⟩:=S.ex;walk_at"rd";refine gq hp (ft.qv _) ⟨a,most,nm,tg,gs,ck,ch,N,x,rfl,S,fun z=>(by rw[hx]at z;cases z),fun s' e'=>⟨al.1,al.2,fun q9 f9=>?_⟩⟩;rw[hx]at e';cases e'
  have s9:=fZ (o:=.tup (fq ((s:Rat) / (bu nm:Rat)))) f9;have zp:Sw.eY 70 ((s:Rat) / (bu nm:Rat)):=Sw.eY.of (by omega) rfl zs (Sw.Sz.jI (by omega) (by omega));exact⟨q9,r8,(s:Rat) / (bu nm:Rat),B,900,rfl,bR,s9 _ _ Jd,by decide,zp.mono (by decide),zb,fun Rz Qd=>k Rz _ (Mz.trans (s9.trans (fZ Qd))) bR⟩
include T in
theorem zgf:bN P w K mg base (eW P w) 1 cQ "turn_length" ["self"] [[]] (fun vs H Q _=>∃a most nm q0 rs tu ch,vs=[.ref a.p]/\Rx cQ cD H a most nm q0 rs tu ch/\Q (.int most) H):=by
 refine T.m7.okN (k:=0) zfq (fun vs H Q E h=>?_) (fun f b9 A outer s H vs Q E hr h=>?_)
 ·obtain⟨a,most,nm,q0,rs,tu,ch,rfl,_⟩:=h;rfl
 ·obtain⟨a,most,nm,q0,rs,tu,ch,rfl,S,k⟩:=h;refine⟨_,(c8 (gS (eK (pv 0) rfl))),?_⟩;show iN _ _ [some (.ref a.p)] H;obtain⟨dx,fs,hp,ft⟩:=S.ex;walk_at"rd";exact eG hp T.aF T.gP ft.mo k
inductive Cc(C Cm:Addr)(vs:List V)(H:Hp)(Q:VK)(E:XK):Prop|mk (a most nm q0 rs tu ch x s:_) (h1:vs=[.ref a.p,.str x]) (h2:Rx C Cm H a most nm q0 rs tu ch) (h3:aP nm x=some s) (h4:1<=s) (h5:s<=1000000) (h6:0<=most) (h7:most<=1000000) (h8:∀q H',bI H H'->H' q=some (.tup (fq ((most:Rat) / (s:Rat))))->Q (.ref q) H'):Cc C Cm vs H Q E
include T in
theorem zoj:bN P w K mg base (eW P w) 4 cQ "step" ["self","name"] [[]] (Cc cQ cD):=by
 have fV:=Uk P w base T;have fc:=GX P w base T;refine T.uQ.okN (k:=3) zmk (fun vs H Q E h=>?_) (fun f b9 A outer s H vs Q E hr h=>?_)
 ·obtain⟨a,most,nm,q0,rs,tu,ch,x,s,rfl,_⟩:=h;rfl
 ·obtain⟨a,most,nm,q0,rs,tu,ch,x,s,rfl,S,hx,s0,s1,m0,m1,k⟩:=h;refine⟨_,(c8 (gS (ja fc (hr.mono (by decide)) rfl aT (aL (eK (pv 0) rfl) (aL (gh (cu:=[]) fV (by simp) T.aF (hr.mono (by decide)) aT (pv 0) (aL (pv 1) bB)) bB))))),?_⟩;show iN _ _ [some (.ref a.p),some (.str x)] H;obtain⟨dx,fs,hp,ft⟩:=S.ex;walk_at"rd";refine eG hp T.aF T.gP ft.mo ?_;refine S.nQ (by decide+kernel) ⟨a,most,nm,q0,rs,tu,ch,x,rfl,S,fun z=>(by rw[hx]at z;cases z),fun s' uh=>?_⟩;rw[hx]at uh;cases uh
  have zs:Sw.Sz 70 s:=Sw.Sz.jI (by omega) (by omega);exact⟨most,s,70,rfl,by decide,zs,fun _ q1 QW=>k q1 _ (fZ QW) bR,fun z=>absurd z (by omega)⟩
inductive B8(C Cm:Addr)(vs:List V)(H:Hp)(Q:VK)(E:XK):Prop|mk (a most nm q0 rs tu ch x s:_) (h1:vs=[.ref a.p,.str x]) (h2:Rx C Cm H a most nm q0 rs tu ch) (h3:aP nm x=some s) (h4:1<=s) (h5:s<=1000000) (h6:1<=most) (h7:most<=1000000) (h8:nm.length<=900) (h9:(0<bu nm/\bu nm<1000000000000)) (yG:∀q H',bI H H'->H' q=some (.tup (fq (jE nm.length (bu nm) s most most ((most:Rat) / (s:Rat)))))->Q (.ref q) H'):B8 C Cm vs H Q E
include T in
theorem zok:bN P w K mg base (eW P w) 5 cQ "lack" ["self","name"] [[]] (B8 cQ cD):=by
 have iR:=Xj P w base T;have fV:=Uk P w base T;have vI:=zoj P w base T;have nB:=zgf P w base T;have lE:=XE P w base T;have eO:=Ug P w base T;have mE:=Pr P w base T;have kZ:=UQ P w base T;refine T.uN.okN (k:=4) gQ (fun vs H Q E h=>?_) (fun f b9 A outer s H vs Q E hr h=>?_)
 ·obtain⟨a,most,nm,q0,rs,tu,ch,x,s,rfl,_⟩:=h;rfl
 ·obtain⟨a,most,nm,q0,rs,tu,ch,x,s,rfl,S,hx,s0,s1,m0,m1,nl,al,k⟩:=h;refine⟨_,(bS (gA (i:=2) gQ.nd rfl (aM Fy (rC (EX K rfl) rfl T.jo boot_len (aL (xm (cu:=[]) iR (by simp) T.aF (hr.mono (by decide)) aT (pv 0)) bB)) bP)) (bS (gA (i:=3) gQ.nd rfl (aM Fy (xm (cu:=[]) eO (by simp) T.bD (hr.mono (by decide)) aT (eK (pv 0) rfl)) (gh (cu:=[]) fV (by simp) T.aF (hr.mono (by decide)) aT (pv 0) (aL (pv 1) bB)))) (bS (gA (i:=4) gQ.nd rfl (ja mE (hr.mono (by decide)) rfl aT (aL (gh (cu:=[]) vI (by simp) T.aF (hr.mono (by decide)) aT (pv 0) (aL (pv 1) bB)) (aL (wA (aL (xm (cu:=[]) nB (by simp) T.aF (hr.mono (by decide)) aT (pv 0)) (aL bP bB))) bB)))) (bS (gA (i:=5) gQ.nd rfl (ja mE (hr.mono (by decide)) rfl aT (aL (wA (aL (aM rL (pv 2) (eK (pv 0) rfl)) (aL bP bB))) (aL (ja kZ (hr.mono (by decide)) rfl aT (aL (wA (aL (pv 3) (aL bP bB))) (aL (pv 4) bB))) bB)))) (c8 (gS (ja kZ (hr.mono (by decide)) rfl aT (aL (gh (cu:=[]) lE (by simp) T.aF (hr.mono (by decide)) aT (pv 0) (aL (pv 1) bB)) (aL (pv 5) bB))))))))),?_⟩;show dG _ _ _ [some (.ref a.p),some (.str x),none,none,none,none] H;obtain⟨dx,fs,hp,ft⟩:=S.ex;walk_at"s";refine gq hp (ft.qv _) ⟨a,most,nm,q0,rs,tu,ch,rfl,S,fun l fl=>?_⟩;refine Ip (.of bR) ?_;walk_at"rd";refine hR _ _ ?_;clear hR hp ft;have Gy:=fZ (o:=.lst (rJ nm)) fl;have S:=S.same Gy;have el:(rJ nm).length=nm.length:=by unfold rJ;rw[ae]
  rw[el];show dG _ _ _ [some (.ref a.p),some (.str x),some (.int ((nm.length:Int)-1)),none,none,none] (aH H l (.lst (rJ nm)));generalize aH H l (.lst (rJ nm))=H1 at Gy S⊢;obtain⟨dx,fs,hp,ft⟩:=S.ex;obtain⟨dm,fm,kG,BD,jU,fK⟩:=S.mb.ex;walk_at"s";refine eG hp T.aF T.d7 ft.me ?_;refine gq kG (jU _ (by decide+kernel)) ⟨a.pm,a.ps,nm,rfl,S.mb,gq hp (ft.qv _) ⟨a,most,nm,q0,rs,tu,ch,x,rfl,S,fun z=>(by rw[hx]at z;cases z),fun s' e'=>?_⟩⟩;rw[hx]at e';cases e'
  refine⟨_,rfl,_,rfl,hR _ _ ?_⟩;clear hR;have zs:Sw.Sz 70 s:=Sw.Sz.jI (by omega) (by omega);have zm:Sw.Sz 70 most:=Sw.Sz.jI (by omega) (by omega);have zq:Sw.eY 70 ((most:Rat) / (s:Rat)):=Sw.eY.of (by omega) rfl zm zs;walk_at"s";refine gq hp (ft.qv _) ⟨a,most,nm,q0,rs,tu,ch,x,s,rfl,S,hx,s0,s1,by omega,m1,fun q H2 s2 hq=>?_⟩;have Aj:=s2 _ _ hp;refine gq Aj (ft.qv _) ⟨a,rfl,most,⟨nm,q0,rs,tu,ch,S.same s2⟩,fun p3 f3=>?_⟩;generalize(most:Rat) / (s:Rat)=st at k zq hq;have s3:=fZ (o:=.tup [.int most,.int 1]) f3;have z0:Sw.eY 70 (most:Rat):=Sw.eY.int (z:=69) zm;refine⟨q,p3,st,(most:Rat),70,rfl,s3 _ _ hq,bR,by decide,zq,z0,fun r4 f4=>hR _ _ ?_⟩;clear hR;have s4:=fZ (o:=.tup (fq (st+(most:Rat)))) f4;have CZ:=(s2.trans s3).trans s4;have S:=S.same CZ;have Gf:aH (aH H2 p3 (.tup [.int most,.int 1])) r4 (.tup (fq (st+(most:Rat)))) r4=some (.tup (fq (st+(most:Rat)))):=bR;have Fo:=Gy.trans CZ;show dG _ _ _ [some (.ref a.p),some (.str x),some (.int ((nm.length:Int)-1)),some (.int (bu nm-s)),some (.ref r4),none] (aH (aH H2 p3 (.tup [.int most,.int 1])) r4 (.tup (fq (st+(most:Rat)))));generalize aH (aH H2 p3 (.tup [.int most,.int 1])) r4 (.tup (fq (st+(most:Rat))))=H4 at S Gf Fo⊢;clear CZ s4 s3 s2 hp Aj ft hq kG jU Gy;have zr:Sw.eY 200 (st+(most:Rat)):=(zq.add z0).mono (by decide);obtain⟨dx,fs,hp,ft⟩:=S.ex;walk_at"s";refine eG hp T.aF T.gP ft.mo ?_;walk_at"rd";have Wa:((nm.length:Int)-1)*most<=1000*1000000:=by
   rcases lW nm.length with z|z
   ·rw[z];omega
   ·exact dS (by omega) m1 (by omega) (by omega)
  have Wb:-1000000<=((nm.length:Int)-1)*most:=by have:(-1)*most<=((nm.length:Int)-1)*most:=eV (by omega) (by omega);omega
  have zo:Sw.eY 70 ((((nm.length:Int)-1)*most:Int):Rat):=Sw.eY.int (z:=69) (Sw.Sz.jI (by omega) (by omega));have za:Sw.eY 70 ((bu nm-s:Int):Rat):=Sw.eY.int (z:=69) (Sw.Sz.jI (by omega) (by omega));refine⟨⟨(show Sw.Sz 70 _ from Sw.Sz.jI (by omega) (by omega)).mono (by decide),zm.mono (by decide)⟩,fun p5 f5 p6 f6=>?_⟩;have s5:=fZ (o:=.tup [V.int (((nm.length:Int)-1)*most),V.int 1]) f5;have s6:=fZ (o:=.tup [V.int (bu nm-s),V.int 1]) f6;refine⟨p6,r4,((bu nm-s:Int):Rat),st+(most:Rat),200,rfl,bR,s6 _ _ (s5 _ _ Gf),by decide,za.mono (by decide),zr,fun r7 f7=>?_⟩;have s7:=fZ (o:=.tup (fq (((bu nm-s:Int):Rat)*(st+(most:Rat))))) f7;have zt:Sw.eY 400 (((bu nm-s:Int):Rat)*(st+(most:Rat))):=(za.mul zr).mono (by decide);refine⟨p5,r7,((((nm.length:Int)-1)*most:Int):Rat),_,400,rfl,s7 _ _ (s6 _ _ bR),bR,by decide,zo.mono (by decide),zt,fun r8 f8=>hR _ _ ?_⟩;clear hR;have zb:Sw.eY 900 (((((nm.length:Int)-1)*most:Int):Rat)+((bu nm-s:Int):Rat)*(st+(most:Rat))):=((zo.mono (by decide:70<=400)).add zt).mono (by decide);have s8:=fZ (o:=.tup (fq (((((nm.length:Int)-1)*most:Int):Rat)+((bu nm-s:Int):Rat)*(st+(most:Rat))))) f8;have JI:=((s5.trans s6).trans s7).trans s8;have S:=S.same JI;have Mz:=Fo.trans JI;have Jd:aH (aH (aH (aH H4 p5 (.tup [V.int (((nm.length:Int)-1)*most),V.int 1])) p6 (.tup [V.int (bu nm-s),V.int 1])) r7 (.tup (fq (((bu nm-s:Int):Rat)*(st+(most:Rat)))))) r8 (.tup (fq (((((nm.length:Int)-1)*most:Int):Rat)+((bu nm-s:Int):Rat)*(st+(most:Rat))))) r8=some (.tup (fq (((((nm.length:Int)-1)*most:Int):Rat)+((bu nm-s:Int):Rat)*(st+(most:Rat))))):=bR;show iN _ _ [some (.ref a.p),some (.str x),some (.int ((nm.length:Int)-1)),some (.int (bu nm-s)),some (.ref r4),some (.ref r8)] (aH (aH (aH (aH H4 p5 (.tup [V.int (((nm.length:Int)-1)*most),V.int 1])) p6 (.tup [V.int (bu nm-s),V.int 1])) r7 (.tup (fq (((bu nm-s:Int):Rat)*(st+(most:Rat)))))) r8 (.tup (fq (((((nm.length:Int)-1)*most:Int):Rat)+((bu nm-s:Int):Rat)*(st+(most:Rat))))));generalize aH (aH (aH (aH H4 p5 (.tup [V.int (((nm.length:Int)-1)*most),V.int 1])) p6 (.tup [V.int (bu nm-s),V.int 1])) r7 (.tup (fq (((bu nm-s:Int):Rat)*(st+(most:Rat)))))) r8 (.tup (fq (((((nm.length:Int)-1)*most:Int):Rat)+((bu nm-s:Int):Rat)*(st+(most:Rat)))))=H8 at S Mz Jd⊢;unfold jE at k;generalize((((nm.length:Int)-1)*most:Int):Rat)+((bu nm-s:Int):Rat)*(st+(most:Rat))=B at k zb Jd;clear JI s8 s7 s6 s5 f5 f6 f7 f8 hp ft;obtain⟨dx,fs,hp,ft⟩:=S.ex;walk_at"rd";refine gq hp (ft.qv _) ⟨a,most,nm,q0,rs,tu,ch,x,rfl,S,fun z=>(by rw[hx]at z;cases z),fun s' e'=>⟨al.1,al.2,fun q9 f9=>?_⟩⟩;rw[hx]at e';cases e'
  have s9:=fZ (o:=.tup (fq ((s:Rat) / (bu nm:Rat)))) f9;have zp:Sw.eY 70 ((s:Rat) / (bu nm:Rat)):=Sw.eY.of (by omega) rfl zs (Sw.Sz.jI (by omega) (by omega));exact⟨q9,r8,(s:Rat) / (bu nm:Rat),B,900,rfl,bR,s9 _ _ Jd,by decide,zp.mono (by decide),zb,fun Rz Qd=>k Rz _ (Mz.trans (s9.trans (fZ Qd))) bR⟩
noncomputable def lkC(most:Int)(x:Str)(s:Int):b5->Rat
 | .st nm _ gs _ _ _=>jE nm.length (bu nm) s most 0 (max ((most:Rat) / (s:Rat)) ((gs x).getD 0))
 | .rd nm _ _ _ _=>jE nm.length (bu nm) s most most ((most:Rat) / (s:Rat))
def PL(D:TD)(x:Str)(p l:Rat):Prop:=∃n un c s,bz D.ns x=some n/\n.ab=some un.nm/\un∈D.ns/\un.ch=some c/\aP c.2.nm x=some s/\p=(s:Rat) / (bu c.2.nm:Rat)/\l=lkC D.most x s c.2
inductive HS(cC:Addr)(C:Cl)(vs:List V)(H:Hp)(Q:VK)(E:XK):Prop|mk (D:TD) (x:Str) (τ:Int) (v:Nat) (h1:vs=[.ref D.p,.str x]) (h2:bQ C H D) (h3:D.Dy τ v) (h4:(x=road\/bz D.ns x=none->Rs cC H E)) (h5:(x≠road->∀p l,PL D x p l->∀q H',bI H H'->H' q=some (.tup (fq l))->Q (.ref q) H')):HS cC C vs H Q E
include T in
theorem Yd:bN P w K mg base (eW P w) 6 cX "lack" ["self","name"] [[]] (HS cF (⟨cK,cU,cQ,cD,cK,cX⟩:Cl)):=by
 have cZ:=Nl P w base T;have di:=Uh P w base T;have vJ:=zoi P w base T;have vG:=zok P w base T;refine T.xZ.pB (k:=5) zqi (fun vs H Q E h=>?_) (fun f b9 A outer s H vs Q E hr h=>?_)
 ·obtain⟨D,x,τ,v,rfl,_⟩:=h;rfl
 ·obtain⟨D,x,τ,v,rfl,O,Y,kc,k⟩:=h;have W:=Y.W;refine⟨_,(bS (j6 (gh (cu:=[]) cZ (by simp) T.aJ (hr.mono (by decide)) bL (pv 0) (aL (pv 1) bB))) (c8 (gS (Iq (gh (cu:=[]) vJ (by simp) T.aN (hr.mono (by decide)) bL (gh (cu:=[]) di (by simp) T.aJ (hr.mono (by decide)) bL (pv 0) (aL (pv 1) bB)) (aL (pv 1) bB)) (gh (cu:=[]) vG (by simp) T.aF (hr.mono (by decide)) bL (gh (cu:=[]) di (by simp) T.aJ (hr.mono (by decide)) bL (pv 0) (aL (pv 1) bB)) (aL (pv 1) bB)))))),?_⟩;show dG _ _ _ [some (.ref D.p),some (.str x)] H;obtain⟨dx,fs,hp,ft⟩:=O.ex;walk_at"s";refine gq hp (om ft _) ⟨D,x,rfl,O,fun c1 c2=>hR _ _ ?_,kc⟩;clear hR;cases hx:bz D.ns x with
  |none=>exact absurd hx c2
  |some n=>
  obtain⟨u,c,ha,gZ,hu,hc,yI⟩:=W.above c1 hx;have CS:=(O.nd u gZ).ch c hc;have k9:=W.k9 u gZ c hc;have kl:=W.lj gZ hc;have fl:=Y.ln;have m1:=W.m1;cases hs:aP c.2.nm x with
  |none=>exact absurd hs yI
  |some s=>
  have al:=Pg k9.F6 (by omega) hs;have sb:=k9.F6.sh x s hs;have k:=k c1 _ _ ⟨n,u,c,s,hx,ha,gZ,hc,hs,rfl,rfl⟩;have fin:=(Y.fin u gZ c hc).1;obtain⟨a,cs⟩:=c;walk_at"rd";cases cs with
  |st nm tg gs ck ch N'=>
   refine .inl ?_;walk_at"rd";refine gq hp (om ft _) ⟨D,x,u.nm,n,u,rfl,O,hx,ha,hu,?_⟩;rw[hc];have S:Sx cU cD H a D.most nm tg gs ck ch N':=CS;obtain⟨CB,qp,pr,rG,zk,jV⟩:=S.ex;obtain⟨t,g,_,hg⟩:=k9.2 x yI;obtain⟨G,_,_,_,_,fg⟩:=fin;have k:∀q H',bI H H'->H' q=some (.tup (fq (jE nm.length (bu nm) s D.most 0 (max ((D.most:Rat) / (s:Rat)) ((gs x).getD 0)))))->Q (.ref q) H':=k;rw[hg]at k;exact gq rG (zk.qv _) ⟨a,D.most,nm,tg,gs,ck,ch,N',x,s,g,rfl,S,hs,hg,(fg x g hg).2,sb.1,sb.2,m1.1,m1.2,(by have:nm.length<=_:=kl;omega),al,k⟩
  |rd nm q rs tu ch=>
   refine .inr ?_;walk_at"rd";refine gq hp (om ft _) ⟨D,x,u.nm,n,u,rfl,O,hx,ha,hu,?_⟩;rw[hc];have S:Rx cQ cD H a D.most nm q rs tu ch:=CS;exact S.nQ (by decide+kernel) ⟨a,D.most,nm,q,rs,tu,ch,x,s,rfl,S,hs,sb.1,sb.2,m1.1,m1.2,(by have:nm.length<=_:=kl;omega),al,k⟩
inductive Fl(D:TD):List Str->Rat->Rat->Prop
 |nil:Fl D [] 1 0
 |snoc {ys:List Str} {y:Str} {g d p l:Rat}:Fl D ys g d->PL D y p l->Fl D (ys++[y]) (g*p) (p*d+l)
theorem zxh{n:Nat}{all s most tl:Int}{st:Rat}(hn:n<=900)(ha:0<all/\all<1000000000000)(hs:1<=s/\s<=1000000)(hm:0<=most/\most<=1000000)(ht:0<=tl/\tl<=1000000)(Dt:Sw.eY 70 st):Sw.eY 360 (jE n all s most tl st):=by
 have Wa:((n:Int)-1)*most<=1000*1000000:=by
  rcases lW n with z|z
  ·rw[z];omega
  ·exact dS (by omega) hm.2 (by omega) (by omega)
 have Wb:-1000000<=((n:Int)-1)*most:=by have:(-1)*most<=((n:Int)-1)*most:=eV (by omega) (by omega);omega
 have zo:Sw.eY 70 ((((n:Int)-1)*most:Int):Rat):=Sw.eY.int (z:=69) (Sw.Sz.jI (by omega) (by omega));have za:Sw.eY 70 ((all-s:Int):Rat):=Sw.eY.int (z:=69) (Sw.Sz.jI (by omega) (by omega));have zt:Sw.eY 70 (tl:Rat):=Sw.eY.int (z:=69) (Sw.Sz.jI (by omega) (by omega));have zp:Sw.eY 70 ((s:Rat) / (all:Rat)):=Sw.eY.of (by omega) rfl (Sw.Sz.jI (by omega) (by omega)) (Sw.Sz.jI (by omega) (by omega));exact(zp.mul (zo.add (za.mul (Dt.add zt)))).mono (by decide)
theorem PL.of{D:TD}{τ:Int}{v:Nat}(Y:D.Dy τ v){x:Str}(nr:x≠road)(hx:bz D.ns x≠none):∃p l,PL D x p l/\Sw.eY 70 p/\Sw.eY 360 l:=by
 have W:=Y.W;cases hn:bz D.ns x with
 |none=>exact absurd hn hx
 |some n=>
 obtain⟨u,c,ha,gZ,hu,hc,yI⟩:=W.above nr hn;have k9:=W.k9 u gZ c hc;have kl:=W.lj gZ hc;have fl:=Y.ln;have m1:=W.m1;cases hs:aP c.2.nm x with
 |none=>exact absurd hs yI
 |some s=>
 have al:=Pg k9.F6 (by omega) hs;have sb:=k9.F6.sh x s hs;refine⟨_,_,⟨n,u,c,s,hn,ha,gZ,hc,hs,rfl,rfl⟩,Sw.eY.of (by omega) rfl (Sw.Sz.jI (by omega) (by omega)) (Sw.Sz.jI (by omega) (by omega)),?_⟩;have fin:=(Y.fin u gZ c hc).1;have zq:Sw.eY 70 ((D.most:Rat) / (s:Rat)):=Sw.eY.of (by omega) rfl (Sw.Sz.jI (by omega) (by omega)) (Sw.Sz.jI (by omega) (by omega));obtain⟨a,cs⟩:=c;cases cs with
 |st nm tg gs ck ch N'=>
  obtain⟨t,g,_,hg⟩:=k9.2 x yI;obtain⟨G,_,_,_,_,fg⟩:=fin;show Sw.eY 360 (jE nm.length (bu nm) s D.most 0 (max ((D.most:Rat) / (s:Rat)) ((gs x).getD 0)));rw[hg];refine zxh (by have:nm.length<=_:=kl;omega) al sb (by omega) (by omega) ?_;show Sw.eY 70 (max ((D.most:Rat) / (s:Rat)) g);rw[gI];split
  ·exact(fg x g hg).2
  ·exact zq
 |rd nm q rs tu ch=>exact zxh (by have:nm.length<=_:=kl;omega) al sb (by omega) (by omega) zq
theorem PL.det{D:TD}(W:D.Wf){x:Str}{p l p' l':Rat}(h:PL D x p l)(h':PL D x p' l'):p=p'/\l=l':=by
 obtain⟨n,un,c,s,h1,h2,h3,h4,h5,h6,h7⟩:=h;obtain⟨n',Nd,c',s',g1,g2,g3,g4,g5,g6,g7⟩:=h';rw[h1]at g1;cases g1
 rw[h2]at g2;have eu:un=Nd:=by have a1:=sN W.nn h3;have a2:=sN W.nn g3;rw[ak g2,a2]at a1;exact(ak a1).symm
 subst eu;rw[h4]at g4;cases g4
 rw[h5]at g5;cases g5
 exact⟨h6.trans g6.symm,h7.trans g7.symm⟩
theorem zzu{D:TD}(W:D.Wf){x:Str}{ys:List Str}(U:Up D.ns x ys):∀y∈ys.reverse.tail,y≠road/\bz D.ns y≠none:=fun y hy=>by
 obtain⟨zs,e⟩:=U.last W.ra;have nd:=U.nodup;rw[e]at nd hy;rw[List.reverse_append]at hy;have hy:y∈zs:=by simpa using hy
 refine⟨fun z=>?_,?_⟩
 ·rw[z]at hy;have:=(cY.mp nd).2.2 road hy road (by simp);exact this rfl
 ·obtain⟨as,bs,q⟩:=i8 (show y∈ys by rw[e];exact eZ _ hy);obtain⟨n,hn⟩:=(U.suffix q).Ho;rw[hn];simp
inductive BY(cC:Addr)(C:Cl)(vs:List V)(H:Hp)(Q:VK)(E:XK):Prop|mk (D:TD) (x:Str) (τ:Int) (v:Nat) (h1:vs=[.ref D.p,.str x]) (h2:bQ C H D) (h3:D.Dy τ v) (h4:(x=road\/bz D.ns x=none->∀H',bI H H'->Rs cC H' E)) (h5:(x≠road->∀ys g d,Up D.ns x ys->Fl D ys.reverse.tail g d->∀t a b H',bI H H'->H' t=some (.tup [.ref a,.ref b])->H' a=some (.tup (fq g))->H' b=some (.tup (fq d))->Q (.ref t) H')):BY cC C vs H Q E
include T in
theorem zxi:rM P w K mg base (eW P w) 7 "floor" ["tree","name"] (BY cF (⟨cK,cU,cQ,cD,cK,cX⟩:Cl)):=by
 have Az:=zum P w base T;have yU:=zru P w base T;have k7:=Yd P w base T;have fc:=GX P w base T;have kZ:=UQ P w base T;have mE:=Pr P w base T;refine T.C5.pB (k:=6) kM (fun vs H Q E h=>?_) (fun f b9 A outer s H vs Q E hr h=>?_)
 ·obtain⟨D,x,τ,v,rfl,_⟩:=h;rfl
 ·obtain⟨D,x,τ,v,rfl,O,Y,kc,k⟩:=h;refine⟨_,(bS (gA (i:=2) kM.nd rfl (ja fc (hr.mono (by decide)) rfl bL (aL bP (aL bP bB)))) (bS (gA (i:=3) kM.nd rfl (ja fc (hr.mono (by decide)) rfl bL (aL bP (aL bP bB)))) (bS (DE PassesOwn.leaving rfl (Ag K rfl (gh (cu:=[]) Az (by simp) T.aJ (hr.mono (by decide)) bL (pv 0) (aL (pv 1) bB))) (nZ (i:=4) kM.nd rfl (by first|left;rfl|right;rfl)) (bS (gA (i:=5) kM.nd rfl (gh (cu:=[]) yU (by simp) T.aJ (hr.mono (by decide)) bL (pv 0) (aL (pv 4) bB))) (bS (gA (i:=2) kM.nd rfl (ja kZ (hr.mono (by decide)) rfl bL (aL (pv 2) (aL (pv 5) bB)))) (c8 (gA (i:=3) kM.nd rfl (ja mE (hr.mono (by decide)) rfl bL (aL (ja kZ (hr.mono (by decide)) rfl bL (aL (pv 5) (aL (pv 3) bB))) (aL (gh (cu:=[]) k7 (by simp) T.aJ (hr.mono (by decide)) bL (pv 0) (aL (pv 4) bB)) bB)))))))) (c8 (gS (wA (aL (pv 2) (aL (pv 3) bB)))))))),?_⟩;show dG _ _ _ [some (.ref D.p),some (.str x),none,none,none,none] H;have z1:Sw.Sz 70 1:=Sw.Sz.jI (by decide) (by decide);walk_at"s";refine⟨1,1,70,rfl,by decide,z1,fun _ pg fg=>hR _ _ ?_,fun z=>absurd z (by decide)⟩;clear hR;walk_at"s";refine⟨0,1,70,rfl,by decide,z1,fun _ pd fd=>hR _ _ ?_,fun z=>absurd z (by decide)⟩;clear hR;have s2:=(fZ (o:=.tup (fq (((1:Int):Rat) / ((1:Int):Rat)))) fg).trans (fZ (o:=.tup (fq (((0:Int):Rat) / ((1:Int):Rat)))) fd);have e1:((1:Int):Rat) / ((1:Int):Rat)=1:=by decide+kernel
  have e0:((0:Int):Rat) / ((1:Int):Rat)=0:=by decide+kernel
  rw[e1,e0]at s2⊢;rw[e1]at fd;have qq:aH (aH H pg (.tup (fq 1))) pd (.tup (fq 0)) pg=some (.tup (fq 1)):=fZ fd _ _ bR;have VQ:aH (aH H pg (.tup (fq 1))) pd (.tup (fq 0)) pd=some (.tup (fq 0)):=bR;generalize aH (aH H pg (.tup (fq 1))) pd (.tup (fq 0))=H2 at s2 qq VQ⊢;clear fg fd;have O2:=O.same s2;obtain⟨dx,fs,hp,ft⟩:=O2.ex;have W:=Y.W;refine bM fun R hR=>?_;refine DB fun Z hZ=>?_;walk_at"rd";refine gq hp (om ft _) ⟨D,x,rfl,O2,W,fun z=>kc z _ s2,fun nr ys U l H3 s3 fl hl=>?_⟩;have k:=k nr ys;have wy:=zzu W U;have wl:ys.reverse.tail.length<=5:=by obtain⟨n,hn⟩:=U.Ho;obtain⟨Nj,U',yl⟩:=W.up n (jK hn).1;rw[(jK hn).2]at U';rw[jR,dI,U.det U'];omega
  refine⟨l,rfl,⟨_,.of hl⟩,hZ _ _ ?_⟩;clear hZ hp ft;have JH:=s2.trans s3;have O3:=O.same JH;have QV:=s3 _ _ qq;have QU:=s3 _ _ VQ;generalize ys.reverse.tail=ws at k wy wl hl;refine GR (K:=K) (a:=l) (xs:=ws.map V.str) (fun i σ H'=>∃v4 v5 pg pd g d,σ=[some (.ref D.p),some (.str x),some (.ref pg),some (.ref pd),v4,v5]/\bI H3 H'/\H' pg=some (.tup (fq g))/\H' pd=some (.tup (fq d))/\Fl D (ws.take i) g d/\Sw.eY (70*i+70) g/\Sw.eY (432*i+70) d) ⟨none,none,pg,pd,1,0,rfl,fun _ _ e=>e,QV,QU,.nil,⟨Sw.Sz.jI (by decide) (by decide),Sw.Sz.jI (by decide) (by decide)⟩,⟨Sw.Sz.jI (by decide) (by decide),Sw.Sz.jI (by decide) (by decide)⟩⟩ (fun i σ H' _⟨_,_,_,_,_,_,_,h,_⟩=>.of (h _ _ hl)) ?_ ?_
  ·rintro i w0 σ H4 hv ⟨v4,v5,Mm,Mj,g,d,rfl,s4,QB,Qw,F4,zg,zd⟩;obtain⟨y,hy,rfl⟩:∃y,ws[i]?=some y/\V.str y=w0:=by
    rw[aK]at hv;cases e:ws[i]? with
    |none=>rw[e]at hv;cases hv
    |some z=>rw[e]at hv;exact⟨z,rfl,ak hv⟩
   have i5:i<5:=by have:=(aD.mp hy).1;omega
   obtain⟨yr,yf⟩:=wy y (aV hy);obtain⟨p,lk,PN,zp,zl⟩:=PL.of Y yr yf;show dG _ _ _ [some (.ref D.p),some (.str x),some (.ref Mm),some (.ref Mj),some (.str y),v5] H4;refine An fun N hN=>?_;have O4:=O3.same s4;obtain⟨dx,fs,hp,ft⟩:=O4.ex;walk_at"s";refine gq hp (om ft _) ⟨D,y,rfl,O4,W,Y.fit,fun z=>absurd (z.resolve_left yr) yf,fun _ n un c s1 h1 h2 h3 h4 h5 q5 f5=>hR _ _ ?_⟩;clear hR;have ep:(s1:Rat) / (bu c.2.nm:Rat)=p:=(PL.det W ⟨n,un,c,s1,h1,h2,h3,h4,h5,rfl,rfl⟩ PN).1;rw[ep];have s5:=fZ (o:=.tup (fq p)) f5;walk_at"s";refine⟨Mm,q5,g,p,70*i+70,rfl,s5 _ _ QB,bR,by omega,zg,zp.mono (by omega),fun q6 f6=>hR _ _ ?_⟩;clear hR;have s6:=fZ (o:=.tup (fq (g*p))) f6;walk_at"rd";refine⟨q5,Mj,p,d,432*i+70,rfl,s6 _ _ bR,s6 _ _ (s5 _ _ Qw),by omega,zp.mono (by omega),zd,fun q7 f7=>?_⟩;have s7:=fZ (o:=.tup (fq (p*d))) f7;have Wn:=(s5.trans s6).trans s7;have O7:=O4.same Wn;obtain⟨dx,fs,hp,ft⟩:=O7.ex;refine gq hp (om ft _) ⟨D,y,τ,v,rfl,O7,Y,fun z=>absurd (z.resolve_left yr) yf,fun _ p' l' K8 q8 H8 s8 hq8=>?_⟩;obtain⟨_,rfl⟩:=PL.det W K8 PN;have YD:Sw.eY (432*i+140) (p*d):=(zp.mul zd).mono (by omega);refine⟨q7,q8,p*d,l',432*i+360,rfl,s8 _ _ bR,hq8,by omega,YD.mono (by omega),zl.mono (by omega),fun q9 f9=>?_⟩;have s9:=fZ (o:=.tup (fq (p*d+l'))) f9;refine hN _ _ ⟨_,_,q6,q9,g*p,p*d+l',rfl,((s4.trans Wn).trans s8).trans s9,s9 _ _ (s8 _ _ (s7 _ _ bR)),bR,by rw[Cp hy];exact F4.snoc PN,(zg.mul zp).mono (by omega),(YD.add zl).mono (by omega)⟩
  ·rintro σ H4 ⟨v4,v5,Mm,Mj,g,d,rfl,s4,QB,Qw,F4,_⟩;rw[ae,bC]at F4;refine hR _ _ ?_;walk_at"rd";intro t ft;have s5:=fZ (o:=.tup [.ref Mm,.ref Mj]) ft;exact k g d U F4 t Mm Mj _ ((JH.trans s4).trans s5) bR (s5 _ _ QB) (s5 _ _ Qw)
def MG:Sp:=fun vs H Q _=>∃a b,vs=[.int a,.int b]/\0<=a/\0<=b/\Q (.int (Sw.dv a b)) H
include T in
theorem zol:rM P w K mg base (eW P w) 1 "_law_shared" ["_law_one","_law_other"] MG:=by
 refine T.tZ.okN (k:=0) nT (fun vs H Q E h=>?_) (fun f b9 A outer s H vs Q E hr h=>?_)
 ·obtain⟨a,b,rfl,_⟩:=h;rfl
 ·obtain⟨a,b,rfl,h1,h2,k⟩:=h;refine⟨_,(bS (KH PassesOwn.never (j7 sW (pv 1) bP (jL _)) (c8 (Tk (i:=0) (j:=1) rfl nT.nd rfl rfl (by decide) rfl rfl (aL (pv 1) (aL (aM rE (pv 0) (pv 1)) bB)) (by with_unfolding_all rfl)))) (c8 (gS (pv 0)))),?_⟩;refine YG (fun σ H'=>H'=H/\∃g s,σ=[some (.int g),some (.int s)]/\0<=g/\0<=s/\Sw.dv g s=Sw.dv a b)
   (fun σ _=>match σ with|[_,some (.int s)]=>s.toNat|_=>0) ⟨rfl,_,_,rfl,h1,h2,rfl⟩ ?_;rintro σ H' ⟨rfl,g,s,rfl,hg,hs,e⟩;refine⟨!decide (V.int s=V.int 0),fun Q hQ=>⟨_,rfl,rfl,_,rfl,hQ⟩,fun hb=>?_,fun hb=>?_⟩
  ·have Gh:s≠0:=by intro z;subst z;simp at hb
   have rH:0<s:=by omega
   refine⟨_,rfl,_,rfl,_,rfl,_,_,rfl,rfl,rH,_,_,rfl,?_⟩;refine⟨⟨rfl,s,g % s,rfl,hs,aZ g Gh,by rw[Sw.Bw];exact e⟩,?_⟩;show(g % s).toNat<s.toNat;have:=aS g rH;have:=aZ g Gh;omega
  ·have Gh:s=0:=by
    have:V.int s=V.int 0:=by simpa using hb
    exact V.int.inj this
   subst Gh;rw[Sw.Bx g hg]at e;walk_at"rd";rw[e];exact k
inductive HN(vs:List V)(H:Hp)(Q:VK)(E:XK):Prop|mk (p q t b:_) (h1:vs=[.ref p,.int t,.int b]) (h2:H p=some (.tup (fq q))) (h3:0<=q) (h4:Sw.eY 5000 q) (h5:Sw.Sz 5000 t) (h6:Sw.Sz 5000 b) (h7:q.num*b=(q.den:Int)*t) (h8:Q (.bl true) H):HN vs H Q E
include T in
theorem Y8:rM P w K mg base (eW P w) 2 "_law_is" ["_law_found","_law_top","_law_bottom"] HN:=by
 have vD:=zol P w base T;refine T.z3.okN (k:=1) u6 (fun vs H Q E h=>?_) (fun f b9 A outer s H vs Q E hr h=>?_)
 ·obtain⟨p,q,t,b,rfl,_⟩:=h;rfl
 ·obtain⟨p,q,t,b,rfl,hp,q0,zq,zt,zb,e,k⟩:=h;refine⟨_,(bS (dW (PW.pt (pw_or (Df (DC (rC (OO K rfl) rfl T.jA boot_isinstance (aL (pv 0) (aL (O9 (v:=.ty "tuple") rfl T.zL boot_tuple rfl) bB))))) (NI (j7 sW (rC (EX K rfl) rfl T.jo boot_len (aL (pv 0) bB)) bP (jL _))))) (c8 (gS wQ)) kX) (bS (DE PassesOwn.never rfl (Sh K rfl (pv 0)) (nZ (i:=3) u6.nd rfl (by first|left;rfl|right;rfl)) (c8 (dW (PW.pt (pw_or (Df (DC (rC (OO K rfl) rfl T.jA boot_isinstance (aL (pv 3) (aL (O9 (v:=.ty "int") rfl T.Jo boot_int rfl) bB))))) (pw_or (DC (rC (OO K rfl) rfl T.jA boot_isinstance (aL (pv 3) (aL (O9 (v:=.ty "bool") rfl T.Gv boot_bool rfl) bB)))) (NI (j7 qU (pv 3) bP (jL _)))))) (c8 (gS wQ)) kX))) (c8 (gS (NK (GW BL (bG (jb K rfl) (pv 0) bP (fun _ _=>rfl)) bP (jL _)) (NK (GW ji (ja vD (hr.mono (by decide)) rfl aT (aL (bG (jb K rfl) (pv 0) bP (fun _ _=>rfl)) (aL (bG (jb K rfl) (pv 0) bP (fun _ _=>rfl)) bB))) bP (jL _)) (NJ (GW ji (aM rL (bG (jb K rfl) (pv 0) bP (fun _ _=>rfl)) (pv 2)) (aM rL (bG (jb K rfl) (pv 0) bP (fun _ _=>rfl)) (pv 1)) (jL _))))))))),?_⟩;show dG _ _ _ [some (.ref p),some (.int t),some (.int b),none] H;have hT:uF K H p (fq q):=.of hp;have n0:0<=q.num:=yY.mpr q0;have d0:=Sw.iI q;walk_at"s";refine⟨_,_,_,_,true,rfl,rfl,.tup hp,YH,_,rfl,?_⟩;walk_at"rd";refine ZQ hT ⟨rfl,?_⟩;rw[if_pos (show(V.int ((fq q).length:Nat):V)=V.int 2 from rfl)];refine hR _ _ ?_;clear hR;refine bM fun R hR=>?_;refine DB fun Z hZ=>?_;walk_at"rd";refine⟨⟨_,hT⟩,hZ _ _ ?_⟩;clear hZ;refine R5 (K:=K) (a:=p) (xs:=fq q) (fun i σ H'=>H'=H/\∃v3,σ=[some (.ref p),some (.int t),some (.int b),v3]) ⟨rfl,none,rfl⟩ (fun i σ H' _ h=>by rw[h.1];exact hT) ?_ ?_
  ·rintro i w0 σ H1 hv ⟨rfl,v3,rfl⟩;obtain⟨y,rfl,y0⟩:∃y:Int,w0= .int y/\0<=y:=by
    have:=aV hv;unfold fq at this;simp only[ao,bf,or_false]at this;rcases this with z|z
    ·exact⟨_,z,n0⟩
    ·exact⟨_,z,by omega⟩
   show rh _ _ _ _ [some (.ref p),some (.int t),some (.int b),some (.int y)] H1;refine An fun N hN=>?_;walk_at"rd";refine⟨_,_,_,_,true,rfl,rfl,.int y,zra,true,rfl,?_⟩;rw[if_neg (by decide)];refine⟨_,_,_,_,false,rfl,rfl,.int y,zph,false,rfl,?_⟩;rw[if_neg (by decide),if_neg (by omega)];exact hN _ _ ⟨rfl,_,rfl⟩
  ·rintro σ H1 ⟨rfl,v3,rfl⟩;refine hR _ _ ?_;walk_at"rd";refine jc hT (v:=.int q.den) rfl ?_;walk_at"rd";rw[if_pos d0];refine jc hT (v:=.int q.num) rfl (jc hT (v:=.int q.den) rfl ⟨q.num,q.den,rfl,n0,by omega,rfl,?_⟩);rw[if_pos (by rw[Sw.BS])];refine jc hT (v:=.int q.num) rfl ⟨_,rfl,⟨zq.n,zb⟩,jc hT (v:=.int q.den) rfl ⟨_,rfl,⟨zq.d,zt⟩,?_⟩⟩;rw[decide_eq_true e];exact k
def zyu:Sp:=fun vs H Q _=>∃n,vs=[.int n]/\∀s H',bI H H'->1<=s->s<=1000000->Q (.int s) H'
include T in
theorem XV:rM P w K mg base (eW P w) 1 "_law_share" ["_law_number"] zyu:=by
 refine T.vf.okN (k:=0) znx (fun vs H Q E h=>?_) (fun f b9 A outer s H vs Q E hr h=>?_)
 ·obtain⟨n,rfl,_⟩:=h;rfl
 ·obtain⟨n,rfl,k⟩:=h;refine⟨_,(c8 (gS (bG (DA K rfl) (Dg (aL (aM sL bP (aM rE (aM Af (pv 0) bP) bP)) (aL (aM sL bP (aM rE (aM Af (pv 0) bP) (aM Pk bP bP))) (aL bP (aL (aM Pk bP bP) bB))))) (aM rE (pv 0) bP) (fun _ _=>rfl)))),?_⟩;show iN _ _ [some (.int n)] H;walk_at"rd";intro p1 f1;refine BO _ (aZ _ (by decide)) (aS _ (by decide)) fun v hv=>?_;have b0:=aZ (n / 4) (show(9:Int)≠0 by decide);have b1:=aS (n / 4) (show(0:Int)<9 by decide);have b2:=aZ (n / 4) (show(1000000:Int)≠0 by decide);have b3:=aS (n / 4) (show(0:Int)<1000000 by decide);simp only[ao,bf,or_false]at hv;rcases hv with q|q|q|q <;> (rw[q];exact k _ _ (fZ f1) (by omega) (by omega))
def AZ(c i:Int):Int:=((c % 2147483629+40+i)*(c % 2147483629+40+i)+69621*(c % 2147483629+40+i)+7*i) % 2147483629
def tX(c i:Int):Int:=(AZ c i*AZ c i+30269*AZ c i+i) % 2147483629
def T9:Sp:=fun vs H Q _=>∃c i,vs=[.int c,.int i]/\(-1000<=i/\i<=1000)/\(0<=tX c i->tX c i<2147483629->Q (.int (tX c i)) H)
include T in
theorem Ur:rM P w K mg base (eW P w) 1 "_law_mixed" ["_law_cell","_law_k"] T9:=by
 refine T.ve.okN (k:=0) lN (fun vs H Q E h=>?_) (fun f b9 A outer s H vs Q E hr h=>?_)
 ·obtain⟨c,i,rfl,_⟩:=h;rfl
 ·obtain⟨c,i,rfl,ib,k⟩:=h;refine⟨_,(bS (gA (i:=2) lN.nd rfl (aM sL (aM sL (aM rE (pv 0) bP) bP) (pv 1))) (bS (gA (i:=2) lN.nd rfl (aM rE (aM sL (aM sL (aM rL (pv 2) (pv 2)) (aM rL bP (pv 2))) (aM rL bP (pv 1))) bP)) (c8 (gS (aM rE (aM sL (aM sL (aM rL (pv 2) (pv 2)) (aM rL bP (pv 2))) (pv 1)) bP))))),?_⟩;show dG _ _ _ [some (.int c),some (.int i),none] H;walk_at"s";refine hR _ _ ?_;clear hR;have b0:=aZ c (show(2147483629:Int)≠0 by decide);have b1:=aS c (show(0:Int)<2147483629 by decide);have sz:∀{y:Int},-10000000000<=y->y<=10000000000->Sw.Sz 5000 y:=fun{y} a b=>(show Sw.Sz 70 y from Sw.Sz.jI (by omega) (by omega)).mono (by decide);walk_at"s";refine⟨⟨sz (by omega) (by omega),sz (by omega) (by omega)⟩,⟨sz (by omega) (by omega),sz (by omega) (by omega)⟩,⟨sz (by omega) (by omega),sz (by omega) (by omega)⟩,hR _ _ ?_⟩;clear hR;have c0:0<=AZ c i:=aZ _ (by decide);have c1:AZ c i<2147483629:=aS _ (by decide);have k:=k (aZ _ (by decide)) (aS _ (by decide));show iN _ _ [some (.int c),some (.int i),some (.int (AZ c i))] H;unfold tX at k;generalize AZ c i=z at c0 c1 k⊢;walk_at"rd";exact⟨⟨sz (by omega) (by omega),sz (by omega) (by omega)⟩,⟨sz (by omega) (by omega),sz (by omega) (by omega)⟩,k⟩
inductive EM(C:Cl)(vs:List V)(H:Hp)(Q:VK)(E:XK):Prop|mk (D:TD) (x:Str) (τ:Int) (v:Nat) (h1:vs=[.ref D.p,.str x]) (h2:bQ C H D) (h3:D.Dy τ v) (h4:(x=road\/bz D.ns x=none)) (h5:∀H',bI H H'->Q (.bl true) H'):EM C vs H Q E
include T in
theorem zmr:rM P w K mg base (eW P w) 8 "_law_strange" ["_law_tree_here","_law_name_here"] (EM (⟨cK,cU,cQ,cD,cK,cX⟩:Cl)):=by
 have xz:=zxi P w base T;refine T.sE.okN (k:=7) jP (fun vs H Q E h=>?_) (fun f b9 A outer s H vs Q E hr h=>?_)
 ·obtain⟨D,x,τ,v,rfl,_⟩:=h;rfl
 ·obtain⟨D,x,τ,v,rfl,O,Y,nx,k⟩:=h;refine⟨_,(bS (gA (i:=2) jP.nd rfl kY) (bS (TU rfl rfl K rfl rfl rfl T.kN rfl T.mJ (fun _ _=>(c8 (j6 (ja xz (hr.mono (by decide)) rfl Mh (aL (pv 0) (aL (pv 1) bB)))))) (fun _=>(c8 (gA (i:=2) jP.nd rfl kY)))) (c8 (gS (GW ji (pv 2) kY (jL _)))))),?_⟩;show dG _ _ _ [some (.ref D.p),some (.str x),none] H;walk_at"s";refine hR _ _ ?_;clear hR;walk_at"s";refine⟨D,x,τ,v,rfl,O,Y,fun _ H1 s1 e he=>?_,fun nr ys g d U F=>?_⟩
  ·refine⟨e,rfl,cF,bR,T.o7,hR _ _ ?_⟩;walk_at"rd";exact k _ (s1.trans (fZ he))
  ·exfalso;rcases nx with z|z
   ·exact nr z
   ·obtain⟨n,hn⟩:=U.Ho;rw[hn]at z;cases z
structure MW where
 nm:Str
 p:Addr
 ab:Str
 kd:Str
 sh:Int
 dp:Nat
def mT(ws:List MW):List (Key×V):=ws.map fun w=>((az w.nm:Key),V.ref w.p)
structure pN(H:Hp)(md:Addr)(ws:List MW):Prop where
 hd:H md=some (.dK (mT ws))
 ht:∀w∈ws,H w.p=some (.tup [.str w.ab,.str w.kd,.int w.sh])
 nd:(ws.map (·.nm)).Nodup
theorem pN.same{H H':Hp}{md:Addr}{ws:List MW}(h:pN H md ws)(s:bI H H'):pN H' md ws:=⟨s _ _ h.hd,fun w hw=>s _ _ (h.ht w hw),h.nd⟩
theorem J6(f:MW->V):∀{ws:List MW},(ws.map (·.nm)).Nodup->∀{w:MW},w∈ws->gv (ws.map fun w=>((az w.nm:Key),f w)) (az w.nm:Key)=some (f w)
 |[],_,w,h=>absurd h bf
 |x::r,nd,w,h=>by
  rw[au,aY]at nd;rcases ao.mp h with e|e
  ·rw[e];exact Co rfl
  ·rw[au,Am (fun z=>nd.1 (by rw[show x.nm=w.nm from fF z];exact av.mpr ⟨w,e,rfl⟩))];exact J6 f nd.2 e
theorem pN.get{H:Hp}{md:Addr}{ws:List MW}(h:pN H md ws){w:MW}(hw:w∈ws):ia H md (.str w.nm) (some (.ref w.p)):=by have:=ia.k (k:=az w.nm) h.hd;rw[show gv (mT ws) (az w.nm:Key)=_ from J6 (fun w=>.ref w.p) h.nd hw]at this;exact this
structure E4(o:Obj)(H:Hp)(md:Addr)(ws:List MW):Prop where
 hd:H md=some (.jm o (.dK (mT ws)))
 ht:∀w∈ws,H w.p=some (.tup [.str w.ab,.str w.kd,.int w.sh])
 nd:(ws.map (·.nm)).Nodup
theorem E4.same{o:Obj}{H H':Hp}{md:Addr}{ws:List MW}(h:E4 o H md ws)(s:bI H H'):E4 o H' md ws:=⟨s _ _ h.hd,fun w hw=>s _ _ (h.ht w hw),h.nd⟩
theorem E4.get{o:Obj}{H:Hp}{md:Addr}{ws:List MW}(h:E4 o H md ws){w:MW}(hw:w∈ws):ia H md (.str w.nm) (some (.ref w.p)):=.inl ⟨_,az w.nm,.inr ⟨o,h.hd⟩,rfl,(J6 (fun w=>.ref w.p) h.nd hw).symm⟩
def U5(D:TD)(ws:List MW):Prop:=∀z n,z≠road->bz D.ns z=some n->∃w∈ws,w.nm=z/\n.ab=some w.ab
inductive EN(vs:List V)(H:Hp)(Q:VK)(E:XK):Prop|mk (D:TD) (o:Obj) (md:Addr) (ws:List MW) (x:Str) (ys:List Str) (h1:vs=[.ref md,.str x]) (h2:E4 o H md ws) (h3:U5 D ws) (h4:D.Wf) (h5:Up D.ns x ys) (h6:ys.length<=900) (h7:∀l H',bI H H'->H l=none->H' l=some (.lst (ys.reverse.tail.map V.str))->Q (.ref l) H'):EN vs H Q E
include T in
theorem zuo:rM P w K mg base (eW P w) 1 "_law_way" ["_law_members_here","_law_name_here"] EN:=by
 refine T.yg.okN (k:=0) lu (fun vs H Q E h=>?_) (fun f b9 A outer s H vs Q E hr h=>?_)
 ·obtain⟨D,_,md,ws,x,ys,rfl,_⟩:=h;rfl
 ·obtain⟨D,o,md,ws,x,ys,rfl,M,ab,W,U,yl,k⟩:=h;refine⟨_,(bS (gA (i:=2) lu.nd rfl (Dg bB)) (bS (KH PassesOwn.never (j7 sW (pv 1) kY (jL _)) (bS (gA (i:=2) lu.nd rfl (aM Tv (Dg (aL (pv 1) bB)) (pv 2))) (c8 (gA (i:=1) lu.nd rfl (bG (jb K rfl) (o8 (bY hr) (pv 0) (pv 1) (fun _ _=>rfl)) bP (fun _ _=>rfl)))))) (c8 (gS (pv 2))))),?_⟩;show dG _ _ _ [some (.ref md),some (.str x),none] H;walk_at"s";intro l hl;have s0:=fZ (o:=.lst []) hl;refine hR _ _ ?_;clear hR;refine bM fun R hR=>?_;refine Pd (fun m σ H'=>∃(c:Str)(cs ts:List Str)(l:Addr),σ=[some (.ref md),some (.str c),some (.ref l)]/\bI H H'/\H l=none/\H' l=some (.lst (ts.map V.str))/\Up D.ns c cs/\ys.reverse.tail=cs.reverse.tail++ts/\ts.length<=ys.length/\m=cs.length) ⟨x,ys,[],l,rfl,s0,hl,bR,U,by simp,by simp,rfl⟩ ?_;rintro m σ H1 ⟨c,cs,ts,l1,rfl,s1,f1,h1,Uc,et,tl,rfl⟩;by_cases cr:c=road
  ·refine⟨false,fun Q hQ=>?_,fun z=>(by cases z),fun _=>?_⟩
   ·walk_at"rd";rw[decide_eq_true (show c=Str.ofString "road"by rw[cr];rfl)];exact hQ
   ·subst cr;obtain⟨n0,e1,e2,_⟩:=W.Mw;rw[<-(Up.top e1 e2).det Uc]at et;refine hR _ _ ?_;walk_at"rd";exact k l1 _ s1 f1 (by rw[et];exact h1)
  ·refine⟨true,fun Q hQ=>?_,fun _=>?_,fun z=>by cases z⟩
   ·walk_at"rd";rw[decide_eq_false (show ¬c=Str.ofString "road"from cr)];exact hQ
   ·obtain⟨n,hn⟩:=Uc.Ho;obtain⟨w,hw,we,wa⟩:=ab c n cr hn;cases Uc with
    |top q1 q2=>rw[hn]at q1;cases q1;rw[wa]at q2;cases q2
    | @on _ y _ P5 q1 q2 q3=>
     rw[hn]at q1;cases q1
     rw[wa]at q2;cases q2
     have M1:=M.same s1;walk_at"s";intro p2 f2;have s2:=fZ (o:=.lst [V.str c]) f2;refine⟨p2,l1,_,_,rfl,rfl,bR,s2 _ _ h1,oF (Fx (by rw[ae];show 1+ts.length<=_;omega)),fun p3 f3=>hR _ _ ?_⟩;clear hR;have s3:=s2.trans (fZ (o:=.lst ([V.str c]++ts.map V.str)) f3);have M3:=M1.same s3;have f30:H p3=none:=by
      cases e:H p3 with
      |none=>rfl
      |some o=>rw[s2 _ _ (s1 _ _ e)]at f3;cases f3
     have Vh:ys.reverse.tail=P5.reverse.tail++(c::ts):=by obtain⟨zs,ez⟩:=q3.last W.ra;rw[et,ez];simp
     have tl':(c::ts).length<=ys.length:=by have:=congrArg gG Vh;rw[jR,dI,bF]at this;omega
     have dg:=M3.get hw;rw[we]at dg;walk_at"rd";refine⟨_,dg,jc (.of (M3.ht w hw)) (v:=.str w.ab) rfl ?_⟩;exact⟨P5.length,by simp,w.ab,rfl,s1.trans s3,f30,P5,c::ts,bR,q3,Vh,tl',rfl⟩
theorem JA{q:Rat}{n d:Int}(hd:d≠0)(h:q*(d:Rat)=(n:Rat)):q.num*d=(q.den:Int)*n:=Sw.BR hd (by rw[<-h,jh,Rat.mul_assoc,lY _ (Sw.cy hd),Rat.mul_one])
theorem ZE{n:Nat}{all s most tl:Int}(hs:1<=s)(ha:0<all):jE n all s most tl ((most:Rat) / (s:Rat))*(all:Rat)=(((((n:Int)-1)*most*s+(all-s)*(most+tl*s):Int)):Rat):=by have s1:=lY _ (Sw.cy (show s≠0 by omega));have a1:=lY _ (Sw.cy (show all≠0 by omega));unfold jE;rw[jh,jh,gg,aG (((n:Int)-1)*most) s,aG (all-s) (most+tl*s),gg most,aG tl s];generalize((((n:Int)-1)*most:Int):Rat)=X;generalize((all-s:Int):Rat)=Y;generalize(s:Rat)=c at s1⊢;generalize(all:Rat)=e at a1⊢;generalize c⁻¹=c' at s1⊢;generalize e⁻¹=e' at a1⊢;generalize(most:Rat)=m;generalize(tl:Rat)=u;grind
theorem zup{g d p l:Rat}{g0 g1 d0 d1 s all l0 l1:Int}(hg:g*(g1:Rat)=(g0:Rat))(hd:d*(d1:Rat)=(d0:Rat))(hp:p*(all:Rat)=(s:Rat))(hl:l*(l1:Rat)=(l0:Rat)):g*p*((g1*all:Int):Rat)=((g0*s:Int):Rat)/\(p*d+l)*((d1*all*l1:Int):Rat)=((d0*s*l1+l0*(d1*all):Int):Rat):=by rw[aG,aG,aG,aG,gg,aG,aG,aG,aG];generalize(g1:Rat)=a1 at hg⊢;generalize(g0:Rat)=a0 at hg⊢;generalize(d1:Rat)=b1 at hd⊢;generalize(d0:Rat)=b0 at hd⊢;generalize(all:Rat)=c1 at hp⊢;generalize(s:Rat)=c0 at hp⊢;generalize(l1:Rat)=e1 at hl⊢;generalize(l0:Rat)=e0 at hl⊢;constructor <;> grind
def Ji(i:Int):Str:=⟨#[lets.cps.toList.getD i.toNat 97]⟩
def pF(c:Int):Nat->Str
 |0=>Str.ofString ""
 |j+1=>pF c j++Ji (tX c (j:Int) % 26)
def qS(n:Nat):Str:=⟨#[(Str.ofString "qwetyuis").cps.toList.getD n 113]⟩
def gE(c:Int)(n:Nat):Str:=if c % 3=1 then Txt.mul (Str.ofString "z") ((n:Int)+1)else Txt.slice (pF c (c / 3 % 7).toNat) none (some (c / 21 % (((pF c (c / 3 % 7).toNat).length:Int)+1)))++qS n++Txt.slice (pF c (c / 3 % 7).toNat) (some (c / 21 % (((pF c (c / 3 % 7).toNat).length:Int)+1))) none
def xC(n:Nat)(z:Str):Prop:=(∀c∈z.cps.toList,c∈lets.cps.toList)/\z.length<=n
theorem KQ(y z:Str):(y++z).cps.toList=y.cps.toList++z.cps.toList:=by show(y.cps++z.cps).toList=_;rw[Array.toList_append]
theorem KR(y z:Str):(y++z).length=y.length+z.length:=by show(y.cps++z.cps).size=_;rw[Array.size_append];rfl
theorem xC.app{m n:Nat}{y z:Str}(h:xC m y)(g:xC n z):xC (m+n) (y++z):=by refine⟨fun c hc=>?_,by rw[KR];have:=h.2;have:=g.2;omega⟩;rw[KQ]at hc;exact(ay.mp hc).elim (h.1 c) (g.1 c)
theorem xC.slice{n:Nat}{z:Str}(h:xC n z)(lo hi:Option Int):xC n (Txt.slice z lo hi):=by
 refine⟨?_,bO (Txt.slice_le z lo hi) h.2⟩;unfold Txt.slice;split
 ·exact h.1
 ·intro c hc;have hc:c∈yz (fun x=>z.cps[x]?) (Builtin.Str.strSliceIndices lo hi 1 z.length):=by simpa using hc
  obtain⟨i,_,e⟩:=eU.mp hc;exact h.1 c (Cq.mpr (Array.mem_of_getElem? e))
theorem S0(i:Int)(h0:0<=i)(h1:i<26):xC 1 (Ji i):=by
 refine⟨fun c hc=>?_,aq _⟩;have:c=lets.cps.toList.getD i.toNat 97:=by simpa [Ji]using hc
 rw[this];have ll:lets.cps.toList.length=26:=by decide+kernel
 rw[dR,aU (by omega)];exact nv _
theorem Ph(c:Int):∀j,xC j (pF c j)
 |0=>⟨fun d hd=>absurd (show d∈(Str.ofString "").cps.toList from hd) (by rw[show(Str.ofString "").cps.toList=[]by decide+kernel];exact bf),by show(Str.ofString "").length<=0;decide+kernel⟩
 |j+1=>(Ph c j).app (S0 _ (aZ _ (by decide)) (aS _ (by decide)))
theorem Ry:∀n∈lR 8,(∀c∈(qS n).cps.toList,c∈lets.cps.toList/\c∉road.cps.toList/\c∉(Str.ofString "band").cps.toList)/\∀k∈lR 8,qS n=qS k->n=k:=by decide+kernel
theorem R3:∀n∈lR 8,xu (Txt.mul (Str.ofString "z") ((n:Int)+1))/\Txt.mul (Str.ofString "z") ((n:Int)+1)≠road/\Txt.mul (Str.ofString "z") ((n:Int)+1)≠Str.ofString "band"/\∀k∈lR 8,Txt.mul (Str.ofString "z") ((n:Int)+1)=Txt.mul (Str.ofString "z") ((k:Int)+1)->n=k:=by decide+kernel
theorem S6{y z:Str}(h:y.cps.toList=z.cps.toList):y=z:=by
 cases y;cases z
 congr;exact Array.ext' h
theorem S7{c:Int}{n:Nat}(h:n<8):xu (gE c n)/\gE c n≠road/\gE c n≠Str.ofString "band"/\∀k,k<8->gE c n=gE c k->n=k:=by
 have hn:=jw.mpr h;unfold gE;by_cases z:c % 3=1
 ·obtain⟨a,b,d,e⟩:=R3 n hn;simp only[if_pos z];exact⟨a,b,d,fun k hk q=>e k (jw.mpr hk) q⟩
 ·simp only[if_neg z];have wl:=(Ph c (c / 3 % 7).toNat);have b0:=aZ (c / 3) (show(7:Int)≠0 by decide);have b1:=aS (c / 3) (show(0:Int)<7 by decide);generalize pF c (c / 3 % 7).toNat=w at wl⊢;have p0:=aZ (c / 21) (show(w.length:Int)+1≠0 by omega);have p1:=aS (c / 21) (show 0<(w.length:Int)+1 by omega);generalize c / 21 % ((w.length:Int)+1)=pl at p0 p1;obtain⟨qa,qb⟩:=Ry n hn;have wle:=wl.2;have wc:w.cps.toList.length=w.length:=by simp[Str.length]
  have l1:(Txt.slice w none (some pl)).length<=pl.toNat:=by rw[beq_iff_eq.mp (slice_closes_to (x:=w) (j:=pl) ⟨p0,by omega⟩)];show(List.toArray _).size<=_;simp;omega
  have l2:(Txt.slice w (some pl) none).length<=w.length-pl.toNat:=by rw[slice_from_eq (x:=w) (i:=pl) (b:=w.length) p0 (by omega) rfl];show(List.toArray _).size<=_;simp;omega
  have s1:=wl.slice none (some pl);have s2:=wl.slice (some pl) none;generalize Txt.slice w none (some pl)=A at l1 s1;generalize Txt.slice w (some pl) none=B at l2 s2;have lq:(qS n).length=1:=rfl;have VZ:∀y:Str,A++qS n++B=y->∀d∈(qS n).cps.toList,d∈y.cps.toList:=fun y e d hd=>by rw[<-e,KQ,KQ];exact eZ _ (aI _ hd)
  have q1:(Str.ofString "qwetyuis").cps.toList.getD n 113∈(qS n).cps.toList:=by simp[qS]
  refine⟨⟨⟨by rw[KR,KR];omega,by rw[KR,KR];omega⟩,fun d hd=>?_⟩,fun e=>(qa _ q1).2.1 (VZ _ e _ q1),fun e=>(qa _ q1).2.2 (VZ _ e _ q1),fun k hk e=>qb k (jw.mpr hk) (S6 ?_)⟩
  ·rw[KQ,KQ]at hd;rcases ay.mp hd with q|q
   ·rcases ay.mp q with q|q
    ·exact s1.1 d q
    ·exact(qa d q).1
   ·exact s2.1 d q
  ·have:=congrArg (fun y:Str=>y.cps.toList) e;simp only[KQ]at this;exact List.append_cancel_left (List.append_cancel_right this)
theorem zzv{H:Hp}{Q:VK}(z:Str){i:Int}(h0:0<=i)(h1:i<z.length)(hz:z.length<=1000)(d:Nat)(k:Q (.str ⟨#[z.cps.toList.getD i.toNat d]⟩) H):Mr (.str z) (.int i) H Q:=by
 have hl:z.cps.toList.length=z.length:=by simp[Str.length]
 have lt:i.toNat<z.cps.toList.length:=by omega
 have e:=KO (xs:=z.cps.toList) (j:=i.toNat) (aU lt);rw[rQ h0]at e;have hs:sizeLine=16777216:=sizeLine_eq;rw[dR,aU lt]at k;exact⟨z,i,_,rfl,rfl,by omega,e,k⟩
def S8:Sp:=fun vs H Q _=>∃(c:Int)(n:Nat),vs=[.int c,.int (n:Int)]/\n<8/\Q (.str (gE c n)) H
include T in
theorem zrv:rM P w K mg base (eW P w) 2 "_law_name" ["_law_cell","_law_k"] S8:=by
 have gT:=Ur P w base T;refine T.wo.okN (k:=1) iY (fun vs H Q E h=>?_) (fun f b9 A outer s H vs Q E hr h=>?_)
 ·obtain⟨c,n,rfl,_⟩:=h;rfl
 ·obtain⟨c,n,rfl,n8,k⟩:=h;refine⟨_,(bS (dW (j7 ji (aM rE (pv 0) bP) bP (jL _)) (c8 (gS (aM Su kY (aM sL (pv 1) bP)))) kX) (bS (gA (i:=2) iY.nd rfl kY) (bS (DE PassesOwn.never rfl (Yv rfl T.zK (aL (aM rE (aM Af (pv 0) bP) bP) bB)) (nZ (i:=3) iY.nd rfl (by first|left;rfl|right;rfl)) (c8 (gA (i:=2) iY.nd rfl (aM Us (pv 2) (bG zza kY (aM rE (ja gT (hr.mono (by decide)) rfl aT (aL (pv 0) (aL (pv 3) bB))) bP) (fun _ _=>rfl)))))) (bS (gA (i:=4) iY.nd rfl (aM rE (aM Af (pv 0) bP) (aM sL (rC XF rfl T.jo boot_len (aL (pv 2) bB)) bP))) (c8 (gS (aM Us (aM Us (OW zzk (pv 2) UF (NB (pv 4))) (bG zza kY (pv 1) (fun _ _=>rfl))) (OW zzk (pv 2) (NB (pv 4)) UF)))))))),?_⟩;show dG _ _ _ [some (.int c),some (.int (n:Int)),none,none,none] H;unfold gE at k;walk_at"s";refine fX (fun c1=>?_) fun c1=>hR _ _ ?_
  ·rw[if_pos c1]at k;exact⟨_,_,rfl,rfl,by omega,by omega,by decide+kernel,k⟩
  clear hR;rw[if_neg c1]at k;walk_at"s";refine hR _ _ ?_;clear hR;refine bM fun R hR=>?_;refine DB fun Z hZ=>?_;walk_at"rd";have n0:=aZ (c / 3) (show(7:Int)≠0 by decide);have n1:=aS (c / 3) (show(0:Int)<7 by decide);refine⟨by omega,by omega,hZ _ _ ?_⟩;clear hZ;have hs:sizeLine=16777216:=sizeLine_eq;refine Yw (fun i σ H'=>H'=H/\∃v3,σ=[some (.int c),some (.int (n:Int)),some (.str (pF c i)),v3,none]) ⟨rfl,none,rfl⟩ ?_ ?_
  ·rintro i σ H1 hi ⟨rfl,v3,rfl⟩;show wu _ _ _ [some (.int c),some (.int (n:Int)),some (.str (pF c i)),some (.int (0+(i:Int))),none] H1;rw[Int.zero_add];refine An fun N hN=>?_;walk_at"rd";have wl:=(Ph c i).2;refine⟨c,i,rfl,⟨by omega,by omega⟩,fun _ _=>⟨_,rfl,?_⟩⟩;refine zzv _ (aZ _ (by decide)) (FF (aS _ (by decide)) (by decide+kernel)) (by decide+kernel) 97 ⟨_,rfl,by show _+1<=_;omega,hN _ _ ⟨rfl,_,rfl⟩⟩
  ·rintro σ H1 ⟨rfl,v3,rfl⟩;refine hR _ _ ?_;clear hR;have wl:=(Ph c (c / 3 % 7).toNat).2;generalize pF c (c / 3 % 7).toNat=w at wl k⊢;walk_at"s";refine⟨by omega,by omega,hR _ _ ?_⟩;clear hR;walk_at"rd";generalize c / 21 % ((w.length:Int)+1)=pl at k⊢;have s1:=Txt.slice_le w none (some pl);have s2:=Txt.slice_le w (some pl) none;have lq:(qS n).length=1:=rfl;refine⟨w,rfl,by omega,zzv _ (by omega) (FF (show(n:Int)<8 by omega) (by decide+kernel)) (by decide+kernel) 113 ⟨_,rfl,_,rfl,?_,w,rfl,by omega,_,rfl,?_,k⟩⟩
   ·show _+1<=_;omega
   ·show(Txt.slice w none (some pl)++qS n).length+_<=_;rw[KR];omega
abbrev Sg:=Str×Option Str×Option (Bool×Nm)
def gJ:Str:=Str.ofString "leaf"
def o6:Str:=Str.ofString "rounds"
def xX:b5->Bool
 | .st ..=>false
 | .rd ..=>true
def iF(n:ND):Sg:=(n.nm,n.ab,n.ch.map fun c=>(xX c.2,c.2.nm))
def eL(ws:List MW)(y:Str):Nm:=(ws.filter fun w=>decide (w.ab=y)).map fun w=>(w.nm,w.sh)
def Ff(ws:List MW)(w:MW):Sg:=(w.nm,some w.ab,if w.kd=gJ then none else some (decide (w.kd=o6),eL ws w.nm))
def C0(rk:Bool)(ws:List MW):List Sg:=(road,none,some (rk,eL ws road))::ws.map (Ff ws)
def Quiet(m:Int):b5->Prop
 | .st nm _ gs _ _ _=>∀x s,aP nm x=some s->(gs x).getD 0<=(m:Rat) / (s:Rat)
 | .rd ..=>True
structure LJ(rk:Bool)(qt:Prop)(i v:Nat)(D:TD)(ws:List MW):Prop where
 Y:D.Dy D.tm v
 nb:yV D
 sg:D.ns.map iF=C0 rk ws
 qu:qt->∀n∈D.ns,∀c,n.ch=some c->Quiet D.most c.2
 rm:∀n∈D.ns,n.rm= .b7
 t0:0<=D.tm
 fb:D.fr<=D.tm+1000000
 wc:dh D.ns+D.gs.length<=i
theorem UT{ns:List ND}(nn:(ns.map (·.nm)).Nodup){n n':ND}(hn:n∈ns)(e:n'.nm=n.nm)(f:Sg->Sg)(h1:iF n'=f (iF n))(h2:∀y∈ns,y.nm≠n.nm->f (iF y)=iF y):(dF ns n').map iF=(ns.map iF).map f:=by
 unfold dF;rw[bg,bg];refine aO fun y hy=>?_;show iF (if y.nm=n'.nm then n' else y)=f (iF y);by_cases q:y.nm=n.nm
 ·have a:=sN nn hy;rw[q,sN nn hn]at a;rw[if_pos (q.trans e.symm),h1,ak a]
 ·rw[if_neg (by rw[e];exact q),h2 y hy q]
theorem S9(c:b5)(x:Str)(s:Int):xX (c.put x s)=xX c:=by cases c <;> rfl
theorem zyv(c:b5)(m:Int)(x:Str)(s:Int):xX (c.gH m x s)=xX c:=by cases c <;> rfl
theorem zxj(b:Bool):xX (b5.new b)=b:=by cases b <;> rfl
theorem Ua(m:Int)(R:Str->Prop)(len:Int)(c:b5):xX (c.go m R len)=xX c:=by
 unfold b5.go;split
 ·cases c <;> rfl
 ·rfl
theorem Ub(m:Int)(R:Str->Prop)(S:List Str)(t len:Int)(n:ND):iF (stN m R S t len n)=iF n:=by
 unfold L2.stN;split
 ·unfold iF;cases h:n.ch with
  |none=>rfl
  |some c=>
   show(n.nm,n.ab,some (xX (c.2.go m R len),(c.2.go m R len).nm))=_;rw[Hr,Ua];rfl
 ·rfl
theorem U4{a b s:Int}(h:a<=b)(hs:1<=s):(a:Rat) / (s:Rat)<=(b:Rat) / (s:Rat):=by have s0:(0:Rat)<(s:Rat):=Rat.intCast_pos.mpr (by omega);rw[jh,jh];exact j0 (bX.mpr h) (uE (Rat.inv_pos.mpr s0))
theorem Quiet.go{m:Int}{R:Str->Prop}{len:Int}{c:b5}(h:Quiet m c)(g:At c.nm)(l:len<=m):Quiet m (c.go m R len):=by
 unfold b5.go;split
 ·rename_i z _
  cases c with
  |rd=>trivial
  |st nm tg gs ck ch N=>
   intro x s hs;show(gY gs z _ x).getD 0<=_;unfold gY;by_cases e:x=z
   ·subst e;have hs:aP nm x=some s:=hs;rw[if_pos rfl,hs];show max ((gs x).getD 0) ((len:Rat) / (s:Rat))<=_;rw[gI];split
    ·exact U4 l (g.sh x s hs).1
    ·exact h x s hs
   ·rw[if_neg e];exact h x s hs
 ·exact h
section
variable{rk:Bool}{qt:Prop}{i v:Nat}{D D':TD}{ws:List MW}
theorem LJ.runs{t:Int}(L:LJ rk qt i v D ws)(h:Runs t D D')(tt:D.tm<=t):LJ rk qt i v {D' with tm:=t} ws/\D'.p=D.p/\D'.most=D.most:=by
 have key:=h.keep (I:=fun D'=>(∃τ,D'.Dy τ v)/\yV D'/\D'.ns.map iF=C0 rk ws/\(qt->∀n∈D'.ns,∀c,n.ch=some c->Quiet D'.most c.2)/\(∀n∈D'.ns,n.rm= .b7)/\D'.tm=D.tm/\D'.p=D.p/\D'.most=D.most/\D'.fr<=t+1000000/\dh D'.ns+D'.gs.length<=i) ⟨⟨_,L.Y⟩,L.nb,L.sg,L.qu,L.rm,rfl,rfl,rfl,by have:=L.fb;omega,L.wc⟩ (by
  rintro D1 a y pre g p ⟨⟨τ,Y⟩,nb,sg,qu,rm,e1,e2,e3,fb,wc⟩ nx at' G;have Y0:D1.Dy a v:=⟨Y.W,Y.fin,fun n hn b hb=>(by rw[nb n hn]at hb;cases hb),Y.lv,Y.qu,Y.CA,Y.ln,Y.vl⟩;obtain⟨ny,_,hy,_,hqy,_⟩:=G.q;have gb:=Y.qu ny (jK hy).1 g (by rw[hqy];exact aj ..);have m6:=Y.W.m1.2;obtain⟨Y1,wl⟩:=G.dy Y0 (gi _) p;refine⟨⟨a,Y1⟩,UD nb _ _ _ _ _ _,?_,fun q n hn c hc=>?_,fun n hn=>?_,e1,e2,e3,by show a+g.2<=_;omega,?_⟩
  ·rw[<-sg];show(D1.ns.map _).map iF=_;rw[bg];exact aO fun z _=>Ub ..
  ·obtain⟨m0,Ly,rfl⟩:=av.mp hn;unfold L2.stN at hc;split at hc
   ·cases h0:m0.ch with
    |none=>rw[h0]at hc;cases hc
    |some c0=>
     rw[h0]at hc;cases hc
     exact(qu q m0 Ly c0 h0).go (Y.W.k9 m0 Ly c0 h0).F6 gb.2
   ·exact qu q m0 Ly c hc
  ·obtain⟨m0,Ly,rfl⟩:=av.mp hn;rw[(MZ m0).2.2];exact rm m0 Ly
  ·have:(D1.step (fO D1 a) (y::pre) y a g p).gs.length=D1.gs.length+1:=by show(D1.gs++[_]).length=_;rw[bF];rfl
   omega)
 obtain⟨⟨τ,Y⟩,nb,sg,qu,rm,e1,e2,e3,fb,wc⟩:=key;have W:=Y.W;exact⟨⟨⟨⟨W.nn,W.rd,W.ra,W.up,W.Al,W.lf,W.k9,W.m1,W.HJ⟩,Y.fin,fun n hn b hb=>(by rw[nb n hn]at hb;cases hb),Y.lv,Y.qu,Y.CA,Y.ln,Y.vl⟩,nb,sg,qu,rm,by have:=L.t0;show 0<=t;omega,fb,wc⟩,e2,e3⟩
theorem LJ.oO(L:LJ rk qt i v D ws)(i9:i<120){x:Str}{n:ND}(hn:bz D.ns x=some n)(hc:n.ch=none){q:Addr}{len:Int}(lb:1<=len/\len<=D.most):LJ rk qt (i+1) v (TD.oO D n q len) ws:=by
 obtain⟨gf,ne⟩:=jK hn;have wc:=L.wc;have mem:∀y∈(TD.oO D n q len).ns,y={n with ps:=n.ps++[q],qu:=n.qu++[(D.ct,len)]}\/y∈D.ns:=fun y hy=>(Il hy).imp id fun z=>z.1;refine⟨SY L.Y hn hc lb (by omega),fun y hy=>?_,?_,fun k y hy c e=>?_,fun y hy=>?_,L.t0,L.fb,?_⟩
 ·rcases mem y hy with z|z
  ·rw[z];exact L.nb n gf
  ·exact L.nb y z
 ·rw[<-L.sg,<-j9 (D.ns.map iF)];exact UT L.Y.W.nn gf (n':={n with ps:=n.ps++[q],qu:=n.qu++[(D.ct,len)]}) rfl id rfl fun _ _ _=>rfl
 ·rcases mem y hy with z|z
  ·rw[z]at e;exact L.qu k n gf c e
  ·exact L.qu k y z c e
 ·rcases mem y hy with z|z
  ·rw[z];exact L.rm n gf
  ·exact L.rm y z
 ·have:=Yt (q:=q) (len:=len) L.Y hn;show dh (TD.oO D n q len).ns+D.gs.length<=i+1;omega
theorem ZF(x:Str)(s:Int)(q:Addr)(y:Str)(ws:List MW):eL (ws.map fun w=>if w.nm=x then{w with sh:=s,p:=q}else w) y=putN (eL ws y) x s:=by
 induction ws with
 |nil=>rfl
 |cons w r ih=>
  unfold eL L2.putN at ih⊢;rw[au,gx,gx];have ea:(if w.nm=x then{w with sh:=s,p:=q}else w).ab=w.ab:=by split <;> rfl
  rw[ea];by_cases h:w.ab=y
  ·rw[if_pos (decide_eq_true h),if_pos (decide_eq_true h),au,au,au,ih];by_cases e:w.nm=x
   ·rw[if_pos e,if_pos e]
   ·rw[if_neg e,if_neg e]
  ·rw[if_neg (by rw[decide_eq_true_iff];exact h),if_neg (by rw[decide_eq_true_iff];exact h),ih]
theorem LJ.gH(L:LJ rk qt i v D ws)(nq:¬qt){x:Str}{n un:ND}{c:lz×b5}{s:Int}(hx:bz D.ns x=some n)(ha:n.ab=some un.nm)(hu:un∈D.ns)(hc:un.ch=some c)(sx:aP c.2.nm x≠none)(s0:1<=s/\s<=1000000)(q:Addr):LJ rk qt i v (D.gH un c x s) (ws.map fun w=>if w.nm=x then{w with sh:=s,p:=q}else w):=by
 have W:=L.Y.W;have mem:∀y∈(D.gH un c x s).ns,y={un with ch:=some (c.1,c.2.gH D.most x s)}\/y∈D.ns:=fun y hy=>(Il hy).imp id fun z=>z.1;have wl:=UB W.nn (n':={un with ch:=some (c.1,c.2.gH D.most x s)}) hu rfl (aq _);have wl:dh (D.gH un c x s).ns<=dh D.ns:=wl;have Y:=L.Y;have wc:=L.wc;have CA:=Y.CA;refine⟨⟨W.gH hu hc sx s0.1 s0.2,fun y hy d hd=>?_,fun y hy b hb=>?_,fun y hy hq=>?_,fun y hy g hg=>?_,by show dh (D.gH un c x s).ns+D.gs.length<=120;omega,?_,Y.vl⟩,fun y hy=>?_,?_,fun z=>absurd z nq,fun y hy=>?_,L.t0,L.fb,by show dh (D.gH un c x s).ns+D.gs.length<=i;omega⟩
 ·rcases mem y hy with z|z
  ·rw[z]at hd;cases hd
   obtain⟨f1,f2⟩:=Y.fin un hu c hc;refine⟨f1.gH D.most x s,?_⟩;have:(c.2.gH D.most x s).sz=c.2.sz:=by
    cases c.2 with
    |st=>rfl
    |rd nm q rs tu ch=>show(putN nm x s).length=nm.length;unfold L2.putN;rw[ae]
   show(c.2.gH D.most x s).sz<=_;rw[this];exact f2
  ·exact Y.fin y z d hd
 ·rcases mem y hy with z|z
  ·rw[z]at hb;exact Y.bk un hu b hb
  ·exact Y.bk y z b hb
 ·rcases mem y hy with z|z
  ·rw[z]at hq;have:=Y.lv un hu hq;rw[hc]at this;cases this
  ·exact Y.lv y z hq
 ·rcases mem y hy with z|z
  ·rw[z]at hg;exact Y.qu un hu g hg
  ·exact Y.qu y z g hg
 ·show(dF D.ns _).length<=60;unfold dF;rw[ae];exact Y.ln
 ·rcases mem y hy with z|z
  ·rw[z];exact L.nb un hu
  ·exact L.nb y z
 ·show(dF D.ns _).map iF=_;rw[UT W.nn hu (n':={un with ch:=some (c.1,c.2.gH D.most x s)}) rfl (fun z=>(z.1,z.2.1,z.2.2.map fun k=>(k.1,putN k.2 x s))) ?_ fun y hy yu=>?_,L.sg]
  ·unfold C0;rw[au,bg,bg,ZF];congr 1;refine aO fun w _=>?_;show _=Ff _ (if w.nm=x then _ else w);unfold Ff;rw[ZF];by_cases e:w.nm=x
   ·rw[if_pos e];show(w.nm,some w.ab,_)=(w.nm,some w.ab,_);by_cases l:w.kd=gJ
    ·simp[l]
    ·simp[l]
   ·rw[if_neg e];by_cases l:w.kd=gJ
    ·simp[l]
    ·simp[l]
  ·show(un.nm,un.ab,some (xX (c.2.gH D.most x s),(c.2.gH D.most x s).nm))=_;rw[b5.BJ,zyv];unfold iF;rw[hc];rfl
  ·unfold iF;cases h:y.ch with
   |none=>rfl
   |some d=>
    have:putN d.2.nm x s=d.2.nm:=by
     unfold L2.putN;refine(aO fun p hp=>?_).trans (j9 _);rw[if_neg];rfl;intro e;have z:p.1∈iD D.ns y.nm:=by rw[<-W.Al y hy d h];exact av.mpr ⟨p,hp,rfl⟩
     obtain⟨m,hm,am⟩:=UO W.nn z;rw[e,hx]at hm;cases hm
     rw[ha]at am;exact yu (ak am).symm
    show(y.nm,y.ab,some (xX d.2,putN d.2.nm x s))=_;rw[this];rfl
 ·rcases mem y hy with z|z
  ·rw[z];exact L.rm un hu
  ·exact L.rm y z
theorem LJ.node(L:LJ rk qt i v D ws){w:MW}(hw:w∈ws):∃n,bz D.ns w.nm=some n/\iF n=Ff ws w/\w.nm≠road:=by
 have:Ff ws w∈D.ns.map iF:=by rw[L.sg];exact ai _ (av.mpr ⟨w,hw,rfl⟩)
 obtain⟨n,hn,e⟩:=av.mp this;have f:=sN L.Y.W.nn hn;rw[show n.nm=w.nm from congrArg (·.1) e]at f;refine⟨n,f,e,fun z=>?_⟩;obtain⟨n0,h0,h1,_⟩:=L.Y.W.Mw;rw[z,h0]at f;cases f
 have:=congrArg (·.2.1) e;rw[show(iF n).2.1=n.ab from rfl,h1]at this;cases this
theorem LJ.of(L:LJ rk qt i v D ws){n:ND}(hn:n∈D.ns):(n.nm=road/\iF n=(road,none,some (rk,eL ws road)))\/∃w∈ws,iF n=Ff ws w:=by
 have:iF n∈C0 rk ws:=by rw[<-L.sg];exact av.mpr ⟨n,hn,rfl⟩
 rcases ao.mp this with e|e
 ·exact .inl ⟨congrArg (·.1) e,e⟩
 ·obtain⟨w,hw,e⟩:=av.mp e;exact .inr ⟨w,hw,e.symm⟩
theorem LJ.abs(L:LJ rk qt i v D ws):U5 D ws:=fun z n nr hz=>by
 obtain⟨gf,ne⟩:=jK hz;rcases L.of gf with⟨e,_⟩ |⟨w,hw,e⟩
 ·exact absurd (ne.symm.trans e) nr
 ·exact⟨w,hw,(congrArg (·.1) e).symm.trans ne,congrArg (·.2.1) e⟩
theorem LJ.Oq(L:LJ rk qt i v D ws):D.ns.map (·.nm)=road::ws.map (·.nm):=by have:=congrArg (List.map (·.1)) L.sg;unfold C0 at this;rw[bg,au,bg]at this;exact this
theorem LJ.over(L:LJ rk qt i v D ws){w:MW}(hw:w∈ws):∃n un c,bz D.ns w.nm=some n/\n.ab=some un.nm/\un∈D.ns/\un.ch=some c/\un.nm=w.ab/\c.2.nm=eL ws w.ab/\aP c.2.nm w.nm=some w.sh/\∀k,(w.ab=road->k=rk)->(∀u∈ws,u.nm=w.ab->k=decide (u.kd=o6))->k=xX c.2:=by
 obtain⟨n,hn,e,nr⟩:=L.node hw;have W:=L.Y.W;obtain⟨un,c,ha,gZ,hu,hc,sx⟩:=W.above nr hn;have ea:un.nm=w.ab:=ak (ha.symm.trans (congrArg (·.2.1) e));have sg:iF un=(un.nm,un.ab,some (xX c.2,c.2.nm)):=by unfold iF;rw[hc];rfl
 have key:c.2.nm=eL ws w.ab/\∀k,(w.ab=road->k=rk)->(∀u∈ws,u.nm=w.ab->k=decide (u.kd=o6))->k=xX c.2:=by
  rcases L.of gZ with⟨e1,e2⟩ |⟨y,hy,e2⟩
  ·rw[sg]at e2;have e3:=ak (congrArg (·.2.2) e2);rw[<-ea,e1];exact⟨congrArg (·.2) e3,fun k h _=>(h rfl).trans (congrArg (·.1) e3).symm⟩
  ·rw[sg]at e2;have ey:y.nm=w.ab:=(congrArg (·.1) e2).symm.trans ea;have e3:some (xX c.2,c.2.nm)=if y.kd=gJ then none else some (decide (y.kd=o6),eL ws y.nm):=congrArg (·.2.2) e2
   split at e3
   ·cases e3
   ·have e3:=ak e3;rw[ey]at e3;exact⟨congrArg (·.2) e3,fun k _ h=>(h y hy ey).trans (congrArg (·.1) e3).symm⟩
 refine⟨n,un,c,hn,ha,gZ,hc,ea,key.1,?_,key.2⟩;have nd:=(W.k9 un gZ c hc).F6.nd;rw[key.1]at nd⊢;exact UE nd (p:=(w.nm,w.sh)) (av.mpr ⟨w,dw.mpr ⟨hw,decide_eq_true rfl⟩,rfl⟩)
theorem UU(ws:List MW)(w:MW)(y:Str):eL (ws++[w]) y=eL ws y++if w.ab=y then[(w.nm,w.sh)]else[]:=by
 unfold eL;rw[fR,aA];congr 1;by_cases h:w.ab=y
 ·simp[h]
 ·simp[h]
theorem Quiet.put{m:Int}{c:b5}{x:Str}{s:Int}(h:Quiet m c)(hx:aP c.nm x=none)(m0:0<=m)(s0:1<=s):Quiet m (c.put x s):=by
 cases c with
 |rd=>trivial
 |st nm tg gs ck ch N=>
  intro y t e;have hx:aP nm x=none:=hx;rw[KL hx]at e;show(gY gs x 0 y).getD 0<=_;unfold gY;by_cases q:y=x
  ·rw[if_pos q]at e⊢;cases e
   have:=U4 m0 s0
   rwa [jh,show((0:Int):Rat)=0 from rfl,Rat.zero_mul]at this
  ·rw[if_neg q]at e⊢;exact h y t e
theorem LJ.put(L:LJ rk qt i v D ws)(wl:ws.length<50)(v9:v<50){w:MW}{C:Cl}{H H':Hp}(PO:mS C D w.nm w.ab w.kd w.sh .b7 H H' D')(du:lH D w.nm w.ab w.kd w.sh .b7=none):LJ rk qt i (v+1) D' (ws++[w]):=by
 have W:=L.Y.W;have nl:D.ns.length=ws.length+1:=by
  have:=congrArg gG L.Oq
  rwa [ae,bj,ae]at this
 have Y':=PO.dy du L.Y (by omega) (by omega);obtain⟨Hw,hx,⟨n0,Oh,ok,_,_⟩,sh⟩:=US du;obtain⟨un,c,n,rfl,hu,hc,h1,h2,h3,h4,h5,h6,h7,h8,h9,yG,Dr⟩:=PO;obtain⟨gZ,Fp⟩:=jK hu;have nx:aP c.2.nm n.nm=none:=by rw[Sw.j4,W.Al un gZ c hc,h1];intro z;obtain⟨m,hm,_⟩:=UO W.nn z;rw[hx]at hm;cases hm
 have mem:∀y∈(D.put un c w.sh n).ns,y={un with ch:=some (c.1,c.2.put n.nm w.sh)}\/y∈D.ns\/y=n:=fun y hy=>by
  rcases ay.mp hy with q|q
  ·rcases Il q with q|q
   ·exact .inl q
   ·exact .inr (.inl q.1)
  ·exact .inr (.inr (aC.mp q))
 refine⟨Y',fun y hy=>?_,?_,fun z y hy d hd=>?_,fun y hy=>?_,L.t0,L.fb,?_⟩
 ·rcases mem y hy with q|q|q
  ·rw[q];exact L.nb un gZ
  ·exact L.nb y q
  ·rw[q];exact h4
 ·show(dF D.ns _++[n]).map iF=_;rw[aA,UT W.nn gZ (n':={un with ch:=some (c.1,c.2.put n.nm w.sh)}) rfl (fun z=>(z.1,z.2.1,if w.ab=z.1 then z.2.2.map fun k=>(k.1,k.2++[(w.nm,w.sh)])else z.2.2)) ?_ fun y hy yu=>?_,L.sg]
  ·unfold C0;rw[aA,au,bg,gw];congr 1
   ·show(road,none,if w.ab=road then some (rk,eL ws road++[(w.nm,w.sh)])else some (rk,eL ws road))=_;rw[UU];by_cases q:w.ab=road
    ·rw[if_pos q,if_pos q]
    ·rw[if_neg q,if_neg q,bw]
   ·congr 1
    ·refine aO fun y _=>?_;show(y.nm,some y.ab,if w.ab=y.nm then jH _ (if y.kd=gJ then none else some (decide (y.kd=o6),eL ws y.nm))else if y.kd=gJ then none else some (decide (y.kd=o6),eL ws y.nm))=Ff _ y;unfold Ff;rw[UU];by_cases l:y.kd=gJ
     ·simp[l]
     ·by_cases q:w.ab=y.nm
      ·simp[l,q]
      ·simp[l,q]
    ·have k0:eL (ws++[w]) w.nm=[]:=by
      unfold eL;rw[DJ,Bj];intro y hy z;have z:y.ab=w.nm:=of_decide_eq_true z;rcases ay.mp hy with q|q
      ·obtain⟨_,m,_,_,_,mi,_,e,_⟩:=L.over q;have:=sN W.nn mi;rw[e,z,hx]at this;cases this
      ·rw[aC.mp q]at z;rw[z,hx]at hu;cases hu
     show[iF n]=[Ff _ w];unfold iF Ff;rw[h1,h2,k0];by_cases l:w.kd=gJ
     ·rw[h7 l,if_pos l];rfl
     ·have z:kj w.kd:=ok.resolve_left l;obtain⟨a,e⟩:=h8 z;rw[e,if_neg l];show[(w.nm,some w.ab,some (xX (b5.new (um w.kd)),(b5.new (um w.kd)).nm))]=_;rw[b5.x9,zxj];rfl
  ·show(un.nm,un.ab,some (xX (c.2.put n.nm w.sh),(c.2.put n.nm w.sh).nm))=(un.nm,un.ab,if w.ab=un.nm then jH _ (un.ch.map _)else _);rw[if_pos Fp.symm,hc,b5.Eo,S9,h1];rfl
  ·show(y.nm,y.ab,if w.ab=y.nm then _ else _)=_;rw[if_neg (fun q=>yu (q.symm.trans Fp.symm))];rfl
 ·rcases mem y hy with q|q|q
  ·rw[q]at hd;cases hd
   exact(L.qu z un gZ c hc).put nx (by have:=W.m1;show 0<=D.most;omega) sh.1
  ·exact L.qu z y q d hd
  ·rw[q]at hd;rcases ok with l|l
   ·rw[h7 l]at hd;cases hd
   ·obtain⟨a,e⟩:=h8 l;rw[e]at hd;cases hd
    show Quiet _ (b5.new (um w.kd));cases um w.kd with
    |true=>trivial
    |false=>intro x s e;cases e
 ·rcases mem y hy with q|q|q
  ·rw[q];exact L.rm un gZ
  ·exact L.rm y q
  ·rw[q];exact h3
 ·have:=UB W.nn (n':={un with ch:=some (c.1,c.2.put n.nm w.sh)}) gZ rfl (aq _);have e2:dh [n]=0:=by unfold dh;rw[au,jv,h6];rfl
  have wc:=L.wc;show dh (dF D.ns _++[n])+D.gs.length<=i;rw[Y7];omega
theorem ZG:∀{nm:Nm},(∀p∈nm,1<=p.2)->∀{q:Str×Int},q∈nm->q.2<=bu nm
 |[],_,q,h=>absurd h bf
 |p::r,h,q,hq=>by
  have h0:0<=bu r:=by
   have:∀l:Nm,(∀p∈l,1<=p.2)->0<=bu l:=fun l=>by
    induction l with
    |nil=>intro _;exact gi _
    |cons a t ih=>
     intro k;have:=ih fun z hz=>k z (ai _ hz);have:=k a (aj ..);unfold bu at*;rw[au,dU];omega
   exact this r fun z hz=>h z (ai _ hz)
  have e:bu (p::r)=p.2+bu r:=by unfold bu;rw[au,dU]
  rw[e];rcases ao.mp hq with z|z
  ·rw[z];omega
  ·have:=ZG (fun z hz=>h z (ai _ hz)) z;have:=h p (aj ..);omega
theorem UV{a s:Int}(h:0<=a)(hs:1<=s):0<=(a:Rat) / (s:Rat):=by
 have:=U4 h hs
 rwa [jh,show((0:Int):Rat)=0 from rfl,Rat.zero_mul]at this
theorem ZH{n:Nat}{all s most tl:Int}{st:Rat}(hn:1<=n)(hs:1<=s/\s<=all)(hm:0<=most)(ht:0<=tl)(h0:0<=st):0<=jE n all s most tl st:=by unfold jE;exact lZ (UV (by omega) (by omega)) (yX (tL.mpr (gB (by omega) hm)) (lZ (tL.mpr (by omega)) (yX h0 (tL.mpr ht))))
def JU(nm:Nm)(most s:Int)(k:Bool):Int:=((nm.length:Int)-1)*most*s+(bu nm-s)*(if k then most+most*s else most)
structure PK(rk:Bool)(qt:Prop)(D:TD)(ws:List MW)(w:MW)(p l:Rat):Prop where
 pl:PL D w.nm p l
 zp:Sw.eY 70 p
 zl:Sw.eY 360 l
 p0:0<=p
 l0:0<=l
 pa:p*(bu (eL ws w.ab):Rat)=(w.sh:Rat)
 sh:1<=w.sh/\w.sh<=1000000
 al:w.sh<=bu (eL ws w.ab)/\bu (eL ws w.ab)<1000000000000
 kl:1<=(eL ws w.ab).length/\(eL ws w.ab).length<=60
 tp:qt->∀k,(w.ab=road->k=rk)->(∀u∈ws,u.nm=w.ab->k=decide (u.kd=o6))->l*(bu (eL ws w.ab):Rat)=(JU (eL ws w.ab) D.most w.sh k:Rat)
theorem LJ.Rb(L:LJ rk qt i v D ws){w:MW}(hw:w∈ws):∃p l,PK rk qt D ws w p l:=by
 obtain⟨n,un,c,hn,ha,gZ,hc,ea,ec,hs,hk⟩:=L.over hw;have W:=L.Y.W;have k9:=W.k9 un gZ c hc;have kl:=W.lj gZ hc;have fl:=L.Y.ln;have m1:=W.m1;have g:=k9.F6;have al:=Pg g (by omega) hs;have sb:=g.sh _ _ hs;have nr:=(L.node hw).elim fun _ z=>z.2.2;obtain⟨p,l,pl,zp,zl⟩:=PL.of L.Y nr (by rw[hn];simp);obtain⟨e1,e2⟩:=PL.det W pl ⟨n,un,c,w.sh,hn,ha,gZ,hc,hs,rfl,rfl⟩;have wk:(w.nm,w.sh)∈eL ws w.ab:=av.mpr ⟨w,dw.mpr ⟨hw,decide_eq_true rfl⟩,rfl⟩;have k1:1<=(eL ws w.ab).length:=oh wk;have Hi:w.sh<=bu c.2.nm:=by refine ZG (fun q hq=>(g.sh _ _ (UE g.nd hq)).1) (q:=(w.nm,w.sh)) ?_;rw[ec];exact wk
 have qu:=fun z=>L.qu z un gZ c hc;have fin:=(L.Y.fin un gZ c hc).1;have am:=lY _ (Sw.cy (show bu c.2.nm≠0 by omega));have Wo:=UV (show 0<=D.most by omega) sb.1;have pa:p*(bu c.2.nm:Rat)=(w.sh:Rat):=by rw[e1,jh,Rat.mul_assoc,Rat.mul_comm _ (bu c.2.nm:Rat),am,Rat.mul_one]
 have p0:0<=p:=by rw[e1];exact UV (by omega) (by omega)
 rw[<-ec]at k1;have key:0<=l/\(qt->∀k,k=xX c.2->l*(bu c.2.nm:Rat)=(JU c.2.nm D.most w.sh k:Rat)):=by
  rw[e2];obtain⟨a,cs⟩:=c;cases cs with
  |st nm tg gs ck ch N=>
   obtain⟨t,g',_,hg⟩:=k9.2 w.nm (by rw[show aP nm w.nm=_ from hs];simp);obtain⟨G,_,_,_,_,fg⟩:=fin;have k1:1<=nm.length:=k1;have Hi:w.sh<=bu nm:=Hi;refine⟨?_,fun z k hk=>?_⟩
   ·show 0<=jE nm.length (bu nm) w.sh D.most 0 (max ((D.most:Rat) / (w.sh:Rat)) ((gs w.nm).getD 0));refine ZH k1 ⟨sb.1,Hi⟩ (by omega) (by decide) ?_;rw[gI];split
    ·rw[hg];exact(fg _ _ hg).1
    ·exact Wo
   ·have q:=qu z w.nm w.sh hs;have hm:max ((D.most:Rat) / (w.sh:Rat)) ((gs w.nm).getD 0)=(D.most:Rat) / (w.sh:Rat):=by
     rw[gI];split
     ·rename_i h
      exact Rat.le_antisymm q h
     ·rfl
    show jE nm.length (bu nm) w.sh D.most 0 (max ((D.most:Rat) / (w.sh:Rat)) ((gs w.nm).getD 0))*(bu nm:Rat)=_;rw[hm,ZE sb.1 (by omega),hk];congr 1;show _=((nm.length:Int)-1)*D.most*w.sh+(bu nm-w.sh)*D.most;rw[Int.zero_mul,Int.add_zero]
  |rd nm q rs tu ch=>
   have k1:1<=nm.length:=k1;have Hi:w.sh<=bu nm:=Hi;refine⟨?_,fun z k hk=>?_⟩
   ·show 0<=jE nm.length (bu nm) w.sh D.most D.most ((D.most:Rat) / (w.sh:Rat));exact ZH k1 ⟨sb.1,Hi⟩ (by omega) (by omega) Wo
   ·show jE nm.length (bu nm) w.sh D.most D.most ((D.most:Rat) / (w.sh:Rat))*(bu nm:Rat)=_;rw[ZE sb.1 (by omega),hk];rfl
 rw[ec]at pa al Hi k1 kl key;exact⟨p,l,pl,zp,zl,p0,key.1,pa,sb,⟨Hi,al.2⟩,⟨k1,by omega⟩,fun z k h1 h2=>key.2 z k (hk k h1 h2)⟩
end
def Hj:Str:=Str.ofString "band"
def KZ(as:List MW)(ab:Str)(d:Nat):Prop:=(ab=road/\d=0)\/∃v∈as,v.nm=ab/\v.kd≠gJ/\v.dp<5/\v.dp=d
structure Lk(as:List MW)(w:MW):Prop where
 Hw:xu w.nm
 nr:w.nm≠road/\w.nm≠Hj
 nw:∀v∈as,v.nm≠w.nm
 sh:1<=w.sh/\w.sh<=1000000
 kd:nK w.kd
 ab:∃d,KZ as w.ab d/\w.dp=d+1
def Gd(ws:List MW):Prop:=∀j w,ws[j]?=some w->Lk (ws.take j) w
theorem Gd.snoc{ws:List MW}{w:MW}(h:Gd ws)(k:Lk ws w):Gd (ws++[w]):=fun j u e=>by
 rcases Nat.lt_or_ge j ws.length with l|l
 ·rw[iw l]at e;rw[List.take_append_of_le_length (by omega)];exact h j u e
 ·rw[fS l]at e;have:j-ws.length=0:=by
   rcases lW (j-ws.length)with z|z
   ·exact z
   ·rw[fT (by simp;omega)]at e;cases e
  rw[this]at e;cases e
  rw[show j=ws.length by omega,List.take_left']
  ·exact k
  ·rfl
def mX(ws:List MW):List Str:=(ws.filter fun w=>decide (w.kd≠gJ/\w.dp<5)).map (·.nm)
def xQ(ws:List MW):List (Key×V):=((az road:Key),V.int 0)::ws.map fun w=>((az w.nm:Key),V.int (w.dp:Int))
structure MJ(c:Int)(H0:Hp)(md il dd:Addr)(i:Nat)(H:Hp)(ws:List MW):Prop where
 sm:bI H0 H
 M:pN H md ws
 hi:H il=some (.lst ((road::mX ws).map V.str))
 hd:H dd=some (.dK (xQ ws))
 ln:ws.length=i
 nm:∀j w,ws[j]?=some w->w.nm=gE c j
 gd:Gd ws
theorem UW(f:MW->V){x:Str}:∀{ws:List MW},(∀v∈ws,v.nm≠x)->gv (ws.map fun w=>((az w.nm:Key),f w)) (az x:Key)=none
 |[],_=>rfl
 |y::r,h=>by rw[au,Am fun z=>h y (aj ..) (fF z)];exact UW f fun v hv=>h v (ai _ hv)
theorem MJ.same{c:Int}{H0 H H':Hp}{md il dd:Addr}{i:Nat}{ws:List MW}(J:MJ c H0 md il dd i H ws)(s:bI H H'):MJ c H0 md il dd i H' ws:=⟨J.sm.trans s,J.M.same s,s _ _ J.hi,s _ _ J.hd,J.ln,J.nm,J.gd⟩
theorem MJ.snoc{c:Int}{H0 H:Hp}{md il dd:Addr}{i:Nat}{ws:List MW}(J:MJ c H0 md il dd i H ws)(f:H0 md=none/\H0 il=none/\H0 dd=none)(ne:md≠il/\md≠dd/\il≠dd){w:MW}(hw:H w.p=some (.tup [.str w.ab,.str w.kd,.int w.sh]))(en:w.nm=gE c i)(k:Lk ws w):MJ c H0 md il dd (i+1) (aH (aH (aH H md (.dK (mT (ws++[w])))) dd (.dK (xQ (ws++[w])))) il (.lst ((road::mX (ws++[w])).map V.str))) (ws++[w]):=by
 have u:∀b o,b≠md->b≠il->b≠dd->H b=some o->aH (aH (aH H md (.dK (mT (ws++[w])))) dd (.dK (xQ (ws++[w])))) il (.lst ((road::mX (ws++[w])).map V.str)) b=some o:=fun b o h1 h2 h3 e=>by rw[dj h2,dj h3,dj h1];exact e
 have ut:∀b xs,H b=some (.tup xs)->aH (aH (aH H md (.dK (mT (ws++[w])))) dd (.dK (xQ (ws++[w])))) il (.lst ((road::mX (ws++[w])).map V.str)) b=some (.tup xs):=fun b xs e=>u b _ (fun z=>by rw[z,J.M.hd]at e;cases e) (fun z=>by rw[z,J.hi]at e;cases e) (fun z=>by rw[z,J.hd]at e;cases e) e;refine⟨fun b o e=>u b o (kW e f.1) (kW e f.2.1) (kW e f.2.2) (J.sm _ _ e),⟨by rw[dj ne.1,dj ne.2.1,bR],fun v hv=>?_,?_⟩,bR,by rw[dj ne.2.2.symm,bR],by rw[bF,J.ln];rfl,fun j v e=>?_,J.gd.snoc k⟩
 ·rcases ay.mp hv with z|z
  ·exact ut _ _ (J.M.ht v z)
  ·rw[aC.mp z];exact ut _ _ hw
 ·rw[aA];exact cY.mpr ⟨J.M.nd,by simp,fun a ha b hb e=>by obtain⟨v,hv,q⟩:=av.mp ha;exact k.nw v hv (q.trans (e.trans (aC.mp hb)))⟩
 ·rcases Nat.lt_or_ge j ws.length with l|l
  ·rw[iw l]at e;exact J.nm j v e
  ·have:j=ws.length:=by have:=(aD.mp e).1;rw[bF]at this;simp at this;omega
   rw[this,fS (aq _),Nat.sub_self]at e;cases e
   rw[this,J.ln];exact en
theorem zyw{H:Hp}{a:Addr}{o:HO}(h:H a=some o):aH H a o=H:=funext fun b=>by
 by_cases z:b=a
 ·rw[z,bR,h]
 ·exact dj z
def Ud:Sp:=fun vs H Q _=>∃c n,vs=[.int c,.int n]/\1<=n/\n<=8/\∀md H' ws,bI H H'->H md=none->pN H' md ws->Gd ws->ws.length=n.toNat->(∃w∈ws,w.kd=gJ)->Q (.ref md) H'
include T in
theorem zms:rM P w K mg base (eW P w) 3 "_law_members" ["_law_cell","_law_many"] Ud:=by
 have gT:=Ur P w base T;have yP:=zrv P w base T;have mC:=XV P w base T;refine T.sD.okN (k:=2) dJ (fun vs H Q E h=>?_) (fun f b9 A outer s H vs Q E hr h=>?_)
 ·obtain⟨c,n,rfl,_⟩:=h;rfl
 ·obtain⟨c,n,rfl,n1,n8,k⟩:=h;refine⟨_,(bS (gA (i:=2) dJ.nd rfl KI) (bS (gA (i:=3) dJ.nd rfl (Dg (aL kY bB))) (bS (gA (i:=4) dJ.nd rfl (ZY (Zp kY bP ZX) rfl rfl (by intro z;cases z) (by decide))) (bS (DE PassesOwn.never rfl (Yv rfl T.zK (aL (pv 1) bB)) (nZ (i:=5) dJ.nd rfl (by first|left;rfl|right;rfl)) (bS (gA (i:=6) dJ.nd rfl (ja gT (hr.mono (by decide)) rfl aT (aL (pv 0) (aL (aM sL bP (pv 5)) bB)))) (bS (gA (i:=7) dJ.nd rfl (bG (DA K rfl) (pv 3) (aM Fy (aM Fy (rC (EX K rfl) rfl T.jo boot_len (aL (pv 3) bB)) bP) (aM rE (pv 6) (rC (Uv rfl) rfl T.ya boot_min (aL bP (aL (rC (EX K rfl) rfl T.jo boot_len (aL (pv 3) bB)) bB))))) (fun _ _=>rfl))) (bS (gA (i:=8) dJ.nd rfl (bG (DA K rfl) (Dg (aL kY (aL kY (aL kY (aL kY bB))))) (aM rE (aM Af (pv 6) bP) bP) (fun _ _=>rfl))) (bS (dW (j7 ji (pv 5) (aM Fy (pv 1) bP) (jL _)) (c8 (gA (i:=8) dJ.nd rfl kY)) kX) (bS (gA (i:=9) dJ.nd rfl (ja yP (hr.mono (by decide)) rfl aT (aL (aM Af (pv 0) bP) (aL (pv 5) bB)))) (bS (Ao (bY hr) (pv 2) (pv 9) (wA (aL (pv 7) (aL (pv 8) (aL (ja mC (hr.mono (by decide)) rfl aT (aL (aM Af (pv 6) bP) bB)) bB)))) rfl) (bS (Ao (bY hr) (pv 4) (pv 9) (aM sL (o8 (bY hr) (pv 4) (pv 7) (fun _ _=>rfl)) bP) rfl) (c8 (dW (PW.pt (Im (j7 sW (pv 8) kY (jL _)) (J1 (j7 qU (o8 (bY hr) (pv 4) (pv 9) (fun _ _=>rfl)) bP (jL _))))) (c8 (j6 (sX b6 eR eS Ii (pv 3) (aL (pv 9) bB)))) kX)))))))))) (c8 (gS (pv 2))))))),?_⟩;show dG _ _ _ [some (.int c),some (.int n),none,none,none,none,none,none,none,none] H;walk_at"s";intro md Li;refine hR _ _ ?_;clear hR;walk_at"s";intro il IU;refine hR _ _ ?_;clear hR;walk_at"s";intro dd IT;simp only[L2.sI];walk_at"rd";refine⟨bR,xQ [],rfl,by show 1<=15;decide,hR _ _ ?_⟩;clear hR;have s2:=(fZ (o:=.dK []) Li).trans (fZ (o:=.lst [V.str (Str.ofString "road")]) IU);have h2:=fZ (o:=.lst [V.str (Str.ofString "road")]) IU md (.dK []) bR;have h3:aH (aH H md (.dK [])) il (.lst [V.str (Str.ofString "road")]) il=some _:=bR;have J0:MJ (c / 7) H md il dd 0 (aH (aH (aH (aH H md (.dK [])) il (.lst [V.str (Str.ofString "road")])) dd (.dK [])) dd (.dK (xQ []))) []:=by
   have u:∀b o,aH (aH H md (.dK [])) il (.lst [V.str (Str.ofString "road")]) b=some o->aH (aH (aH (aH H md (.dK [])) il (.lst [V.str (Str.ofString "road")])) dd (.dK [])) dd (.dK (xQ [])) b=some o:=fun b o e=>by rw[dj (kW e IT),dj (kW e IT)];exact e
   exact⟨fun b o e=>u b o (s2 _ _ e),⟨u _ _ h2,fun w hw=>absurd hw bf,.nil⟩,u _ _ h3,bR,rfl,fun j w e=>(by cases e),fun j w e=>(by cases e)⟩
  have Rj:md≠il:=fun z=>by subst z;rw[bR]at IU;cases IU
  have A1:md≠dd:=kW h2 IT;have V9:il≠dd:=kW h3 IT;have fd0:H dd=none:=by
   cases e:H dd with
   |none=>rfl
   |some o=>rw[s2 _ _ e]at IT;cases IT
  have fi0:H il=none:=by rw[dj Rj.symm]at IU;exact IU
  refine(show dG _ _ _ [some (.int c),some (.int n),some (.ref md),some (.ref il),some (.ref dd),none,none,none,none,none] (aH (aH (aH (aH H md (.dK [])) il (.lst [V.str (Str.ofString "road")])) dd (.dK [])) dd (.dK (xQ [])))from ?_);generalize aH (aH (aH (aH H md (.dK [])) il (.lst [V.str (Str.ofString "road")])) dd (.dK [])) dd (.dK (xQ []))=H3 at J0⊢;clear s2 h2 h3 IU IT;refine bM fun R hR=>?_;refine DB fun Z hZ=>?_;walk_at"rd";refine⟨by omega,by omega,hZ _ _ ?_⟩;clear hZ;refine Yw (fun i σ H'=>∃ws v5 v6 v7 v8 v9,σ=[some (.int c),some (.int n),some (.ref md),some (.ref il),some (.ref dd),v5,v6,v7,v8,v9]/\MJ (c / 7) H md il dd i H' ws/\(n=i->∃w∈ws,w.kd=gJ)) ⟨[],none,none,none,none,none,rfl,J0,fun z=>by omega⟩ ?_ ?_
  ·rintro i σ H2 hi ⟨ws,v5,v6,v7,v8,v9,rfl,J,_⟩;show dG _ _ _ [some (.int c),some (.int n),some (.ref md),some (.ref il),some (.ref dd),some (.int (0+(i:Int))),v6,v7,v8,v9] H2;rw[Int.zero_add];refine An fun N hN=>?_;walk_at"s";refine⟨c,50+i,rfl,⟨by omega,by omega⟩,fun m0 m1=>hR _ _ ?_⟩;clear hR;generalize tX c (50+i)=m at m0 m1;walk_at"s";have ll:((road::mX ws).map V.str).length=(mX ws).length+1:=by simp
   refine Ip (.of J.hi) ⟨_,rfl,Ip (.of J.hi) ?_⟩;rw[ll];have bb:∀x:Int,1<=x->0<(if x<2 then x else 2)/\(if x<2 then x else 2)<=x:=fun x hx=>by split <;> omega
   obtain⟨b1,b2⟩:=bb ((mX ws).length+1:Nat) (by omega);refine⟨_,rfl,b1,?_⟩;generalize(if((((mX ws).length+1:Nat):Int)<2)then(((mX ws).length+1:Nat):Int)else 2)=B at b1 b2⊢;have r0:=aZ m (show B≠0 by omega);have r1:=aS m b1;refine Q9 (ks:=road::mX ws) J.hi (by omega) (by rw[bj];omega) fun ab IZ=>hR _ _ ?_;clear hR bb b1 b2 r0 r1 B;have nd:=J.M.nd;obtain⟨d,vd,IZ⟩:∃d:Nat,gv (xQ ws) (az ab:Key)=some (.int (d:Int))/\KZ ws ab d:=by
    rcases ao.mp IZ with z|z
    ·exact⟨0,Co (by rw[z]),.inl ⟨z,rfl⟩⟩
    ·obtain⟨v,hv,rfl⟩:=av.mp z;obtain⟨h1,h2⟩:=dw.mp hv;have h2:=of_decide_eq_true h2;obtain⟨j,e⟩:=fU.mp h1;refine⟨v.dp,?_,.inr ⟨v,h1,rfl,h2.1,h2.2,rfl⟩⟩;unfold xQ;rw[Am fun q=>(J.gd j v e).nr.1 (fF q).symm];exact J6 (fun w=>.int (w.dp:Int)) nd h1
   walk_at"s";intro p5 f5;have J:=J.same (fZ (o:=.lst ([Str.ofString "leaf",Str.ofString "starts",Str.ofString "rounds",Str.ofString "leaf"].map V.str)) f5);refine Q9 (ks:=[Str.ofString "leaf",Str.ofString "starts",Str.ofString "rounds",Str.ofString "leaf"]) bR (aZ _ (by decide)) (aS _ (by decide)) fun kd VE=>hR _ _ ?_;clear hR;have Rr:nK kd:=by
    simp only[ao,bf,or_false]at VE;rcases VE with q|q|q|q
    ·exact .inl q
    ·exact .inr (.inl q)
    ·exact .inr (.inr q)
    ·exact .inl q
   refine(show dG _ _ _ [some (.int c),some (.int n),some (.ref md),some (.ref il),some (.ref dd),some (.int (i:Int)),some (.int m),some (.str ab),some (.str kd),v9] (aH H2 p5 (.lst ([Str.ofString "leaf",Str.ofString "starts",Str.ofString "rounds",Str.ofString "leaf"].map V.str)))from ?_);generalize aH H2 p5 (.lst ([Str.ofString "leaf",Str.ofString "starts",Str.ofString "rounds",Str.ofString "leaf"].map V.str))=H5 at J⊢;refine bM fun R hR=>?_;have last:∀kd,nK kd->(n=(i:Int)+1->kd=gJ)->R [some (.int c),some (.int n),some (.ref md),some (.ref il),some (.ref dd),some (.int (i:Int)),some (.int m),some (.str ab),some (.str kd),v9] H5:=fun kd Rr lkd=>hR _ _ (by
    clear hR;walk_at"s";refine⟨c / 7,i,rfl,by omega,hR _ _ ?_⟩;clear hR;obtain⟨Hw,nr,nb,nj⟩:=S7 (c:=c / 7) (n:=i) (by omega);have nw:∀v∈ws,v.nm≠gE (c / 7) i:=fun v hv z=>by obtain⟨j,e⟩:=fU.mp hv;have:=(aD.mp e).1;have ln:=J.ln;have:=nj j (by omega) (z.symm.trans (J.nm j v e));omega
    have ln:=J.ln;walk_at"s";refine⟨m / 8,rfl,fun sh H6 s6 OA OB p7 f7=>?_⟩;have J:=J.same (s6.trans (fZ (o:=.tup [V.str ab,V.str kd,V.int sh]) f7));have e1:gu (mT ws) (az (gE (c / 7) i):Key) (.ref p7)=mT (ws++[⟨gE (c / 7) i,p7,ab,kd,sh,d+1⟩]):=by unfold mT;rw[Zn _ (UW _ nw),aA];rfl
    have e2:gu (xQ ws) (az (gE (c / 7) i):Key) (.int ((d:Int)+1))=xQ (ws++[⟨gE (c / 7) i,p7,ab,kd,sh,d+1⟩]):=by unfold xQ;rw[Zn _ (by rw[Am fun z=>nr (fF z).symm];exact UW _ nw),aA];rfl
    refine⟨_,lB.k (k:=az (gE (c / 7) i)) J.M.hd (eX (by unfold mT;rw[ae];omega)),hR _ _ ?_⟩;clear hR;rw[e1];have VO:aH H6 p7 (.tup [V.str ab,V.str kd,V.int sh]) p7=some (.tup [V.str ab,V.str kd,V.int sh]):=bR;have J':=J.snoc ⟨Li,fi0,fd0⟩ ⟨Rj,A1,V9⟩ (w:=⟨gE (c / 7) i,p7,ab,kd,sh,d+1⟩) VO rfl ⟨Hw,⟨nr,nb⟩,nw,⟨OA,OB⟩,Rr,d,IZ,rfl⟩;clear nw s6 f7 VO;generalize aH H6 p7 (.tup [V.str ab,V.str kd,V.int sh])=H7 at J J'⊢;generalize ew:(⟨gE (c / 7) i,p7,ab,kd,sh,d+1⟩:MW)=w at e1 e2 J';have hd:=J.hd;rw[<-dj (o:=.dK (mT (ws++[w]))) (H:=H7) A1.symm]at hd;walk_at"s";have dg:=ia.k (k:=az ab) hd;rw[vd]at dg;refine⟨_,dg,_,rfl,_,lB.k (k:=az (gE (c / 7) i)) hd (eX (by unfold xQ;rw[bj,ae];omega)),hR _ _ ?_⟩;clear hR dg;rw[e2];have hd:aH (aH H7 md (.dK (mT (ws++[w])))) dd (.dK (xQ (ws++[w]))) dd=some _:=bR;have hi:aH (aH H7 md (.dK (mT (ws++[w])))) dd (.dK (xQ (ws++[w]))) il=some (.lst ((road::mX ws).map V.str)):=by rw[dj V9,dj Rj.symm];exact J.hi
    have LN:mX (ws++[w])=mX ws++if kd≠gJ/\d+1<5 then[gE (c / 7) i]else[]:=by
     rw[<-ew];unfold mX;rw[fR,aA];congr 1;by_cases h:kd≠gJ/\d+1<5
     ·simp[h]
     ·simp[h]
    have lf:n=((i+1:Nat):Int)->∃w'∈ws++[w],w'.kd=gJ:=fun z=>⟨w,by simp,by rw[<-ew];exact lkd (by omega)⟩;have il2:(mX ws).length<=ws.length:=by unfold mX;rw[ae];exact eN _ _
    have iM:¬(kd≠gJ/\d+1<5)->N [some (.int c),some (.int n),some (.ref md),some (.ref il),some (.ref dd),some (.int (i:Int)),some (.int m),some (.str ab),some (.str kd),some (.str (gE (c / 7) i))] (aH (aH H7 md (.dK (mT (ws++[w])))) dd (.dK (xQ (ws++[w])))):=fun z=>hN _ _ (by rw[LN,if_neg z,bw,zyw hi]at J';exact⟨_,_,_,_,_,_,rfl,J',lf⟩)
    have dg:=ia.k (k:=az (gE (c / 7) i)) hd;rw[show gv (xQ (ws++[w])) (az (gE (c / 7) i):Key)=some (.int ((d:Int)+1))by rw[<-e2,Zm,if_pos rfl]]at dg;walk_at"rd";refine fX (fun z=>iM fun q=>q.1 z) fun z=>⟨_,dg,_,rfl,fX (fun y=>⟨GY hi,KW hi (by rw[ae,bj];omega) (hN _ _ ?_)⟩) fun y=>iM fun q=>y (by have:=q.2;omega)⟩;rw[LN,if_pos ⟨z,by omega⟩]at J';refine⟨_,_,_,_,_,_,rfl,?_,lf⟩;have e3:(road::(mX ws++[gE (c / 7) i])).map V.str=(road::mX ws).map V.str++[V.str (gE (c / 7) i)]:=by simp
    rw[e3]at J';exact J')
   walk_at"rd";exact fX (fun c1=>last _ (.inl rfl) fun _=>rfl) fun c1=>last kd Rr fun z=>absurd (by omega) c1
  ·rintro σ H2 ⟨ws,v5,v6,v7,v8,v9,rfl,J,lf⟩;refine hR _ _ ?_;walk_at"rd";exact k md H2 ws J.sm Li J.M J.gd J.ln (lf (by omega))
theorem LJ.new{D:TD}{n:ND}{a:lz}{b:Bool}(qt:Prop)(e:D.ns=[n])(h1:n.nm=road)(h2:n.ab=none)(h3:n.ch=some (a,b5.new b))(h4:n.bk=none)(h5:n.rm= .b7)(h6:n.qu=[])(m1:1<=D.most/\D.most<=1000000)(t:D.tm=0/\D.fr=0/\D.gs=[]):LJ b qt 0 0 D []:=by
 have one:∀{y},y∈D.ns->y=n:=fun{y} hy=>by rw[e]at hy;exact aC.mp hy
 have w0:dh D.ns=0:=by rw[e];unfold dh;rw[au,jv,h6];rfl
 have g0:D.gs.length=0:=by rw[t.2.2];rfl
 refine⟨⟨TD.Wf.new e h1 h2 h3 m1,fun y hy d hd=>?_,fun y hy z hz=>?_,fun y hy hq=>?_,fun y hy g hg=>?_,by omega,by rw[e];exact(by decide:1<=60),by omega⟩,fun y hy=>by rw[one hy];exact h4,?_,fun _ y hy d hd=>?_,fun y hy=>by rw[one hy];exact h5,by omega,by omega,by omega⟩
 ·rw[one hy,h3]at hd;cases hd
  exact⟨(b5.jj.new _).mono (bW _),by cases b <;> exact bW _⟩
 ·rw[one hy,h4]at hz;cases hz
 ·rw[one hy,h6]at hq;exact absurd rfl hq
 ·rw[one hy,h6]at hg;cases hg
 ·rw[e];show[iF n]=_;unfold iF;rw[h1,h2,h3];show[(road,none,some (xX (b5.new b),(b5.new b).nm))]=_;rw[zxj,b5.x9];rfl
 ·rw[one hy,h3]at hd;cases hd
  cases b with
  |true=>trivial
  |false=>intro x s e;cases e
theorem LJ.deep{rk:Bool}{qt:Prop}{i v:Nat}{D:TD}{ws:List MW}(L:LJ rk qt i v D ws)(g:Gd ws){x:Str}{ys:List Str}(U:Up D.ns x ys):(x=road->ys.length=1)/\∀w∈ws,w.nm=x->ys.length=w.dp+1:=by
 have W:=L.Y.W
 induction U with
 |top h e=>
  obtain⟨a,b⟩:=jK h;exact⟨fun _=>rfl,fun w hw q=>absurd (q.trans (b.symm.trans (W.ra _ a e))) ((L.node hw).elim fun _ z=>z.2.2)⟩
 |on h e k ih=>
  refine⟨fun z=>?_,fun w hw q=>?_⟩
  ·obtain⟨n0,h0,h1,_⟩:=W.Mw;rw[z,h0]at h;cases h
   rw[h1]at e;cases e
  ·obtain⟨n',hn,es,_⟩:=L.node hw;rw[q,h]at hn;cases hn
   have ey:=ak (e.symm.trans (congrArg (·.2.1) es));obtain⟨j,ej⟩:=fU.mp hw;obtain⟨d,hd,ed⟩:=(g j w ej).ab;rw[bj,ed];rcases hd with⟨z,rfl⟩ |⟨v,hv,vn,_,_,rfl⟩
   ·rw[ih.1 (ey.trans z)]
   ·rw[ih.2 v (p9 hv) (vn.trans ey.symm)]
theorem LJ.due{rk:Bool}{qt:Prop}{i v:Nat}{D:TD}{ws:List MW}(L:LJ rk qt i v D ws)(g:Gd ws){w:MW}(k:Lk ws w):lH D w.nm w.ab w.kd w.sh .b7=none:=by
 have fz:bz D.ns w.nm=none:=by
  rw[nG,L.Oq];intro z;rcases ao.mp z with q|q
  ·exact k.nr.1 q
  ·obtain⟨v,hv,e⟩:=av.mp q;exact k.nw v hv e
 obtain⟨d,hd,_⟩:=k.ab;obtain⟨n,hn,hc,dp⟩:∃n,bz D.ns w.ab=some n/\n.ch≠none/\∀ys,Up D.ns w.ab ys->ys.length<=5:=by
  rcases hd with⟨z,_⟩ |⟨v,hv,vn,vk,v5,_⟩
  ·obtain⟨n0,h0,_,h2⟩:=L.Y.W.Mw;exact⟨n0,z▸h0,h2,fun ys U=>by rw[(L.deep g U).1 z];decide⟩
  ·obtain⟨n,hn,es,_⟩:=L.node hv;refine⟨n,vn▸hn,fun z=>?_,fun ys U=>by rw[(L.deep g U).2 v hv vn];omega⟩;have:n.ch.map _=if v.kd=gJ then none else _:=congrArg (·.2.2) es
   rw[z,if_neg vk]at this;cases this
 exact Zx k.Hw fz hn ⟨k.kd,hc,dp⟩ k.sh fun⟨_,r,e,_⟩=>by cases e
theorem Gd.take{ws:List MW}(g:Gd ws)(i:Nat):Gd (ws.take i):=fun j w e=>by
 rw[lQ]at e;split at e
 ·rw[List.take_take,Kd (by omega)];exact g j w e
 ·cases e
def vV(b:Bool):Str:=if b then Str.ofString "rounds"else Str.ofString "starts"
theorem zzw:∀b,kj (vV b)/\um (vV b)=b
 |true=>⟨.inr rfl,by decide+kernel⟩
 |false=>⟨.inl rfl,by decide+kernel⟩
theorem V1{H:Hp}{p:Addr}{j:Int}{Q:VK}(h:j=0\/j=1)(k:Q (.str (vV (decide (j=1)))) (aH H p (.lst [V.str (Str.ofString "starts"),V.str (Str.ofString "rounds")]))):CW K (.ref p) (.int j) (aH H p (.lst [V.str (Str.ofString "starts"),V.str (Str.ofString "rounds")])) Q:=by rcases h with rfl|rfl <;> exact NL (.of bR) rfl k
structure TJ(C:Cl)(b:Bool)(H:Hp)(md:Addr)(o:Obj)(ws:List MW)(x:Addr)(i:Nat)(H':Hp)(D:TD):Prop where
 O:bQ C H' D
 L:LJ b True 0 i D (ws.take i)
 kp:∀a o,a≠md->H a=some o->H' a=some o
 fz:H' md=some (.jm o (.dK (mT ws)))
 ft:∀a∈D.foot,H a=none
 p:D.p=x
 tm:D.tm=0
inductive Cf(C:Cl)(vs:List V)(H:Hp)(Q:VK)(E:XK):Prop|mk (c md ws:_) (h1:vs=[.int c,.ref md]) (h2:pN H md ws) (h3:Gd ws) (h4:ws.length<=8) (h5:∀D H',bQ C H' D->LJ (decide (c / 4 % 2=1)) True 0 ws.length D ws->D.tm=0->bI H H'->(∀b∈D.foot,H b=none)->Q (.ref D.p) H'):Cf C vs H Q E
include T in
theorem zsa:rM P w K mg base (eW P w) 9 "_law_tree" ["_law_cell","_law_members_here"] (Cf (⟨cK,cU,cQ,cD,cK,cX⟩:Cl)):=by
 have IB:=T8 P w base T;have Ay:=zul P w base T;refine T.wq.okN (k:=8) iZ (fun vs H Q E h=>?_) (fun f b9 A outer s H vs Q E hr h=>?_)
 ·obtain⟨c,md,ws,rfl,_⟩:=h;rfl
 ·obtain⟨c,md,ws,rfl,M,gd,wl,k⟩:=h;refine⟨_,(bS (gA (i:=2) iZ.nd rfl (bG (DA K rfl) (Dg (aL bP (aL bP (aL (aM Pk bP bP) (aL (aM sL bP (aM rE (aM Af (pv 0) bP) (aM Pk bP bP))) bB))))) (aM rE (pv 0) bP) (fun _ _=>rfl))) (bS (gA (i:=3) iZ.nd rfl (Nt (cu:=[]) IB (by simp) (hr.mono (by decide)) aT rfl T.Gr (aL (pv 2) (aL (bG (DA K rfl) (Dg (aL kY (aL kY bB))) (aM rE (aM Af (pv 0) bP) bP) (fun _ _=>rfl)) bB)))) (bS (Sq PassesOwn.never rfl (pv 1) (NE (n:=2) K rfl rfl (Dz (nZ (i:=4) iZ.nd rfl (by first|left;rfl|right;rfl)) (Dz (nZ (i:=5) iZ.nd rfl (by first|left;rfl|right;rfl)) Nz))) (c8 (j6 (gh (cu:=[V.b7]) Ay (by simp) T.aJ (hr.mono (by decide)) aT (pv 3) (aL (pv 4) (aL (bG (jb K rfl) (pv 5) bP (fun _ _=>rfl)) (aL (bG (jb K rfl) (pv 5) bP (fun _ _=>rfl)) (aL (bG (jb K rfl) (pv 5) bP (fun _ _=>rfl)) bB)))))))) (c8 (gS (pv 3)))))),?_⟩;show dG _ _ _ [some (.int c),some (.ref md),none,none,none,none] H;walk_at"s";intro p1 f1;refine BO _ (aZ _ (by decide)) (aS _ (by decide)) fun v hv=>hR _ _ ?_;clear hR;obtain⟨most,rfl,mb⟩:∃m,v= .int m/\1<=m/\m<=1000000:=by have c0:=aZ (c / 4) (show(1000000:Int)≠0 by decide);have c1:=aS (c / 4) (show(0:Int)<1000000 by decide);simp only[ao,bf,or_false]at hv;rcases hv with q|q|q|q <;> exact⟨_,q,by omega,by omega⟩
  have s1:=fZ (o:=.lst [V.int 1,V.int 9,V.int 1000000,V.int (1+c / 4 % 1000000)]) f1;refine(show dG _ _ _ [some (.int c),some (.ref md),some (.int most),none,none,none] (aH H p1 (.lst [V.int 1,V.int 9,V.int 1000000,V.int (1+c / 4 % 1000000)]))from ?_);generalize aH H p1 (.lst [V.int 1,V.int 9,V.int 1000000,V.int (1+c / 4 % 1000000)])=H1 at s1⊢;walk_at"s";intro p2 f2;have s2:=s1.trans (fZ (o:=.lst [V.str (Str.ofString "starts"),V.str (Str.ofString "rounds")]) f2);refine V1 (by omega) ?_;generalize decide (c / 4 % 2=1)=rk at k⊢;obtain⟨ik,kb⟩:=zzw rk;intro x dx hx F9 ne;refine⟨x,dx,most,vV rk,rfl,bR,fun z=>absurd mb z,fun _ z=>absurd ik z,fun _ _ pn pg n a H' en bt fr O=>⟨rfl,hR _ _ ?_⟩⟩;clear hR;rw[kb]at en;have sH:bI H H':=fun b o e=>by have e:=s2 _ _ e;exact bt b o (kW e hx) (EY hx F9 _ _ e)
  have L0:LJ rk True 0 0 ⟨x,pn,pg,most,0,0,0,[n],[],[]⟩ []:=LJ.new True rfl (by rw[en]) (by rw[en]) (by rw[en]) (by rw[en]) (by rw[en]) (by rw[en]) mb ⟨rfl,rfl,rfl⟩;have fH:∀b∈TD.foot ⟨x,pn,pg,most,0,0,0,[n],[],[]⟩,H b=none:=fun b hb=>by
   cases e:H b with
   |none=>rfl
   |some o=>
    have e2:=s2 _ _ e;rcases fr b hb with q|q
    ·subst q;exact absurd (e2.symm.trans hx) (by simp)
    ·rw[EY hx F9 _ _ e2]at q;cases q
  have px:(⟨x,pn,pg,most,0,0,0,[n],[],[]⟩:TD).p=x:=rfl;have tx:(⟨x,pn,pg,most,0,0,0,[n],[],[]⟩:TD).tm=0:=rfl;clear bt fr hx F9 s1 f1 s2 f2 en;generalize(⟨x,pn,pg,most,0,0,0,[n],[],[]⟩:TD)=D0 at L0 O fH px tx;have M':=M.same sH;have A1:∀{a o},H a=some o->H a≠none:=fun e z=>by rw[e]at z;cases z
  refine bM fun R hR=>?_;refine⟨_,rfl,md,_,rfl,M'.hd,fun o=>?_⟩;have J0:TJ (⟨cK,cU,cQ,cD,cK,cX⟩:Cl) rk H md o ws x 0 (aH H' md (.jm o (.dK (mT ws)))) D0:=⟨O.other (fun z=>A1 M.hd (fH _ z)) M'.hd (by intro _ z;cases z),L0,fun a u na e=>by rw[dj na];exact sH _ _ e,bR,fH,px,tx⟩;generalize aH H' md (.jm o (.dK (mT ws)))=HF at J0⊢;clear O sH fH px tx M' L0;refine zwi (kvs:=mT ws) (fun i σ H'=>∃v4 v5 D,σ=[some (.int c),some (.ref md),some (.int most),some (.ref x),v4,v5]/\TJ (⟨cK,cU,cQ,cD,cK,cX⟩:Cl) rk H md o ws x i H' D) ⟨none,none,D0,rfl,J0⟩ (fun i σ H' _⟨_,_,_,_,J⟩=>J.fz) ?_ ?_
  ·rintro i kv σ H6 p j3 ⟨v4,v5,D,rfl,J⟩ hp;obtain⟨w0,hw,rfl⟩:∃w0,ws[i]?=some w0/\((az w0.nm:Key),V.ref w0.p)=kv:=by
    unfold mT at j3;rw[aK]at j3;cases e:ws[i]? with
    |none=>rw[e]at j3;cases j3
    |some p=>rw[e]at j3;exact⟨p,rfl,ak j3⟩
   have Nf:=aV hw;have li:=(aD.mp hw).1;have s6:=fZ (o:=.tup [kV (az w0.nm:Key),V.ref w0.p]) hp;have J:TJ (⟨cK,cU,cQ,cD,cK,cX⟩:Cl) rk H md o ws x i (aH H6 p (.tup [kV (az w0.nm:Key),V.ref w0.p])) D:=⟨J.O.same s6,J.L,fun a u na e=>s6 _ _ (J.kp a u na e),s6 _ _ J.fz,J.ft,J.p,J.tm⟩;refine⟨p,_,rfl,.of bR,rfl,_,_,rfl,_,_,rfl,rfl,?_⟩;generalize aH H6 p (.tup [kV (az w0.nm:Key),V.ref w0.p])=H7 at J⊢;show w4 _ _ [some (.int c),some (.ref md),some (.int most),some (.ref x),some (.str w0.nm),some (.ref w0.p)] H7;have ht:=J.kp _ _ (fun z=>by have e:=M.ht w0 Nf;rw[z,M.hd]at e;cases e) (M.ht w0 Nf);have lk:=gd i w0 hw;have du:=J.L.due (gd.take i) lk;refine An fun N hN=>?_;walk_at"rd";obtain⟨dx,fs,rG,ft⟩:=J.O.ex;rw[J.p]at rG;have so:=ZD lk.Hw;refine gq rG (om ft _) (jc (.of ht) (v:=.str w0.ab) rfl (jc (.of ht) (v:=.str w0.kd) rfl (jc (.of ht) (v:=.int w0.sh) rfl ⟨D,w0.nm,w0.ab,w0.kd,w0.sh,.b7,by rw[J.p],J.O,J.L.Y.W,J.L.Y.fit,⟨so.1,by have:=so.2;omega⟩,.inl rfl,fun r e=>(by rw[du]at e;cases e),fun _ Nd c' n' H8 h1 h2 h3 h4 h5 h6 h7 h8 h9 yG Dr Kl Km=>hN _ _ ?_⟩)));have PO:mS (⟨cK,cU,cQ,cD,cK,cX⟩:Cl) D w0.nm w0.ab w0.kd w0.sh .b7 H7 H8 (D.put Nd c' w0.sh n'):=⟨Nd,c',n',rfl,h1,h2,h3,h4,h5,h6,h7,h8,h9,yG,Dr,Kl,Km⟩;have L':=J.L.put (by rw[bV];omega) (by omega) PO du;rw[<-Cp hw]at L';refine⟨_,_,D.put Nd c' w0.sh n',rfl,Kl,L',fun a u na e=>Km a u (fun z=>A1 e (J.ft a z)) (J.kp a u na e),Km _ _ (fun z=>A1 M.hd (J.ft _ z)) J.fz,fun a ha=>(PO.foot a ha).elim (J.ft a) fun q=>?_,J.p,J.tm⟩;cases e:H a with
   |none=>rfl
   |some u=>
    by_cases z:a=md
    ·rw[z,J.fz]at q;cases q
    ·rw[J.kp a u z e]at q;cases q
  ·rintro σ H6 ⟨v4,v5,D,rfl,J⟩;have L:=J.L;rw[show(mT ws).length=ws.length from ae _,bC]at L;refine hR _ _ ?_;walk_at"rd";rw[<-J.p];refine k D _ (J.O.other (fun z=>A1 M.hd (J.ft _ z)) J.fz (by intro _ z;cases z)) L J.tm (fun b u e=>?_) J.ft;by_cases z:b=md
   ·subst z;rw[M.hd]at e;cases e
    exact bR
   ·rw[dj z];exact J.kp _ _ z e
theorem ZI{D:TD}{n n':ND}{Pb:Addr->Prop}(gf:n∈D.ns)(hf:∀b∈n'.foot,b∈n.foot\/Pb b):∀b∈TD.foot {D with ns:=dF D.ns n'},b∈D.foot\/Pb b:=by
 intro b hb;unfold TD.foot at hb;rcases ao.mp hb with z|hb
 ·exact .inl (z▸aj ..)
 rcases ao.mp hb with z|hb
 ·exact .inl (z▸ai _ (aj ..))
 rcases ao.mp hb with z|hb
 ·exact .inl (z▸ai _ (ai _ (aj ..)))
 obtain⟨y,hy,z⟩:=dH.mp hb;rcases Il hy with q|q
 ·rw[q]at z;exact(hf b z).imp (fun w=>TD.e8 gf w) id
 ·exact .inl (TD.e8 q.1 z)
open Classical in
noncomputable def Ks(ws:List MW)(x:V):Option V:=if ∃u∈ws,x= .str u.nm/\u.kd=gJ then some x else none
theorem zxl{ws:List MW}(nd:(ws.map (·.nm)).Nodup){u w:MW}(hu:u∈ws)(hw:w∈ws)(e:u.nm=w.nm):u=w:=by obtain⟨i,hi⟩:=fU.mp hu;obtain⟨j,hj⟩:=fU.mp hw;have l:=(aD.mp hi).1;have:=(FT (by rw[ae];exact l) nd).mp (show(ws.map (·.nm))[i]?=(ws.map (·.nm))[j]? by rw[aK,aK,hi,hj,iK,iK,e]);rw[this,hj]at hi;exact(ak hi).symm
theorem Ue{ws:List MW}{w:MW}(nd:(ws.map (·.nm)).Nodup)(hw:w∈ws)(q:Addr)(s:Int):gu (mT ws) (az w.nm:Key) (.ref q)=mT (ws.map fun u=>if u.nm=w.nm then{u with sh:=s,p:=q}else u):=by
 unfold gu;rw[GS,show gv (mT ws) (az w.nm:Key)=_ from J6 (fun w=>.ref w.p) nd hw];show(mT ws).map _=_;unfold mT;rw[bg,bg];refine aO fun u _=>?_;by_cases e:u.nm=w.nm
 ·simp[e]
 ·have:¬(az u.nm:Key)=az w.nm:=fun z=>e (fF z);simp[e]
theorem pN.kU{C:Cl}{H H':Hp}{md:Addr}{ws:List MW}{D:TD}(M:pN H md ws)(O:bQ C H D)(nm:md∉D.foot)(d:iJ D.foot H H'):pN H' md ws:=⟨d _ _ nm M.hd,fun w hw=>d _ _ (fun z=>by obtain⟨o,e1,e2⟩:=O.at z;rw[M.ht w hw]at e1;cases e1;exact e2 _ rfl) (M.ht w hw),M.nd⟩
inductive BW(C:Cl)(vs:List V)(H:Hp)(Q:VK)(E:XK):Prop|mk (rk:Bool) (qt:Prop) (i v:Nat) (D:TD) (md:Addr) (ws:List MW) (c:Int) (h1:vs=[.ref D.p,.ref md,.int c]) (h2:bQ C H D) (h3:LJ rk qt i v D ws) (h4:pN H md ws) (h5:md∉D.foot) (h6:i<100) (h7:D.tm<=1000000000000) (h8:(∃w∈ws,w.kd=gJ)) (h9:ws.length<=8) (yG:(qt->c % 4≠0)) (Dr:∀D' Ng H',bQ C H' D'->LJ rk qt (i+1) v D' Ng->pN H' md Ng->D'.p=D.p->D'.tm<=D.tm+1000000->Ng.map (fun w=>(w.nm,w.kd))=ws.map (fun w=>(w.nm,w.kd))->(∀b∈D'.foot,b∈D.foot\/H b=none)->iJ (md::D.foot) H H'->Q .b7 H'):BW C vs H Q E
include T in
theorem zsb:rM P w K mg base (eW P w) 10 "_law_deed" ["_law_tree_here","_law_members_here","_law_cell"] (BW (⟨cK,cU,cQ,cD,cK,cX⟩:Cl)):=by
 have mC:=XV P w base T;have gT:=Ur P w base T;have uz:=zmq P w base T;have yS:=zrs P w base T;have xH:=zqp P w base T;have Ax:=zun P w base T;refine T.wj.okN (k:=9) fY (fun vs H Q E h=>?_) (fun f b9 A outer s H vs Q E hr h=>?_)
 ·obtain⟨rk,qt,i,v,D,md,ws,c,rfl,_⟩:=h;rfl
 ·obtain⟨rk,qt,i,v,D,md,ws,c,rfl,O,L,M,A1,i9,tb,lf,wl,hq,k⟩:=h;refine⟨_,(bS (gA (i:=3) fY.nd rfl (YB (Yk rfl) rfl T.BK boot_list (aL (pv 1) bB))) (bS (gA (i:=4) fY.nd rfl (bG (DA K rfl) (pv 3) (aM rE (aM Af (pv 2) bP) (rC (EX K rfl) rfl T.jo boot_len (aL (pv 3) bB))) (fun _ _=>rfl))) (bS (zyx (o8 (bY hr) (pv 1) (pv 4) (fun _ _=>rfl)) (NE (n:=3) K rfl rfl (Dz (nZ (i:=5) fY.nd rfl (by first|left;rfl|right;rfl)) (Dz (nZ (i:=6) fY.nd rfl (by first|left;rfl|right;rfl)) (Dz (nZ (i:=7) fY.nd rfl (by first|left;rfl|right;rfl)) Nz))))) (bS (dW (j7 ji (aM rE (pv 2) bP) bP (jL _)) (bS (gA (i:=7) fY.nd rfl (ja mC (hr.mono (by decide)) rfl aT (aL (aM Af (pv 2) bP) bB))) (bS (j6 (gh (cu:=[]) uz (by simp) T.aJ (hr.mono (by decide)) aT (pv 0) (aL (pv 4) (aL (pv 7) bB)))) (c8 (Ao (bY hr) (pv 1) (pv 4) (wA (aL (pv 5) (aL (pv 6) (aL (pv 7) bB)))) rfl)))) kX) (bS (Pe (i0:=8) ["_law_word"] [("_law_members_here",1)] rfl (by with_unfolding_all rfl) (by decide+kernel) rfl (by decide+kernel) (by exact⟨rfl,bh⟩) (by with_unfolding_all rfl) ⟨⟨rfl,rfl,rfl⟩,bh⟩ (Ag K rfl (pv 3)) (fun _ _ _=>(nZ (i:=0) (show(["_law_word","_law_members_here"]:List Str).Nodup from by decide+kernel) rfl (by first|left;rfl|right;rfl))) (fun _ _ _=>(Ij (j7 ji (bG (jb K rfl) (o8 (bY hr) (pv 1) (pv 0) (fun _ _=>rfl)) bP (fun _ _=>rfl)) kY (jL _)))) (fun _ _ _=>(pv 0)) (by with_unfolding_all rfl) fY.nd rfl (by first|left;rfl|right;rfl)) (c8 (dW (j7 BL (aM rE (pv 2) bP) bP (jL _)) (bS (j6 (gh (cu:=[]) yS (by simp) T.aJ (hr.mono (by decide)) aT (pv 0) (aL (bG (DA K rfl) (pv 8) (aM rE (aM Af (pv 2) bP) (rC (EX K rfl) rfl T.jo boot_len (aL (pv 8) bB))) (fun _ _=>rfl)) (aL (aM sL bP (aM rE (ja gT (hr.mono (by decide)) rfl aT (aL (pv 2) (aL bP bB))) (eK (pv 0) rfl))) bB)))) (c8 (j6 (gh (cu:=[]) xH (by simp) T.aJ (hr.mono (by decide)) aT (pv 0) (aL (aM sL (xm (cu:=[]) Ax (by simp) T.aJ (hr.mono (by decide)) aT (pv 0)) (aM rE (ja gT (hr.mono (by decide)) rfl aT (aL (pv 2) (aL bP bB))) (bG (DA K rfl) (Dg (aL bP (aL bP (aL (aM sL (eK (pv 0) rfl) bP) bB)))) (aM rE (pv 2) bP) (fun _ _=>rfl)))) bB))))) kX))))))),?_⟩;show dG _ _ _ [some (.ref D.p),some (.ref md),some (.int c),none,none,none,none,none,none] H;walk_at"s";refine⟨_,_,rfl,M.hd,fun nl Vj=>hR _ _ ?_⟩;clear hR;have s1:=fZ (o:=.lst ((ws.map (·.nm)).map V.str)) Vj;have e1:(mT ws).map (fun kv=>kV kv.1)=(ws.map (·.nm)).map V.str:=by unfold mT;rw[bg,bg];rfl
  rw[e1];have LA:aH H nl (.lst ((ws.map (·.nm)).map V.str)) nl=some (.lst ((ws.map (·.nm)).map V.str)):=bR;have O1:=O.same s1;have M1:=M.same s1;have Rk:nl∉D.foot:=O.free Vj;refine(show dG _ _ _ [some (.ref D.p),some (.ref md),some (.int c),some (.ref nl),none,none,none,none,none] (aH H nl (.lst ((ws.map (·.nm)).map V.str)))from ?_);generalize aH H nl (.lst ((ws.map (·.nm)).map V.str))=H1 at s1 LA O1 M1⊢;have ll:((ws.map (·.nm)).map V.str).length=ws.length:=by rw[ae,ae]
  have w0:0<ws.length:=lf.elim fun _ z=>oh z.1;walk_at"s";refine Ip (.of LA) ?_;rw[ll];refine⟨_,rfl,by omega,Q9 LA (aZ _ (by omega)) (by rw[ae];exact aS _ (by omega)) fun x hx=>hR _ _ ?_⟩;clear hR;obtain⟨w,hw,rfl⟩:=av.mp hx;walk_at"s";refine⟨_,M1.get hw,_,rfl,_,.of (M1.ht w hw),rfl,_,_,rfl,_,_,rfl,_,_,rfl,rfl,hR _ _ ?_⟩;clear hR;refine bM fun R hR=>?_;have last:∀D2 xj H2 sh,bQ (⟨cK,cU,cQ,cD,cK,cX⟩:Cl) H2 D2->LJ rk qt i v D2 xj->pN H2 md xj->D2.p=D.p->D2.tm=D.tm->xj.map (fun w=>(w.nm,w.kd))=ws.map (fun w=>(w.nm,w.kd))->(∀b∈D2.foot,b∈D.foot\/H b=none)->iJ (md::D.foot) H H2->H2 nl=some (.lst ((ws.map (·.nm)).map V.str))->md∉D2.foot->nl∉D2.foot->R [some (.ref D.p),some (.ref md),some (.int c),some (.ref nl),some (.str w.nm),some (.str w.ab),some (.str w.kd),some (.int sh),none] H2:=fun D2 xj H2 sh O2 L2 M2 p2 t2 e2 f2 d2 h2 m2 n2=>hR _ _ (by
   clear hR;walk_at"s";have e3:ws.map (·.nm)=xj.map (·.nm):=by have:=congrArg (List.map (·.1)) e2;rw[bg,bg]at this;exact this.symm
   rw[e3]at h2;refine⟨⟨_,.of h2⟩,fun B fB=>?_⟩;refine YJ (K:=K) (a:=nl) (xs:=(xj.map (·.nm)).map V.str) (v0:=none) (caps:=[some (.ref md)]) (Ks xj) fB (.of h2) (by rw[<-e3,ll];omega) (fun x hx v H' C N sm h1 h2=>?_) ?_
   ·obtain⟨z,hz,rfl⟩:=av.mp hx;obtain⟨u,hu,rfl⟩:=av.mp hz;have M3:=M2.same sm;walk_at"rd";refine⟨_,M3.get hu,jc (.of (M3.ht u hu)) (v:=.str u.kd) rfl ?_⟩;walk_at"rd";refine fX (fun e=>h1 _ (if_pos ⟨u,hu,rfl,e⟩)) fun e=>h2 (if_neg ?_);rintro⟨y,hy,q,l⟩;rw[zxl M2.nd hu hy (V.str.inj q)]at e;exact e l
   ·refine hR _ _ ?_;clear hR;have lm:∀x∈((xj.map (·.nm)).map V.str).filterMap (Ks xj),∃u∈xj,x= .str u.nm/\u.kd=gJ:=fun x hx=>by
     obtain⟨y,_,e⟩:=eU.mp hx;unfold Ks at e;split at e
     ·cases e;assumption
     ·cases e
    have l0:0<(((xj.map (·.nm)).map V.str).filterMap (Ks xj)).length:=by
     obtain⟨u,hu,ul⟩:=lf;have:(u.nm,u.kd)∈xj.map (fun w=>(w.nm,w.kd)):=by rw[e2];exact av.mpr ⟨u,hu,rfl⟩
     obtain⟨y,hy,q⟩:=av.mp this;have yk:y.kd=gJ:=(congrArg (·.2) q).trans ul;exact oh (eU.mpr ⟨.str y.nm,av.mpr ⟨_,av.mpr ⟨y,hy,rfl⟩,rfl⟩,if_pos ⟨y,hy,rfl,yk⟩⟩)
    have s3:=fZ (o:=.lst (((xj.map (·.nm)).map V.str).filterMap (Ks xj))) fB;generalize((xj.map (·.nm)).map V.str).filterMap (Ks xj)=lv at lm l0 s3⊢;have O3:=O2.same s3;have M3:=M2.same s3;walk_at"rd";have L4:LJ rk qt (i+1) v D2 xj:=⟨L2.Y,L2.nb,L2.sg,L2.qu,L2.rm,L2.t0,L2.fb,by have:=L2.wc;omega⟩;refine fX (fun e=>?_) fun e=>k D2 xj _ O3 L4 M3 p2 (by omega) e2 f2 (d2.trans s3.kU);obtain⟨dx,fs,hp,ft⟩:=O3.ex;rw[p2]at hp;have m1:=L2.Y.W.m1;walk_at"s";refine gq hp (om ft _) (Ip (.of bR) ⟨_,rfl,by omega,BO lv (aZ _ (by omega)) (aS _ (by omega)) fun x hx=>?_⟩);obtain⟨u,hu,rfl,ul⟩:=lm x hx;refine⟨c,1,rfl,by decide,fun a0 a1=>eG hp T.aJ T.fh ft.mo ⟨_,rfl,_,rfl,by omega,?_⟩⟩;have r0:=aZ (tX c 1) (show D2.most≠0 by omega);have r1:=aS (tX c 1) (show 0<D2.most by omega);generalize tX c 1 % D2.most=r at r0 r1⊢;obtain⟨n,nf,es,nr⟩:=L2.node hu;have nc:n.ch=none:=by
     have:n.ch.map _=if u.kd=gJ then none else _:=congrArg (·.2.2) es
     rw[if_pos ul]at this;exact Option.map_eq_none_iff.mp this
    refine⟨D2,u.nm,1+r,by rw[p2],O3,L2.Y.W,fun m hm=>⟨?_,.inl (L2.rm m hm)⟩,fun z=>absurd (z.resolve_left nr) (by rw[nf];simp),fun _ m hm z=>?_,fun _ m hm _=>⟨fun z=>absurd (by omega) z,fun lb=>⟨fun z=>?_,fun _ q H4 fq O4 d4=>hR _ _ ?_⟩⟩⟩
    ·have:=(O3.nd m hm).qu.r.len;have:=zwu hm;have:=L2.Y.CA;omega
    ·rw[nf]at hm;cases hm;exact absurd nc z
    ·rw[L2.rm m (jK hm).1]at z;cases z
    clear hR;rw[nf]at hm;cases hm
    have L5:=L2.oO (by omega) nf nc (q:=q) lb;obtain⟨CB,qp,rG,zk⟩:=O4.ex;have rG:H4 D2.p=_:=rG;rw[p2]at rG;walk_at"rd";have DW:∀b∈(TD.oO D2 n q (1+r)).foot,b∈D2.foot:=fun b hb=>(ZI (D:=D2) (n':={n with ps:=n.ps++[q],qu:=n.qu++[(D2.ct,1+r)]}) (Pb:=fun _=>False) (jK nf).1 (fun b hb=>.inl hb) b hb).elim id bE;have p5:(TD.oO D2 n q (1+r)).p=D.p:=p2;have t5:(TD.oO D2 n q (1+r)).tm=D.tm:=t2;have M4:=M3.kU O3 m2 d4;have m5:(TD.oO D2 n q (1+r)).most=D2.most:=rfl;generalize TD.oO D2 n q (1+r)=D5 at O4 L5 rG zk DW p5 t5 m5;refine gq rG (zk.Ku _ (by decide+kernel) (by decide+kernel) (by decide+kernel) (by decide+kernel) (by decide+kernel) (by decide+kernel)) (gq rG (zk.Ku _ (by decide+kernel) (by decide+kernel) (by decide+kernel) (by decide+kernel) (by decide+kernel) (by decide+kernel)) ⟨D5,by rw[p5],O4,c,2,rfl,by decide,fun b0 b1=>eG rG T.aJ T.fh zk.mo ⟨_,rfl,fun p6 f6=>BO _ (aZ _ (by decide)) (aS _ (by decide)) fun x hx=>?_⟩⟩);obtain⟨y,rfl,y0,y1⟩:∃y,x= .int y/\1<=y/\y<=1000001:=by simp only[ao,bf,or_false]at hx;rcases hx with z|z|z <;> exact⟨_,z,by omega,by omega⟩
    have u0:=aZ (tX c 2) (show y≠0 by omega);have u1:=aS (tX c 2) (show 0<y by omega);have s6:=fZ (o:=.lst [V.int 2,V.int 9,V.int (D5.most+1)]) f6;have t0:=L5.t0;have fb:=L5.fb;refine⟨_,rfl,_,rfl,by omega,_,rfl,?_⟩;generalize tX c 2 % y=z at u0 u1⊢;refine⟨D5,D5.tm+z,v,by rw[p5],O4.same s6,L5.Y,⟨t0,by omega,by omega,by omega⟩,L5.nb,fun q=>absurd q (by omega),fun tt D' H' rn fe O' dd=>?_⟩;obtain⟨L6,p6',_⟩:=L5.runs rn tt;have ne:∀{b o},b∉D.foot->H b=some o->b∉D2.foot:=fun{b o} n1 e1 z1=>(f2 b z1).elim n1 fun z2=>by rw[z2]at e1;cases e1
    refine k _ xj H' O' L6 ((M4.same s6).kU (O4.same s6) (fun z1=>m2 (DW _ z1)) dd) (p6'.trans p5) (by show D5.tm+z<=_;omega) e2 (fun b hb=>f2 b (DW b ?_)) fun b o nb e1=>?_
    ·rw[<-fe];exact hb
    ·have n2:=ne (fun z1=>nb (ai _ z1)) e1;exact dd _ _ (fun z1=>n2 (DW _ z1)) (s6 _ _ (d4 _ _ n2 (s3 _ _ (d2 b o nb e1)))))
  walk_at"rd";refine fX (fun e=>?_) fun e=>last D ws H1 w.sh O1 L M1 rfl rfl rfl (fun b hb=>.inl hb) s1.kU LA A1 Rk;refine bM fun R' Ln=>?_;walk_at"rd";refine⟨c / 32,rfl,fun sh H3 s3 OA OB=>Ln _ _ ?_⟩;clear Ln;have O3:=O1.same s3;obtain⟨dx,fs,hp,ft⟩:=O3.ex;obtain⟨n,nf,_,nr⟩:=L.node hw;refine bM fun R' Ln=>?_;walk_at"rd";refine gq hp (om ft _) ⟨D,w.nm,sh,rfl,O3,L.Y.W,L.Y.fit,fun z=>absurd (z.resolve_left nr) (by rw[nf];simp),fun _ _ z=>absurd ⟨OA,OB⟩ z,fun _ _ n' un cc H4 h1 h2 h3 h4 h5 O4 d4=>Ln _ _ ?_⟩;clear Ln;walk_at"rd";intro q fq;have s4:=fZ (o:=.tup [V.str w.ab,V.str w.kd,V.int sh]) fq;have h0:∀b o,b∉D.foot->H1 b=some o->aH H4 q (.tup [V.str w.ab,V.str w.kd,V.int sh]) b=some o:=fun b o nb z=>s4 _ _ (d4 _ _ nb (s3 _ _ z));have LF:aH H4 q (.tup [V.str w.ab,V.str w.kd,V.int sh]) q=some _:=bR;have O5:=O4.same s4;have L5:=L.gH (fun z=>hq z e) h1 h2 h3 h4 h5 ⟨OA,OB⟩ q;have DW:∀b∈(D.gH un cc w.nm sh).foot,b∈D.foot:=fun b hb=>(ZI (Pb:=fun _=>False) h3 (fun b hb=>.inl (by unfold ND.foot at hb⊢;rw[h4];exact hb)) b hb).elim id bE;generalize aH H4 q (.tup [V.str w.ab,V.str w.kd,V.int sh])=H5 at h0 LF O5⊢;have QI:=h0 _ _ A1 M1.hd;refine⟨_,lB.k (k:=az w.nm) QI (eX (by unfold mT;rw[ae];omega)),?_⟩;rw[Ue M.nd hw q sh];have ne:∀{b o},H5 b=some o->(∀kvs,o≠.dK kvs)->b≠md:=fun{b o} z1 z2 z=>by rw[z,QI]at z1;cases z1;exact z2 _ rfl
  have VJ:=h0 _ _ Rk LA;have nn:nl≠md:=ne VJ (by intro _ z;cases z);refine last (D.gH un cc w.nm sh) _ _ sh (O5.other (fun z=>A1 (DW _ z)) QI (by intro _ z;cases z)) L5 ⟨bR,fun u hu=>?_,?_⟩ rfl rfl ?_ (fun b hb=>.inl (DW b hb)) (fun b o nb z=>?_) (by rw[dj nn];exact VJ) (fun z=>A1 (DW _ z)) fun z=>Rk (DW _ z)
  ·obtain⟨y,hy,rfl⟩:=av.mp hu;by_cases ey:y.nm=w.nm
   ·rw[if_pos ey,zxl M.nd hy hw ey];show aH H5 md _ q=_;rw[dj (ne LF (by intro _ z;cases z))];exact LF
   ·rw[if_neg ey];have ht:=M1.ht y hy;have ht:=h0 _ _ (fun z=>by obtain⟨o,e1,e2⟩:=O1.at z;rw[ht]at e1;cases e1;exact e2 _ rfl) ht;rw[dj (ne ht (by intro _ z;cases z))];exact ht
  ·rw[bg];refine(aO fun y _=>?_:_=ws.map (·.nm))▸M.nd;show(if y.nm=w.nm then{y with sh:=sh,p:=q}else y).nm=y.nm;split <;> rfl
  ·rw[bg];refine aO fun y _=>?_;show((if y.nm=w.nm then{y with sh:=sh,p:=q}else y).nm,(if y.nm=w.nm then{y with sh:=sh,p:=q}else y).kd)=_;split <;> rfl
  ·have n1:b≠md:=fun y=>nb (y▸aj ..);rw[dj n1];exact h0 _ _ (fun y=>nb (ai _ y)) (s1 _ _ z)
theorem ZJ{H:Hp}{md L:Addr}{o:Obj}{ws:List MW}{y:Str}{g:TG}{tc:TT}{te:TE}{τ:L2.St}{Q:VK}(Pt:L2.St->Prop)(h0:Pt τ)(M:E4 o H md ws)(wl:ws.length<=60)(hL:H L=none)(hs:∀w∈ws,∀τ H' (N:L2.St->Hp->Prop),Pt τ->bI H H'->H' w.p=some (.tup [.str w.ab,.str w.kd,.int w.sh])->(w.ab=y->∀τ2,Pt τ2->∃ys,H' L=some (.lst ys)/\ys.length<sizeLine/\N τ2 (aH H' L (.lst (ys++[.int w.sh]))))->(w.ab≠y->∀τ2,Pt τ2->N τ2 H')->g (.ref w.p) τ H' fun τ2 H3=>tc τ2 H3 fun b H4=>if b=true then te τ2 H4 fun z H5=>∃ys,H5 L=some (.lst ys)/\ys.length<sizeLine/\N τ2 (aH H5 L (.lst (ys++[z])))else N τ2 H4)(hd:∀H6,bI H H6->H6 L=some (.lst (((eL ws y).map (·.2)).map V.int))->Q (.ref L) H6):pe (FJ md o (mT ws)) g tc te L τ (aH H L (.lst [])) Q:=by
 refine zwj (fun i τ H'=>Pt τ/\bI H H'/\H' L=some (.lst (((eL (ws.take i) y).map (·.2)).map V.int))) ⟨h0,fZ hL,bR⟩ (fun i τ H' _ h=>h.2.1 _ _ M.hd) ?_ ?_
 ·rintro i kv τ H6 j3 ⟨pt,sm,hl⟩;obtain⟨w1,hw,rfl⟩:∃w1,ws[i]?=some w1/\((az w1.nm:Key),V.ref w1.p)=kv:=by
   unfold mT at j3;rw[aK]at j3;cases e:ws[i]? with
   |none=>rw[e]at j3;cases j3
   |some p=>rw[e]at j3;exact⟨p,rfl,ak j3⟩
  have Nf:=aV hw;have kp:=UU (ws.take i) w1 y;rw[<-Cp hw]at kp;refine hs w1 Nf τ H6 _ pt sm (sm _ _ (M.ht w1 Nf)) (fun c τ2 p2=>⟨_,hl,eX ?_,p2,fun b u e=>?_,?_⟩) fun c τ2 p2=>⟨p2,sm,?_⟩
  ·unfold eL;rw[ae,ae,ae];have:=eN (fun w:MW=>decide (w.ab=y)) (ws.take i);rw[bV]at this;omega
  ·rw[dj (kW e hL)];exact sm _ _ e
  ·rw[bR,kp,if_pos c,aA,aA];rfl
  ·rw[kp,if_neg c,bw];exact hl
 ·rintro τ H6 ⟨_,sm,hl⟩;rw[show(mT ws).length=ws.length from ae _,bC]at hl;exact hd H6 sm hl
theorem Pj(nm:Nm):(nm.map (·.2)).sum=bu nm:=rfl
theorem LJ.len{rk:Bool}{qt:Prop}{i v:Nat}{D:TD}{ws:List MW}(L:LJ rk qt i v D ws):ws.length<=60:=by have a:=congrArg gG L.Oq;have b:=L.Y.ln;rw[ae,bj,ae]at a;omega
inductive BZ(C:Cl)(vs:List V)(H:Hp)(Q:VK)(E:XK):Prop|mk (rk qt:Bool) (o:Obj) (i v:Nat) (D:TD) (md:Addr) (ws:List MW) (w:MW) (p l:Rat) (h1:vs=[.ref D.p,.ref md,.str w.nm,.str (vV rk),.bl qt]) (h2:bQ C H D) (h3:LJ rk (qt=true) i v D ws) (h4:E4 o H md ws) (h5:w∈ws) (h6:PK rk (qt=true) D ws w p l) (h7:∀t a b H',bI H H'->H' t=some (.tup [.int a,.int b])->0<=a->1<=b->Sw.Sz 360 a->Sw.Sz 360 b->l*(b:Rat)=(a:Rat)->Q (.ref t) H'):BZ C vs H Q E
include T in
theorem zsc:rM P w K mg base (eW P w) 7 "_law_lack" ["_law_tree_here","_law_members_here","_law_name_here","_law_kind","_law_quiet"] (BZ (⟨cK,cU,cQ,cD,cK,cX⟩:Cl)):=by
 have k7:=Yd P w base T;have n6:=Y8 P w base T;refine T.wm.okN (k:=6) fj (fun vs H Q E h=>?_) (fun f b9 A outer s H vs Q E hr h=>?_)
 ·obtain⟨rk,qt,o,i,v,D,md,ws,w,p,l,rfl,_⟩:=h;rfl
 ·obtain⟨rk,qt,o,i,v,D,md,ws,w,p,l,rfl,O,L,M,hw,F,k⟩:=h;refine⟨_,(bS (dW (Df (DC (pv 4))) (c8 (gS (gh (cu:=[]) k7 (by simp) T.aJ (hr.mono (by decide)) aT (pv 0) (aL (pv 2) bB)))) kX) (bS (zyx (o8 (bY hr) (pv 1) (pv 2) (fun _ _=>rfl)) (NE (n:=3) K rfl rfl (Dz (nZ (i:=5) fj.nd rfl (by first|left;rfl|right;rfl)) (Dz (nZ (i:=6) fj.nd rfl (by first|left;rfl|right;rfl)) (Dz (nZ (i:=7) fj.nd rfl (by first|left;rfl|right;rfl)) Nz))))) (bS (dW (j7 sW (pv 5) kY (jL _)) (c8 (gA (i:=3) fj.nd rfl (bG (jb K rfl) (o8 (bY hr) (pv 1) (pv 5) (fun _ _=>rfl)) bP (fun _ _=>rfl)))) kX) (bS (Pe (i0:=8) ["_law_row"] [("_law_above",5)] rfl (by with_unfolding_all rfl) (by decide+kernel) rfl (by decide+kernel) (by exact⟨rfl,bh⟩) (by with_unfolding_all rfl) ⟨⟨rfl,rfl,rfl⟩,bh⟩ (ZC (pv 1)) (fun _ _ _=>(nZ (i:=0) (show(["_law_row","_law_above"]:List Str).Nodup from by decide+kernel) rfl (by first|left;rfl|right;rfl))) (fun _ _ _=>(Ij (j7 ji (bG (jb K rfl) (pv 0) bP (fun _ _=>rfl)) (pv 1) (jL _)))) (fun _ _ _=>(bG (jb K rfl) (pv 0) bP (fun _ _=>rfl))) (by with_unfolding_all rfl) fj.nd rfl (by first|left;rfl|right;rfl)) (bS (gA (i:=9) fj.nd rfl (eK (pv 0) rfl)) (bS (dW (j7 ji (pv 3) kY (jL _)) (c8 (gA (i:=9) fj.nd rfl (aM sL (eK (pv 0) rfl) (aM rL (eK (pv 0) rfl) (pv 7))))) kX) (bS (gA (i:=10) fj.nd rfl (aM sL (aM rL (aM rL (aM Fy (rC (EX K rfl) rfl T.jo boot_len (aL (pv 8) bB)) bP) (eK (pv 0) rfl)) (pv 7)) (aM rL (aM Fy (rC (Np K rfl rfl) rfl T.su boot_sum (aL (pv 8) bB)) (pv 7)) (pv 9)))) (bS (dW (Df (DC (ja n6 (hr.mono (by decide)) rfl aT (aL (gh (cu:=[]) k7 (by simp) T.aJ (hr.mono (by decide)) aT (pv 0) (aL (pv 2) bB)) (aL (pv 10) (aL (rC (Np K rfl rfl) rfl T.su boot_sum (aL (pv 8) bB)) bB)))))) (c8 (gS (wA (aL (HC zyy bP) (aL bP bB))))) kX) (c8 (gS (wA (aL (pv 10) (aL (rC (Np K rfl rfl) rfl T.su boot_sum (aL (pv 8) bB)) bB))))))))))))),?_⟩;show dG _ _ _ [some (.ref D.p),some (.ref md),some (.str w.nm),some (.str (vV rk)),some (.bl qt),none,none,none,none,none,none] H;walk_at"s";refine fX (fun q=>?_) fun q=>hR _ _ ?_
  ·obtain⟨dx,fs,hp,ft⟩:=O.ex;obtain⟨n,nf,_,nr⟩:=L.node hw;refine gq hp (om ft _) ⟨D,w.nm,_,v,rfl,O,L.Y,fun z=>absurd (z.resolve_left nr) (by rw[nf];simp),fun _ p' l' K8 t H1 s1 ht=>?_⟩;obtain⟨_,rfl⟩:=PL.det L.Y.W K8 F.pl;have d0:=Sw.iI l';refine k t l'.num l'.den H1 s1 ht (yY.mpr F.l0) (by omega) F.zl.n F.zl.d ?_;exact(Sw.pC l').symm
  clear hR;have q:qt=true:=by cases qt with|true=>rfl|false=>exact absurd rfl q
  walk_at"s";refine⟨_,M.get hw,_,rfl,_,.of (M.ht w hw),rfl,_,_,rfl,_,_,rfl,_,_,rfl,rfl,hR _ _ ?_⟩;clear hR;refine bM fun R hR=>?_;have last:∀kd,(w.ab=road->decide (kd=o6)=rk)->(∀u∈ws,u.nm=w.ab->decide (kd=o6)=decide (u.kd=o6))->R [some (.ref D.p),some (.ref md),some (.str w.nm),some (.str kd),some (.bl qt),some (.str w.ab),some (.str w.kd),some (.int w.sh),none,none,none] H:=fun kd k1 k2=>hR _ _ (by
   clear hR;have tp:=F.tp q _ k1 k2;walk_at"s";unfold U3;walk_at"rd";refine⟨_,_,M.hd,fun B hB=>?_⟩;have wl:=L.len;refine ZJ (y:=w.ab) (fun τ=>∃v0,τ=[v0,some (.str w.ab)]) ⟨none,rfl⟩ M wl hB ?_ ?_
   ·rintro u hu τ H6 N ⟨v0,rfl⟩ sm ht R1 no;walk_at"rd";exact jc (.of ht) (v:=.str u.ab) rfl ⟨rfl,fX (fun e=>jc (.of ht) (v:=.int u.sh) rfl (R1 (V.str.inj e) _ ⟨_,rfl⟩)) fun e=>no (fun z=>e (by rw[z])) _ ⟨_,rfl⟩⟩
   ·intro H7 s6 IY;refine hR _ _ ?_;clear hR;walk_at"s";obtain⟨dx,fs,hp,ft⟩:=(O.same s6).ex;refine eG hp T.aJ T.fh ft.mo (hR _ _ ?_);clear hR;refine bM fun R hR=>?_;have lst:R [some (.ref D.p),some (.ref md),some (.str w.nm),some (.str kd),some (.bl qt),some (.str w.ab),some (.str w.kd),some (.int w.sh),some (.ref B),some (.int (if decide (kd=o6)then D.most+D.most*w.sh else D.most)),none] H7:=hR _ _ (by
     clear hR;unfold JU at tp;have sp:0<=(if decide (kd=o6)=true then D.most+D.most*w.sh else D.most)/\(if decide (kd=o6)=true then D.most+D.most*w.sh else D.most)<=2000000000000:=by have:=L.Y.W.m1;have a:=gB (show 0<=D.most by omega) (show 0<=w.sh by have:=F.sh;omega);have b:=dS (show D.most<=1000000 by omega) F.sh.2 (by have:=F.sh;omega) (by decide);split <;> omega
     generalize(if decide (kd=o6)=true then D.most+D.most*w.sh else D.most)=st at sp tp⊢;walk_at"s";refine Ip (.of IY) ?_;walk_at"rd";refine eG hp T.aJ T.fh ft.mo ?_;rw[ae,ae];have m1:=L.Y.W.m1;have sh:=F.sh;have al:=F.al;have kl:=F.kl;generalize eL ws w.ab=nm at IY tp al kl⊢;have sz:∀{y:Int},-100000000000000000000<y->y<100000000000000000000->Sw.Sz 5000 y:=fun{y} a b=>(Sw.Sz.jI a b).mono (by decide);have a0:=gB (show 0<=(nm.length:Int)-1 by omega) (show 0<=D.most by omega);have a1:=dS (show(nm.length:Int)-1<=60 by omega) m1.2 (by omega) (by decide);have b0:=gB a0 (show 0<=w.sh by omega);have b1:=dS a1 sh.2 (by omega) (by decide);have c0:=gB (show 0<=bu nm-w.sh by omega) sp.1;have c1:=dS (show bu nm-w.sh<=1000000000000 by omega) sp.2 sp.1 (by decide);refine⟨_,rfl,⟨sz (by omega) (by omega),sz (by omega) (by omega)⟩,⟨sz (by omega) (by omega),sz (by omega) (by omega)⟩,B,_,rfl,.of IY,?_⟩;rw[Pj];refine⟨_,rfl,⟨sz (by omega) (by omega),sz (by omega) (by omega)⟩,hR _ _ ?_⟩;clear hR;have zt:Sw.Sz 200 (((nm.length:Int)-1)*D.most*w.sh+(bu nm-w.sh)*st):=Sw.Sz.r60 (by omega) (by omega);have t0:0<=((nm.length:Int)-1)*D.most*w.sh+(bu nm-w.sh)*st:=by omega
     generalize((nm.length:Int)-1)*D.most*w.sh+(bu nm-w.sh)*st=top at tp zt t0⊢;have za:Sw.Sz 200 (bu nm):=(Sw.Sz.jI (by omega) (by omega)).mono (by decide);walk_at"s";obtain⟨n,nf,_,nr⟩:=L.node hw;refine gq hp (om ft _) ⟨D,w.nm,_,v,rfl,O.same s6,L.Y,fun z=>absurd (z.resolve_left nr) (by rw[nf];simp),fun _ p' l' K8 t8 H8 s8 ht8=>?_⟩;obtain⟨_,rfl⟩:=PL.det L.Y.W K8 F.pl;refine⟨B,_,rfl,.of (s8 _ _ IY),?_⟩;rw[Pj];refine⟨t8,l',top,bu nm,rfl,ht8,F.l0,F.zl.mono (by decide),zt.mono (by decide),za.mono (by decide),JA (by omega) tp,?_⟩;walk_at"rd";refine hR _ _ ?_;walk_at"rd";refine⟨B,_,rfl,.of (s8 _ _ IY),?_⟩;rw[Pj];intro t9 f9;exact k t9 top (bu nm) _ ((s6.trans s8).trans (fZ f9)) bR t0 (by omega) (zt.mono (by decide)) (za.mono (by decide)) tp)
    walk_at"rd";refine fX (fun(e:kd=o6)=>?_) fun(e:¬kd=o6)=>?_
    ·rw[if_pos (decide_eq_true e)]at lst;exact eG hp T.aJ T.fh ft.mo (eG hp T.aJ T.fh ft.mo ⟨_,rfl,⟨(Sw.Sz.jI (by have:=L.Y.W.m1;omega) (by have:=L.Y.W.m1;omega)).mono (by decide),(Sw.Sz.jI (by have:=F.sh;omega) (by have:=F.sh;omega)).mono (by decide)⟩,_,rfl,lst⟩)
    ·rw[if_neg (by rw[decide_eq_true_iff];exact e)]at lst;exact lst)
  walk_at"rd";refine fX (fun e=>last _ (fun _=>(zzw rk).2) fun u hu z=>absurd (z.trans e) ((L.node hu).elim fun _ z=>z.2.2)) fun e=>?_;obtain⟨n,un,c,_,_,gZ,_,ea,_⟩:=L.over hw;rcases L.of gZ with⟨e1,_⟩ |⟨y,hy,es⟩
  ·exact absurd (ea.symm.trans e1) e
  have yn:y.nm=w.ab:=(congrArg (·.1) es).symm.trans ea;have dg:=M.get hy;rw[yn]at dg;refine⟨_,dg,jc (.of (M.ht y hy)) (v:=.str y.kd) rfl (last _ (fun z=>absurd z e) fun u hu z=>?_)⟩;have a:=J6 (fun w=>.str w.kd) M.nd hu;rw[z,<-yn,J6 (fun w=>.str w.kd) M.nd hy]at a;rw[V.str.inj (ak a)]
theorem Fl.det{D:TD}(W:D.Wf){as:List Str}{g d:Rat}(h:Fl D as g d):∀{g' d':Rat},Fl D as g' d'->g=g'/\d=d':=by
 induction h with
 |nil=>
  intro g' d' k;generalize e:([]:List Str)=as at k;cases k with
  |nil=>exact⟨rfl,rfl⟩
  |snoc _ _=>simp at e
 |snoc f pl ih=>
  intro g' d' k
  rename_i ys y _ _ _ _
  generalize e:ys++[y]=as at k;cases k with
  |nil=>simp at e
  |snoc f q=>
   obtain⟨e1,e2⟩:=List.append_inj' e rfl;cases e2
   subst e1;obtain⟨rfl,rfl⟩:=ih f;obtain⟨rfl,rfl⟩:=PL.det W pl q;exact⟨rfl,rfl⟩
structure FI(D:TD)(as:List Str)(i:Nat)(g d:Rat)(g0 g1 d0 d1:Int):Prop where
 fl:Fl D as g d
 pos:0<=g/\0<=d
 eg:g*(g1:Rat)=(g0:Rat)
 ed:d*(d1:Rat)=(d0:Rat)
 one:1<=g1/\1<=d1
 zg:Sw.Sz (70*i+70) g0/\Sw.Sz (70*i+70) g1
 zd:Sw.Sz (480*i+70) d0/\Sw.Sz (480*i+70) d1
 qg:Sw.eY (70*i+70) g
 qd:Sw.eY (432*i+70) d
theorem FI.nil(D:TD):FI D [] 0 1 0 1 1 0 1:=
 have z1:Sw.Sz 70 1:=Sw.Sz.jI (by decide) (by decide);have z0:Sw.Sz 70 0:=Sw.Sz.jI (by decide) (by decide)
 ⟨.nil,⟨by decide,by decide⟩,by decide+kernel,by decide+kernel,⟨by decide,by decide⟩,⟨z1,z1⟩,⟨z0,z1⟩,⟨z1,z1⟩,⟨z0,z1⟩⟩
theorem FI.step{rk:Bool}{qt:Prop}{D:TD}{ws:List MW}{w:MW}{as:List Str}{i:Nat}{g d p l:Rat}{g0 g1 d0 d1 l0 l1:Int}(h:FI D as i g d g0 g1 d0 d1)(F:PK rk qt D ws w p l)(hl:l*(l1:Rat)=(l0:Rat))(l1p:1<=l1)(z0:Sw.Sz 360 l0)(z1:Sw.Sz 360 l1):FI D (as++[w.nm]) (i+1) (g*p) (p*d+l) (g0*w.sh) (g1*bu (eL ws w.ab)) (d0*w.sh*l1+l0*(d1*bu (eL ws w.ab))) (d1*bu (eL ws w.ab)*l1):=by
 obtain⟨e1,e2⟩:=zup h.eg h.ed F.pa hl;have sh:=F.sh;have al:=F.al;have zs:Sw.Sz 70 w.sh:=Sw.Sz.jI (by omega) (by omega);have za:Sw.Sz 70 (bu (eL ws w.ab)):=Sw.Sz.jI (by omega) (by omega);have a0:1<=bu (eL ws w.ab):=by omega
 have Jl:∀{x y:Int},1<=x->1<=y->1<=x*y:=fun{x y} a b=>by have:=dS a b (by decide) (by omega);omega
 refine⟨h.fl.snoc F.pl,⟨lZ h.pos.1 F.p0,yX (lZ F.p0 h.pos.2) F.l0⟩,e1,e2,⟨Jl h.one.1 a0,Jl (Jl h.one.2 a0) l1p⟩,⟨(h.zg.1.mul zs).mono (by omega),(h.zg.2.mul za).mono (by omega)⟩,⟨?_,((h.zd.2.mul za).mul z1).mono (by omega)⟩,(h.qg.mul F.zp).mono (by omega),((F.zp.mul h.qd).add F.zl).mono (by omega)⟩;exact((((h.zd.1.mul zs).mul z1).mono (show _<=480*i+500 by omega)).add ((z0.mul (h.zd.2.mul za)).mono (show _<=480*i+500 by omega))).mono (by omega)
inductive HM(C:Cl)(vs:List V)(H:Hp)(Q:VK)(E:XK):Prop|mk (rk qt:Bool) (o:Obj) (i v:Nat) (D:TD) (md:Addr) (ws:List MW) (w:MW) (h1:vs=[.ref D.p,.ref md,.str w.nm,.str (vV rk),.bl qt]) (h2:bQ C H D) (h3:LJ rk (qt=true) i v D ws) (h4:E4 o H md ws) (h5:w∈ws) (h6:∀H',bI H H'->Q (.bl true) H'):HM C vs H Q E
include T in
theorem zqs:rM P w K mg base (eW P w) 8 "_law_floor" ["_law_tree_here","_law_members_here","_law_name_here","_law_kind","_law_quiet"] (HM (⟨cK,cU,cQ,cD,cK,cX⟩:Cl)):=by
 have Aq:=zuo P w base T;have yO:=zsc P w base T;have n6:=Y8 P w base T;have xz:=zxi P w base T;refine T.vc.okN (k:=7) eA (fun vs H Q E h=>?_) (fun f b9 A outer s H vs Q E hr h=>?_)
 ·obtain⟨rk,qt,o,i,v,D,md,ws,w,rfl,_⟩:=h;rfl
 ·obtain⟨rk,qt,o,i,v,D,md,ws,w,rfl,O,L,M,hw,k⟩:=h;refine⟨_,(bS (gA (i:=5) eA.nd rfl (wA (aL bP (aL bP bB)))) (bS (gA (i:=6) eA.nd rfl (wA (aL bP (aL bP bB)))) (bS (DE PassesOwn.never rfl (Ag K rfl (ja Aq (hr.mono (by decide)) rfl aT (aL (pv 1) (aL (pv 2) bB)))) (nZ (i:=7) eA.nd rfl (by first|left;rfl|right;rfl)) (bS (Pe (i0:=8) ["_law_row"] [("_law_members_here",1),("_law_one",7)] rfl (by with_unfolding_all rfl) (by decide+kernel) rfl (by decide+kernel) (by exact⟨rfl,⟨rfl,bh⟩⟩) (by with_unfolding_all rfl) ⟨⟨rfl,rfl,rfl⟩,⟨⟨rfl,rfl,rfl⟩,bh⟩⟩ (ZC (pv 1)) (fun _ _ _=>(nZ (i:=0) (show(["_law_row","_law_members_here","_law_one"]:List Str).Nodup from by decide+kernel) rfl (by first|left;rfl|right;rfl))) (fun _ _ _=>(Ij (j7 ji (bG (jb K rfl) (pv 0) bP (fun _ _=>rfl)) (bG (jb K rfl) (o8 (bY hr) (pv 1) (pv 2) (fun _ _=>rfl)) bP (fun _ _=>rfl)) (jL _)))) (fun _ _ _=>(bG (jb K rfl) (pv 0) bP (fun _ _=>rfl))) (by with_unfolding_all rfl) eA.nd rfl (by first|left;rfl|right;rfl)) (bS (gA (i:=9) eA.nd rfl (wA (aL (bG (jb K rfl) (o8 (bY hr) (pv 1) (pv 7) (fun _ _=>rfl)) bP (fun _ _=>rfl)) (aL (rC (Np K rfl rfl) rfl T.su boot_sum (aL (pv 8) bB)) bB)))) (bS (gA (i:=10) eA.nd rfl (ja yO (hr.mono (by decide)) rfl aT (aL (pv 0) (aL (pv 1) (aL (pv 7) (aL (pv 3) (aL (pv 4) bB))))))) (bS (dW (j7 qU (bG (jb K rfl) (pv 10) bP (fun _ _=>rfl)) bP (jL _)) (c8 (gS wQ)) kX) (bS (gA (i:=5) eA.nd rfl (wA (aL (aM rL (bG (jb K rfl) (pv 5) bP (fun _ _=>rfl)) (bG (jb K rfl) (pv 9) bP (fun _ _=>rfl))) (aL (aM rL (bG (jb K rfl) (pv 5) bP (fun _ _=>rfl)) (bG (jb K rfl) (pv 9) bP (fun _ _=>rfl))) bB)))) (bS (gA (i:=6) eA.nd rfl (wA (aL (aM rL (bG (jb K rfl) (pv 6) bP (fun _ _=>rfl)) (bG (jb K rfl) (pv 9) bP (fun _ _=>rfl))) (aL (aM rL (bG (jb K rfl) (pv 6) bP (fun _ _=>rfl)) (bG (jb K rfl) (pv 9) bP (fun _ _=>rfl))) bB)))) (c8 (gA (i:=6) eA.nd rfl (wA (aL (aM sL (aM rL (bG (jb K rfl) (pv 6) bP (fun _ _=>rfl)) (bG (jb K rfl) (pv 10) bP (fun _ _=>rfl))) (aM rL (bG (jb K rfl) (pv 10) bP (fun _ _=>rfl)) (bG (jb K rfl) (pv 6) bP (fun _ _=>rfl)))) (aL (aM rL (bG (jb K rfl) (pv 6) bP (fun _ _=>rfl)) (bG (jb K rfl) (pv 10) bP (fun _ _=>rfl))) bB)))))))))))) (bS (gA (i:=11) eA.nd rfl (ja xz (hr.mono (by decide)) rfl aT (aL (pv 0) (aL (pv 2) bB)))) (bS (dW (PW.pt (pw_or (Df (DC (rC (OO K rfl) rfl T.jA boot_isinstance (aL (pv 11) (aL (O9 (v:=.ty "tuple") rfl T.zL boot_tuple rfl) bB))))) (NI (j7 sW (rC (EX K rfl) rfl T.jo boot_len (aL (pv 11) bB)) bP (jL _))))) (c8 (gS wQ)) kX) (c8 (gS (NK (ja n6 (hr.mono (by decide)) rfl aT (aL (bG (jb K rfl) (pv 11) bP (fun _ _=>rfl)) (aL (bG (jb K rfl) (pv 5) bP (fun _ _=>rfl)) (aL (bG (jb K rfl) (pv 5) bP (fun _ _=>rfl)) bB)))) (NJ (ja n6 (hr.mono (by decide)) rfl aT (aL (bG (jb K rfl) (pv 11) bP (fun _ _=>rfl)) (aL (bG (jb K rfl) (pv 6) bP (fun _ _=>rfl)) (aL (bG (jb K rfl) (pv 6) bP (fun _ _=>rfl)) bB))))))))))))),?_⟩;show dG _ _ _ [some (.ref D.p),some (.ref md),some (.str w.nm),some (.str (vV rk)),some (.bl qt),none,none,none,none,none,none,none] H;have W:=L.Y.W;walk_at"s";intro pr fr;refine hR _ _ ?_;clear hR;walk_at"s";intro pb fb;refine hR _ _ ?_;clear hR;have s2:=(fZ (o:=.tup [V.int 1,V.int 1]) fr).trans (fZ (o:=.tup [V.int 0,V.int 1]) fb);have VS:=fZ (o:=.tup [V.int 0,V.int 1]) fb pr (.tup [V.int 1,V.int 1]) bR;have Vw:aH (aH H pr (.tup [V.int 1,V.int 1])) pb (.tup [V.int 0,V.int 1]) pb=some _:=bR;generalize aH (aH H pr (.tup [V.int 1,V.int 1])) pb (.tup [V.int 0,V.int 1])=H2 at s2 VS Vw⊢;have wl:=L.len;obtain⟨n,nf,_,nr⟩:=L.node hw;obtain⟨ys,U,yl⟩:=W.up n (jK nf).1;rw[(jK nf).2]at U;have wy:=zzu W U;have yl:ys.reverse.tail.length<=5:=by rw[jR,dI];omega
  refine bM fun R hR=>?_;refine DB fun Z hZ=>?_;walk_at"rd";refine⟨D,o,md,ws,w.nm,ys,rfl,M.same s2,L.abs,W,U,by rw[jR,dI]at yl;omega,fun l H3 s3 fl hl=>⟨l,rfl,⟨_,.of hl⟩,hZ _ _ ?_⟩⟩;clear hZ;have JH:=s2.trans s3;have J0:=FI.nil D;generalize eys:ys.reverse.tail=zs at wy yl hl;refine GR (K:=K) (a:=l) (xs:=zs.map V.str) (fun i σ H'=>∃v7 v8 v9 ON pr pb g d g0 g1 d0 d1,σ=[some (.ref D.p),some (.ref md),some (.str w.nm),some (.str (vV rk)),some (.bl qt),some (.ref pr),some (.ref pb),v7,v8,v9,ON,none]/\bI H3 H'/\H' pr=some (.tup [.int g0,.int g1])/\H' pb=some (.tup [.int d0,.int d1])/\FI D (zs.take i) i g d g0 g1 d0 d1) ⟨none,none,none,none,pr,pb,1,0,1,1,0,1,rfl,fun _ _ e=>e,s3 _ _ VS,s3 _ _ Vw,J0⟩ (fun i σ H' _⟨_,_,_,_,_,_,_,_,_,_,_,_,_,h,_⟩=>.of (h _ _ hl)) ?_ ?_
  ·rintro j w0 σ H4 hv ⟨v7,v8,v9,ON,pr,pb,g,d,g0,g1,d0,d1,rfl,s4,Gf,Qp,J⟩;obtain⟨y,hy,rfl⟩:∃y,zs[j]?=some y/\V.str y=w0:=by
    rw[aK]at hv;cases e:zs[j]? with
    |none=>rw[e]at hv;cases hv
    |some z=>rw[e]at hv;exact⟨z,rfl,ak hv⟩
   have j5:j<5:=by have:=(aD.mp hy).1;omega
   obtain⟨yr,yf⟩:=wy y (aV hy);obtain⟨u,hu,rfl⟩:∃u∈ws,u.nm=y:=by
    cases e:bz D.ns y with
    |none=>exact absurd e yf
    |some m=>exact(L.abs y m yr e).elim fun u h=>⟨u,h.1,h.2.1⟩
   obtain⟨p,lk,F⟩:=L.Rb hu;have O4:=O.same (JH.trans s4);have M4:=M.same (JH.trans s4);show dG _ _ _ [some (.ref D.p),some (.ref md),some (.str w.nm),some (.str (vV rk)),some (.bl qt),some (.ref pr),some (.ref pb),some (.str u.nm),v8,v9,ON,none] H4;refine An fun N hN=>?_;walk_at"s";unfold U3;walk_at"rd";refine⟨_,_,M4.hd,fun B hB=>?_⟩;refine ZJ (y:=u.ab) (fun τ=>∃v0,τ=[v0,some (.ref md),some (.str u.nm)]) ⟨none,rfl⟩ M4 wl hB ?_ ?_
   ·rintro x hx τ H6 N' ⟨v0,rfl⟩ sm ht R1 no;have M6:=M4.same sm;walk_at"rd";exact jc (.of ht) (v:=.str x.ab) rfl ⟨_,M6.get hu,jc (.of (M6.ht u hu)) (v:=.str u.ab) rfl ⟨rfl,fX (fun e=>jc (.of ht) (v:=.int x.sh) rfl (R1 (V.str.inj e) _ ⟨_,rfl⟩)) fun e=>no (fun z=>e (by rw[z])) _ ⟨_,rfl⟩⟩⟩
   ·intro H7 s6 IY;refine hR _ _ ?_;clear hR;have M7:=M4.same s6;walk_at"s";refine⟨_,M7.get hu,jc (.of (M7.ht u hu)) (v:=.int u.sh) rfl ⟨B,_,rfl,.of IY,?_⟩⟩;rw[Pj];intro pp fp;refine hR _ _ ?_;clear hR;have s8:=s6.trans (fZ (o:=.tup [V.int u.sh,V.int (bu (eL ws u.ab))]) fp);have VP:aH H7 pp (.tup [V.int u.sh,V.int (bu (eL ws u.ab))]) pp=some (.tup [V.int u.sh,V.int (bu (eL ws u.ab))]):=bR;generalize aH H7 pp (.tup [V.int u.sh,V.int (bu (eL ws u.ab))])=H8 at s8 VP⊢;walk_at"s";refine⟨rk,qt,o,i,v,D,md,ws,u,p,lk,rfl,O4.same s8,L,M4.same s8,hu,F,fun t a b H9 s9 ht a0 b1 za zb el=>hR _ _ ?_⟩;clear hR;have J':=J.step F el b1 za zb;rw[<-Cp hy]at J';have s9:=s8.trans s9;have Oc:=‹bI H8 H9› _ _ VP;have VU:=s9 _ _ Gf;have Vy:=s9 _ _ Qp;have Zc:Sw.Sz 5000 u.sh:=(Sw.Sz.jI (by have:=F.sh;omega) (by have:=F.sh;omega)).mono (by decide);have Ws:Sw.Sz 5000 (bu (eL ws u.ab)):=(Sw.Sz.jI (by have:=F.sh;have:=F.al;omega) (by have:=F.al;omega)).mono (by decide);walk_at"s";refine jc (.of ht) (v:=.int a) rfl ?_;walk_at"rd";rw[if_neg (by omega)];refine hR _ _ ?_;clear hR;walk_at"s";refine jc (.of VU) (v:=.int g0) rfl (jc (.of Oc) (v:=.int u.sh) rfl ⟨_,rfl,_,rfl,⟨J.zg.1.mono (by omega),Zc⟩,jc (.of VU) (v:=.int g1) rfl (jc (.of Oc) (v:=.int (bu (eL ws u.ab))) rfl ⟨_,rfl,_,rfl,⟨J.zg.2.mono (by omega),Ws⟩,fun q1 f1=>hR _ _ ?_⟩)⟩);clear hR;have t1:=fZ (o:=.tup [V.int (g0*u.sh),V.int (g1*bu (eL ws u.ab))]) f1;have h1:aH H9 q1 (.tup [V.int (g0*u.sh),V.int (g1*bu (eL ws u.ab))]) q1=some _:=bR;generalize aH H9 q1 (.tup [V.int (g0*u.sh),V.int (g1*bu (eL ws u.ab))])=HA at t1 h1⊢;walk_at"s";refine jc (.of (t1 _ _ Vy)) (v:=.int d0) rfl (jc (.of (t1 _ _ Oc)) (v:=.int u.sh) rfl ⟨_,rfl,_,rfl,⟨J.zd.1.mono (by omega),Zc⟩,jc (.of (t1 _ _ Vy)) (v:=.int d1) rfl (jc (.of (t1 _ _ Oc)) (v:=.int (bu (eL ws u.ab))) rfl ⟨_,rfl,_,rfl,⟨J.zd.2.mono (by omega),Ws⟩,fun q2 f2=>hR _ _ ?_⟩)⟩);clear hR;have t2:=fZ (o:=.tup [V.int (d0*u.sh),V.int (d1*bu (eL ws u.ab))]) f2;have h2:aH HA q2 (.tup [V.int (d0*u.sh),V.int (d1*bu (eL ws u.ab))]) q2=some (.tup [V.int (d0*u.sh),V.int (d1*bu (eL ws u.ab))]):=bR;generalize aH HA q2 (.tup [V.int (d0*u.sh),V.int (d1*bu (eL ws u.ab))])=HB at t2 h2⊢;have ht:=t2 _ _ (t1 _ _ ht);have zs':Sw.Sz 70 u.sh:=Sw.Sz.jI (by have:=F.sh;omega) (by have:=F.sh;omega);have za':Sw.Sz 70 (bu (eL ws u.ab)):=Sw.Sz.jI (by have:=F.sh;have:=F.al;omega) (by have:=F.al;omega);have zx:=(J.zd.1.mul zs').mono (show _<=5000 by omega);have zy:=(J.zd.2.mul za').mono (show _<=5000 by omega);walk_at"rd";refine jc (.of h2) (v:=.int (d0*u.sh)) rfl (jc (.of ht) (v:=.int b) rfl ⟨_,rfl,_,rfl,⟨zx,zb.mono (by decide)⟩,jc (.of ht) (v:=.int a) rfl (jc (.of h2) (v:=.int (d1*bu (eL ws u.ab))) rfl ⟨_,rfl,_,rfl,⟨za.mono (by decide),zy⟩,jc (.of h2) (v:=.int (d1*bu (eL ws u.ab))) rfl (jc (.of ht) (v:=.int b) rfl ⟨_,rfl,_,rfl,⟨zy,zb.mono (by decide)⟩,fun q3 f3=>hN _ _ ?_⟩)⟩)⟩);have t3:=fZ (o:=.tup [V.int (d0*u.sh*b+a*(d1*bu (eL ws u.ab))),V.int (d1*bu (eL ws u.ab)*b)]) f3;exact⟨_,_,_,_,q1,q3,_,_,_,_,_,_,rfl,(((s4.trans s9).trans t1).trans t2).trans t3,t3 _ _ (t2 _ _ h1),bR,J'⟩
  ·rintro σ H4 ⟨v7,v8,v9,ON,pr,pb,g,d,g0,g1,d0,d1,rfl,s4,Gf,Qp,J⟩;refine hR _ _ ?_;clear hR;rw[ae,bC]at J;have O4:=O.same (JH.trans s4);walk_at"s";refine⟨D,w.nm,_,v,rfl,O4,L.Y,fun z=>absurd (z.resolve_left nr) (by rw[nf];simp),fun _ Nj g' d' U' F' t a b H5 s5 ht ha hb=>hR _ _ ?_⟩;clear hR;rw[<-U.det U',eys]at F';obtain⟨rfl,rfl⟩:=F'.det W J.fl;have VT:=s5 _ _ Gf;have Vx:=s5 _ _ Qp;walk_at"s";refine⟨_,_,_,_,true,rfl,rfl,.tup ht,YH,_,rfl,?_⟩;walk_at"rd";refine ZQ (.of ht) ⟨rfl,?_⟩;rw[if_pos (show(V.int (([V.ref a,V.ref b]:List V).length:Nat):V)=V.int 2 from rfl)];refine hR _ _ ?_;clear hR;walk_at"rd";refine jc (.of ht) (v:=.ref a) rfl (jc (.of VT) (v:=.int g0) rfl (jc (.of VT) (v:=.int g1) rfl ⟨a,_,g0,g1,rfl,ha,J.pos.1,J.qg.mono (by omega),J.zg.1.mono (by omega),J.zg.2.mono (by omega),JA (by have:=J.one;omega) J.eg,_,rfl,?_⟩));rw[if_pos rfl];exact jc (.of ht) (v:=.ref b) rfl (jc (.of Vx) (v:=.int d0) rfl (jc (.of Vx) (v:=.int d1) rfl ⟨b,_,d0,d1,rfl,hb,J.pos.2,J.qd.mono (by omega),J.zd.1.mono (by omega),J.zd.2.mono (by omega),JA (by have:=J.one;omega) J.ed,k _ ((JH.trans s4).trans s5)⟩))
structure KJ(C:Cl)(rk qt:Bool)(x sl md:Addr)(ms:List V)(nk:List (Str×Str))(v i:Nat)(H:Hp)(D:TD)(ws:List MW):Prop where
 O:bQ C H D
 L:LJ rk (qt=true) i v D ws
 M:pN H md ws
 p:D.p=x
 nm:md∉D.foot
 hs:H sl=some (.lst ms)
 ns:sl∉D.foot
 e:ws.map (fun w=>(w.nm,w.kd))=nk
 tb:D.tm<=(i:Int)*1000000
theorem Uf{f:Addr}{fd:FuncData}(F:Iw K "law" "law" qY f fd)(T:Txt K mg cH cV cF cI cJ cG cW cO cD cA cU cQ cK cX):rO P w K mg base J9 11 f fd ["_law_script"] (B0 K):=by
 have uu:=zmp P w base T;have uv:=zms P w base T;have yQ:=zsa P w base T;have yN:=zsb P w base T;have xx:=zqs P w base T;have nA:=zmr P w base T;refine F.ok nU (fun vs H Q E h=>?_) (fun b9 A outer s H vs Q E hr h=>?_)
 ·obtain⟨a,ns,rfl,_⟩:=h;rfl
 ·obtain⟨sc,ns,rfl,hS,fK,k⟩:=h;refine⟨_,(bS (gA (i:=1) nU.nd rfl (ja uu (hr.mono (by decide)) rfl aT (aL (pv 0) (aL bP bB)))) (bS (gA (i:=2) nU.nd rfl (ja uv (hr.mono (by decide)) rfl aT (aL (aM Af (pv 1) bP) (aL (aM sL bP (aM rE (aM Af (pv 1) bP) bP)) bB)))) (bS (gA (i:=3) nU.nd rfl (ja yQ (hr.mono (by decide)) rfl aT (aL (aM sL (aM rE (pv 1) bP) (aM To (aM Af (pv 1) bP) bP)) (aL (pv 2) bB)))) (bS (gA (i:=4) nU.nd rfl (GW ji (aM rE (aM Af (pv 1) bP) bP) bP (jL _))) (bS (DE PassesOwn.never rfl (Ag K rfl (OW (Zg K rfl) (pv 0) (NB bP) (NB bP))) (nZ (i:=5) nU.nd rfl (by first|left;rfl|right;rfl)) (bS (dW (PW.pt (Im (DC (pv 4)) (J1 (j7 ji (aM rE (pv 5) bP) bP (jL _))))) (c8 (gA (i:=5) nU.nd rfl (aM sL (pv 5) bP))) kX) (c8 (j6 (ja yN (hr.mono (by decide)) rfl aT (aL (pv 3) (aL (pv 2) (aL (pv 5) bB)))))))) (bS (Sn PassesOwn.never rfl (pv 2) (nZ (i:=6) nU.nd rfl (by first|left;rfl|right;rfl)) (c8 (dW (Df (DC (ja xx (hr.mono (by decide)) rfl aT (aL (pv 3) (aL (pv 2) (aL (pv 6) (aL (bG (DA K rfl) (Dg (aL kY (aL kY bB))) (aM Af (aM rE (pv 1) bP) bP) (fun _ _=>rfl)) (aL (pv 4) bB)))))))) (c8 (gS wQ)) kX))) (c8 (gS (NK (ja nA (hr.mono (by decide)) rfl aT (aL (pv 3) (aL kY bB))) (NJ (ja nA (hr.mono (by decide)) rfl aT (aL (pv 3) (aL kY bB))))))))))))),?_⟩;show dG _ _ _ [some (.ref sc),none,none,none,none,none,none] H;walk_at"s";refine zvm hS (by omega) (hR _ _ ?_);clear hR;generalize sS ns 0=c;walk_at"s";refine⟨c / 128,_,rfl,by omega,by omega,fun md H1 Fq s1 Li M gd wl lf=>hR _ _ ?_⟩;clear hR;walk_at"s";refine⟨.inr ⟨by decide,by decide⟩,_,md,Fq,rfl,M,gd,by omega,fun D0 H2 O0 L0 tm0 s2 ft=>hR _ _ ?_⟩;clear hR;rw[show(c % 8+c / 64*8) / 4 % 2=c % 8 / 4 by omega]at L0;have rkb:c % 8 / 4=0\/c % 8 / 4=1:=by omega
  walk_at"s";refine hR _ _ ?_;clear hR;have hS:=s2.seq (s1.seq hS);have M2:=M.same s2;have A1:md∉D0.foot:=fun z=>by have:=ft _ z;rw[M.hd]at this;cases this
  refine bM fun R hR=>?_;refine DB fun Z hZ=>?_;walk_at"rd";obtain⟨ms,em,hm⟩:=zvp ns (some 1) (some 31);have ml:ms.length<=30:=by have:=SX (ns.map V.int) 1 31;rw[show qE (ns.map V.int) (some ((1:Nat):Int)) (some ((31:Nat):Int))=qE (ns.map V.int) (some 1) (some 31)from rfl,em,ae]at this;exact this
  refine zze hS fun sl QZ=>?_;walk_at"rd";refine⟨⟨_,.of bR⟩,hZ _ _ ?_⟩;clear hZ;rw[em];have s3:=fZ (o:=.lst (ms.map V.int)) QZ;have V4:∃a∈Fq.map (fun w=>(w.nm,w.kd)),a.2=gJ:=lf.elim fun w h=>⟨_,av.mpr ⟨w,h.1,rfl⟩,h.2⟩;have nb:∀a∈Fq.map (fun w=>(w.nm,w.kd)),a.1≠Hj:=fun a ha=>by obtain⟨w,hw,rfl⟩:=av.mp ha;obtain⟨j,e⟩:=fU.mp hw;exact(gd j w e).nr.2
  have nl:(Fq.map (fun w=>(w.nm,w.kd))).length<=8:=by rw[ae];omega
  generalize decide (c / 4096 % 2=1)=qt;have J0:KJ (⟨cK,cU,cQ,cD,cK,cX⟩:Cl) (decide (c % 8 / 4=1)) qt D0.p sl md (ms.map V.int) (Fq.map (fun w=>(w.nm,w.kd))) Fq.length 0 (aH H2 sl (.lst (ms.map V.int))) D0 Fq:=⟨O0.same s3,⟨L0.Y,L0.nb,L0.sg,fun _=>L0.qu trivial,L0.rm,L0.t0,L0.fb,L0.wc⟩,M2.same s3,rfl,A1,bR,O0.free QZ,rfl,by rw[tm0];decide⟩;generalize aH H2 sl (.lst (ms.map V.int))=H3 at J0⊢;generalize Fq.map (fun w=>(w.nm,w.kd))=nk at V4 nb nl J0;generalize Fq.length=v at J0;generalize D0.p=x at J0⊢;clear s3 QZ hS M2 A1 ft O0 L0 M s1 s2 Li wl lf gd;refine GR (K:=K) (a:=sl) (xs:=ms.map V.int) (fun i σ H'=>∃v5 D ws,σ=[some (.ref sc),some (.int c),some (.ref md),some (.ref x),some (.bl qt),v5,none]/\KJ (⟨cK,cU,cQ,cD,cK,cX⟩:Cl) (decide (c % 8 / 4=1)) qt x sl md (ms.map V.int) nk v i H' D ws) ⟨_,D0,Fq,rfl,J0⟩ (fun i σ H' _⟨_,_,_,_,h⟩=>.of h.hs) ?_ ?_
  ·rintro i w0 σ H4 hv ⟨v5,D,ws,rfl,J⟩;obtain⟨y,rfl⟩:∃y,w0=V.int y:=by
    rw[aK]at hv;cases e:ms[i]? with
    |none=>rw[e]at hv;cases hv
    |some z=>rw[e]at hv;cases hv;exact⟨z,rfl⟩
   have hi:i<30:=by have:=(aD.mp hv).1;rw[ae]at this;omega
   show dG _ _ _ [some (.ref sc),some (.int c),some (.ref md),some (.ref x),some (.bl qt),some (.int y),none] H4;refine An fun N hN=>?_;refine bM fun R hR=>?_;have last:∀y',(qt=true->y' % 4≠0)->R [some (.ref sc),some (.int c),some (.ref md),some (.ref x),some (.bl qt),some (.int y'),none] H4:=fun y' hq=>hR _ _ (by
    clear hR;have tb:=J.tb;walk_at"rd";refine⟨_,qt=true,i,v,D,md,ws,y',by rw[J.p],J.O,J.L,J.M,J.nm,by omega,by omega,?_,?_,hq,fun D' Ng H' O' L' M' p' t' e' f' d'=>hN _ _ ⟨_,D',Ng,rfl,O',L',M',p'.trans J.p,fun z=>(f' _ z).elim J.nm fun q=>?_,d' _ _ (fun z=>?_) J.hs,fun z=>(f' _ z).elim J.ns fun q=>?_,e'.trans J.e,by have:((i+1:Nat):Int)=(i:Int)+1:=rfl;omega⟩⟩
    ·obtain⟨a,ha,al⟩:=V4;rw[<-J.e]at ha;obtain⟨u,hu,rfl⟩:=av.mp ha;exact⟨u,hu,al⟩
    ·rw[<-J.e,ae]at nl;exact nl
    ·rw[J.M.hd]at q;cases q
    ·rcases ao.mp z with q|q
     ·have:=J.M.hd;rw[<-q,J.hs]at this;cases this
     ·exact J.ns q
    ·rw[J.hs]at q;cases q)
   walk_at"rd";exact fX (fun _=>fX (fun e=>last _ fun _=>by omega) fun e=>last _ fun _=>e) fun e=>last _ fun z=>absurd z e
  ·rintro σ H4 ⟨v5,D,ws,rfl,J⟩;refine hR _ _ ?_;clear hR;generalize(ms.map V.int).length=i at J;refine bM fun R hR=>?_;refine⟨_,rfl,md,_,rfl,J.M.hd,fun o=>?_⟩;have MF:E4 o (aH H4 md (.jm o (.dK (mT ws)))) md ws:=⟨bR,fun u hu=>by have ht:=J.M.ht u hu;rw[dj (fun z=>by rw[z,J.M.hd]at ht;cases ht)];exact ht,J.M.nd⟩
   have OF:=J.O.other (o':=.jm o (.dK (mT ws))) J.nm J.M.hd (by intro _ z;cases z);generalize aH H4 md (.jm o (.dK (mT ws)))=HF at MF OF⊢;refine zyb (kvs:=mT ws) (fun i σ H'=>∃v6,σ=[some (.ref sc),some (.int c),some (.ref md),some (.ref x),some (.bl qt),v5,v6]/\bI HF H') ⟨_,rfl,fun _ _ z=>z⟩ (fun i σ H' _⟨_,_,sm⟩=>sm _ _ MF.hd) ?_ ?_
   ·rintro j kv σ H6 j3 ⟨v6,rfl,sm⟩;obtain⟨w0,hw,rfl⟩:∃w0,ws[j]?=some w0/\((az w0.nm:Key),V.ref w0.p)=kv:=by
     unfold mT at j3;rw[aK]at j3;cases e:ws[j]? with
     |none=>rw[e]at j3;cases j3
     |some p=>rw[e]at j3;exact⟨p,rfl,ak j3⟩
    show rh _ _ _ _ [some (.ref sc),some (.int c),some (.ref md),some (.ref x),some (.bl qt),v5,some (.str w0.nm)] H6;refine An fun N hN=>?_;walk_at"rd";intro p fp;have sm:=sm.trans (fZ (o:=.lst [V.str (Str.ofString "starts"),V.str (Str.ofString "rounds")]) fp);exact V1 rkb ⟨_,qt,o,i,v,D,md,ws,w0,by rw[J.p],OF.same sm,J.L,MF.same sm,aV hw,fun H8 s8=>⟨_,rfl,hN _ _ ⟨_,rfl,sm.trans s8⟩⟩⟩
   ·rintro σ H6 ⟨v6,rfl,sm⟩;refine hR _ _ ?_;have O7:=(OF.same sm).other (o':=.dK (mT ws)) J.nm (sm _ _ MF.hd) (by intro _ z;cases z);generalize aH H6 md (.dK (mT ws))=H7 at O7⊢;walk_at"rd";refine⟨D,Str.ofString "road",_,v,by rw[J.p],O7,J.L.Y,.inl rfl,fun H8 s8=>⟨_,rfl,?_⟩⟩;rw[if_pos rfl];refine⟨D,_,_,v,by rw[J.p],O7.same s8,J.L.Y,.inr ?_,fun H9 _=>k H9⟩;rw[nG,J.L.Oq];intro z;rcases ao.mp z with q|q
    ·exact absurd q (by decide+kernel)
    ·obtain⟨u,hu,e⟩:=av.mp q;exact nb (u.nm,u.kd) (by rw[<-J.e];exact av.mpr ⟨u,hu,rfl⟩) e
end
theorem all_mk{l:uB}{w:World}{K:aa}{h:Heap}{mg:Str->Option Value}{fa f qa qb qc qd qe qf qg qh qi qj qk ql qm qn:Addr}(X:K.In h)(G:h.Ns mainGlobals mg)(hfa:mg "law"=some (.ref fa)){od an:Option Addr}{sl:Array (Option Value)}{oc kV dc pm cd ct:Value}(a:mU K mainGlobals "law"=some (some (.ref f)))(lk:K.lookup f=some ⟨oc,od,.func (bK "law" "law" (xn qY) (rK qY) (dX qY) .none kV dc pm an cd ct),sl⟩)(c:dM K cd "law"=true)(k:br K (.ref f)=true)(T:Txt K mg qa qb qc qd qe qf qg qh qi qj qk ql qm qn):∃fd:FuncData,(∀(s:Shared)(v:Value),BindsTo s fd ⟨[v],[]⟩ [("_law_script",v)])/\∀base:Heap,K.In base->base.Ns mainGlobals mg->rO l.prog w K mg base J9 11 fa fd ["_law_script"] (B0 K):=by
  have e:=hfa.symm.trans (fE X G a);cases e
  exact⟨bK "law" "law" (xn qY) (rK qY) (dX qY) .none kV dc pm an cd ct,fun s v=>.of_eq rfl,fun base _ _=>Uf _ _ _ (KU (st:=qY) lk c k) T⟩
theorem walk{l:uB}{q:Program}{wO:List Str}{XP:(Str->Option Value)->Heap->Prop}{YP:World->Heap->Prop}{d:DefRec}{K:Params->aa}(hn:l.most=some 63)(Ls:d.params.defaults=[])(hY:∀(w:World)(h:Heap),YP w h->(K w.params).In h)(F:∀(w:World)(mg:Str->Option Value)(fa:Addr)(h:Heap),(K w.params).In h->h.Ns mainGlobals mg->mg d.name=some (.ref fa)->
      ∃fd:FuncData,(∀(s:Shared)(u:Value),BindsTo s fd ⟨[u],[]⟩ [("_law_script",u)])/\∀base:Heap,(K w.params).In base->base.Ns mainGlobals mg->rO l.prog w (K w.params) mg base J9 11 fa fd ["_law_script"] (B0 (K w.params))):
    G7 q wO XP YP l.row.toRowW d [] (fun f vs=>DO f vs):=
  L2.GO (n:=63) (k:=11) (x:="_law_script") (CX:=fun _=>J9) (sp:=fun w=>B0 (K w.params)) hn (by decide) Ls ⟨rfl,by decide,by decide⟩ hY F (fun _ _ a ns hl _ hS=>⟨a,ns,rfl,hS,hl,fun _=>rfl⟩) fun _ _ _ _ _ z=>z
end K71
namespace PySem.W.Fast
theorem te4857393948831526898:True:=⟨⟩
theorem tw10689178053970577947:True:=⟨⟩
theorem tw9923383829803056472:True:=⟨⟩
theorem tw11755884604927610179:True:=⟨⟩
theorem tw11149430151837880194:True:=⟨⟩
theorem tw17289547163662724295:True:=⟨⟩
theorem tw13679436367793299755:True:=⟨⟩
theorem tw227769833471789204:True:=⟨⟩
theorem tw7317025472657666030:True:=⟨⟩
theorem tw16493479652246894087:True:=⟨⟩
theorem tw17660618745570181960:True:=⟨⟩
theorem tw16254104493929864164:True:=⟨⟩
theorem tw16759194939431223390:True:=⟨⟩
theorem tw17546357499874445150:True:=⟨⟩
theorem tw2248517048740307623:True:=⟨⟩
theorem tw12734597934256330347:True:=⟨⟩
theorem tw6541388247418107713:True:=⟨⟩
theorem tw16946875403464632080:True:=⟨⟩
theorem tw9148094205325274438:True:=⟨⟩
theorem tw11503016608681487461:True:=⟨⟩
theorem tw14440860445184297465:True:=⟨⟩
theorem tw16203825362928265493:True:=⟨⟩
theorem tw518203933077609463:True:=⟨⟩
theorem tw17398306060935061530:True:=⟨⟩
theorem tw6158436045819888204:True:=⟨⟩
theorem tw1677750870329494839:True:=⟨⟩
theorem tw9783753172919551274:True:=⟨⟩
theorem tw8286926717411391933:True:=⟨⟩
theorem tw9983020225660986399:True:=⟨⟩
theorem tw9222937699256489470:True:=⟨⟩
theorem tw17949324522663602560:True:=⟨⟩
theorem tw8189939713053316700:True:=⟨⟩
theorem tw6999115196989129182:True:=⟨⟩
theorem tw688400302689734966:True:=⟨⟩
theorem tw10826126500813190441:True:=⟨⟩
theorem tw6324586720130718561:True:=⟨⟩
theorem tw14157881914374592677:True:=⟨⟩
theorem tw2736332993623742890:True:=⟨⟩
theorem tw528841210902512650:True:=⟨⟩
theorem tw3952752892728426034:True:=⟨⟩
theorem tw9488451827029787253:True:=⟨⟩
theorem tw13663676814174533282:True:=⟨⟩
theorem tw7796595665272987363:True:=⟨⟩
theorem tw2890850529873757774:True:=⟨⟩
theorem tw4038767680759952425:True:=⟨⟩
theorem tw13412084039605240152:True:=⟨⟩
theorem tw15524648938638154158:True:=⟨⟩
theorem tw963956092931664414:True:=⟨⟩
theorem tw10288376264977568818:True:=⟨⟩
theorem tw6430808993389752900:True:=⟨⟩
theorem tw4207123604264118065:True:=⟨⟩
theorem tw7299699500621675470:True:=⟨⟩
theorem tw17399689379621090055:True:=⟨⟩
theorem tw14898243308675335002:True:=⟨⟩
theorem tw14295292533657502878:True:=⟨⟩
theorem tw13219258269728853973:True:=⟨⟩
theorem tw9157197184125687915:True:=⟨⟩
theorem tw4797532104158080462:True:=⟨⟩
theorem tw12542199314423894725:True:=⟨⟩
theorem tw14049548873443598169:True:=⟨⟩
theorem tw3240525160855713548:True:=⟨⟩
theorem tw4968197798199272854:True:=⟨⟩
theorem tw2802027862228232308:True:=⟨⟩
theorem tw4247021701749927751:True:=⟨⟩
theorem tw11045011900455632903:True:=⟨⟩
theorem tw6130802772738912860:True:=⟨⟩
theorem tw9737059865282467676:True:=⟨⟩
theorem tw2178590680116592854:True:=⟨⟩
theorem tw16144290070395208564:True:=⟨⟩
theorem tw13523394678807184175:True:=⟨⟩
theorem tw10462290770265288141:True:=⟨⟩
theorem tw11107116654599681513:True:=⟨⟩
theorem tw656370702970148419:True:=⟨⟩
theorem tw3146387197353931872:True:=⟨⟩
theorem tw8873512406221019651:True:=⟨⟩
theorem tw1273261303775893573:True:=⟨⟩
theorem tw4694135794749881915:True:=⟨⟩
theorem tw2990149576936528568:True:=⟨⟩
theorem tw11817329275694549205:True:=⟨⟩
theorem tw463524152953738917:True:=⟨⟩
theorem tw3189772749034993158:True:=⟨⟩
theorem tw8126053457789340510:True:=⟨⟩
theorem tw3585480474956463429:True:=⟨⟩
theorem tw9998011253062915064:True:=⟨⟩
theorem tw2417598974291543915:True:=⟨⟩
theorem tw10209168123220805081:True:=⟨⟩
theorem tw1922033798308007466:True:=⟨⟩
theorem tw1139620632523719518:True:=⟨⟩
theorem tw16564122382281652886:True:=⟨⟩
theorem tw16090101494660701208:True:=⟨⟩
theorem tw13511075905622122871:True:=⟨⟩
theorem tw1050261525503259805:True:=⟨⟩
theorem tw11542566559254972415:True:=⟨⟩
theorem tw14984702605110776251:True:=⟨⟩
theorem tw12964370958821926058:True:=⟨⟩
theorem tw11111757609045719724:True:=⟨⟩
theorem tw6208813286219437843:True:=⟨⟩
theorem tw14170893889025380577:True:=⟨⟩
theorem tw12219474371539420243:True:=⟨⟩
theorem tw15413727732113974606:True:=⟨⟩
theorem tw17751553334426260005:True:=⟨⟩
theorem tw12033486851820636236:True:=⟨⟩
theorem tw17110999938394119047:True:=⟨⟩
theorem tw5079671354079033255:True:=⟨⟩
theorem tw17852144869229659477:True:=⟨⟩
theorem tw5713700936416884219:True:=⟨⟩
theorem tw1459746721757261206:True:=⟨⟩
theorem tw7504701667819070588:True:=⟨⟩
theorem tw14245651894390791738:True:=⟨⟩
theorem tw14157416802848020178:True:=⟨⟩
theorem tw11171312795245662096:True:=⟨⟩
theorem tw7279478253342927696:True:=⟨⟩
theorem tw15440990867938914341:True:=⟨⟩
theorem tw10970845379499370677:True:=⟨⟩
theorem tw4036885090365568906:True:=⟨⟩
theorem tw12912677112488297728:True:=⟨⟩
theorem tw17699419157424668730:True:=⟨⟩
theorem tw12612856477945865286:True:=⟨⟩
theorem tw1683597942381019572:True:=⟨⟩
theorem tw8640841695417236093:True:=⟨⟩
theorem tw8825325740225125260:True:=⟨⟩
theorem tw5320037821699603250:True:=⟨⟩
theorem tw8732617567259561481:True:=⟨⟩
theorem tw3560150524261497218:True:=⟨⟩
theorem tw12889926106104802926:True:=⟨⟩
theorem tw9994538451319816672:True:=⟨⟩
theorem tw5322002707927675684:True:=⟨⟩
theorem tw9534652247473150726:True:=⟨⟩
theorem tw1667050361463676218:True:=⟨⟩
theorem tw2647612071866307913:True:=⟨⟩
theorem tw180636195945439735:True:=⟨⟩
theorem tw12762255781346846973:True:=⟨⟩
theorem tw14364269626876185681:True:=⟨⟩
theorem tw17823862690279112305:True:=⟨⟩
theorem tw10619521824335836675:True:=⟨⟩
theorem tw11123776066527355564:True:=⟨⟩
theorem tw5683931114291312176:True:=⟨⟩
theorem tw16576319144372105351:True:=⟨⟩
theorem tw968132007151477863:True:=⟨⟩
theorem tw13996248135558127118:True:=⟨⟩
theorem tw15277801279281445549:True:=⟨⟩
theorem tw997715049148457942:True:=⟨⟩
theorem tw10313832628998583442:True:=⟨⟩
theorem tw8572334040917818113:True:=⟨⟩
theorem tw10760257960097378060:True:=⟨⟩
theorem tw8447935177836336643:True:=⟨⟩
theorem tw15839411754592160790:True:=⟨⟩
theorem tw7907652324811933595:True:=⟨⟩
theorem tw11391977349199509385:True:=⟨⟩
theorem tw17720723421180696167:True:=⟨⟩
theorem tw8272280036448551742:True:=⟨⟩
theorem tw12906175855623516807:True:=⟨⟩
theorem tw1726959650848818118:True:=⟨⟩
theorem tw1833320628871103169:True:=⟨⟩
theorem tw5932778456597427512:True:=⟨⟩
theorem tw15801606927087442573:True:=⟨⟩
theorem tw5614284692416890306:True:=⟨⟩
theorem tw2204634535463180827:True:=⟨⟩
theorem tw9209491392379443632:True:=⟨⟩
theorem tw15643789718685153578:True:=⟨⟩
theorem tw2353282040447971541:True:=⟨⟩
theorem tw6310716970059267061:True:=⟨⟩
theorem tw2620876913983331336:True:=⟨⟩
theorem tw826718916752069431:True:=⟨⟩
theorem tw16687938685741295558:True:=⟨⟩
theorem tw16886310889900439931:True:=⟨⟩
theorem tw10348264618208211839:True:=⟨⟩
theorem tw5735855485615570299:True:=⟨⟩
theorem tw11222964197898827251:True:=⟨⟩
theorem tw797573721410236721:True:=⟨⟩
theorem tw1230086267883647273:True:=⟨⟩
theorem tw13446491982369678078:True:=⟨⟩
theorem tw433721779772320918:True:=⟨⟩
theorem tw17831319300695124621:True:=⟨⟩
theorem tw10599144142177158543:True:=⟨⟩
theorem tw6625292773905913660:True:=⟨⟩
theorem tw5088265987560084334:True:=⟨⟩
theorem tw4291072522942356738:True:=⟨⟩
theorem tw13649495487186621959:True:=⟨⟩
theorem tw6091622816118232671:True:=⟨⟩
theorem tw16717587044758439762:True:=⟨⟩
theorem tw5745221958086652374:True:=⟨⟩
theorem tw6170931083051224481:True:=⟨⟩
theorem tw6517309633251535266:True:=⟨⟩
theorem tw13870123895504177552:True:=⟨⟩
theorem tw13052946511695207937:True:=⟨⟩
theorem tw7089381096438352590:True:=⟨⟩
theorem tw14710732199743391581:True:=⟨⟩
theorem tw11851254901347707697:True:=⟨⟩
theorem tw17272443722664809528:True:=⟨⟩
theorem tw12495233100088451334:True:=⟨⟩
theorem tw12587510762398966047:True:=⟨⟩
theorem tw1230032376083195058:True:=⟨⟩
theorem tw464981486623541046:True:=⟨⟩
theorem tw11253071063284586892:True:=⟨⟩
theorem tw2040809289986161489:True:=⟨⟩
theorem tw708369589879036827:True:=⟨⟩
theorem tw16631524085299893463:True:=⟨⟩
theorem tw8891128160457839518:True:=⟨⟩
theorem tw14275919263447313702:True:=⟨⟩
theorem tw4488174258904574953:True:=⟨⟩
theorem tw15669018417994631794:True:=⟨⟩
theorem tw10264495187321175899:True:=⟨⟩
theorem tw6610697333732233191:True:=⟨⟩
theorem tw6373134616767220263:True:=⟨⟩
theorem tw10619090297451969476:True:=⟨⟩
theorem tw11928697822980277532:True:=⟨⟩
theorem tw5254580767835606961:True:=⟨⟩
theorem tw10894079084501130143:True:=⟨⟩
theorem tw12340112504216219192:True:=⟨⟩
theorem tw12238941547428988057:True:=⟨⟩
theorem tw10958558318030420807:True:=⟨⟩
theorem tw10182034183229015596:True:=⟨⟩
theorem tw1011866915794681426:True:=⟨⟩
theorem tw11841228238402101639:True:=⟨⟩
theorem tw11560620326423576127:True:=⟨⟩
theorem tw10944653528571690830:True:=⟨⟩
theorem tw2586518962265528353:True:=⟨⟩
theorem tw7219515013886213006:True:=⟨⟩
theorem tw4790476726714539666:True:=⟨⟩
theorem tw11377934051250255530:True:=⟨⟩
theorem tw5673602319199331216:True:=⟨⟩
theorem tw12416169807381914399:True:=⟨⟩
theorem tw6963333304070905095:True:=⟨⟩
theorem tw8362040551938380926:True:=⟨⟩
theorem tw1629692919676787295:True:=⟨⟩
theorem tw16514153671787259690:True:=⟨⟩
theorem tw7352912406857927021:True:=⟨⟩
theorem tw3371502135259971485:True:=⟨⟩
theorem tw6330371073208128462:True:=⟨⟩
theorem tw8032802849667419735:True:=⟨⟩
theorem tw15402764386462897720:True:=⟨⟩
theorem tw387911910463208779:True:=⟨⟩
theorem tw15698810416872246374:True:=⟨⟩
theorem tw11773644815187265253:True:=⟨⟩
theorem tw9567353474775338951:True:=⟨⟩
theorem tw2956351718900374126:True:=⟨⟩
theorem tw18261496052852718066:True:=⟨⟩
theorem tw9216080760697406549:True:=⟨⟩
theorem tw15546627288512459164:True:=⟨⟩
theorem tw5056505106659341193:True:=⟨⟩
theorem tw16943542131583710103:True:=⟨⟩
theorem tw18075370411064855833:True:=⟨⟩
theorem tw10489890950046405932:True:=⟨⟩
theorem tw4258023338950297454:True:=⟨⟩
theorem tw2655336255437401454:True:=⟨⟩
theorem tw1865658702239385597:True:=⟨⟩
theorem tw3580414897612018412:True:=⟨⟩
theorem tw2873704256263491357:True:=⟨⟩
theorem tw2265636272263285673:True:=⟨⟩
theorem tw7941843242375240144:True:=⟨⟩
theorem tw14600271109471537708:True:=⟨⟩
theorem tw4914678630731628732:True:=⟨⟩
theorem tw11523896771898417987:True:=⟨⟩
theorem tw18432349312475418970:True:=⟨⟩
theorem tw15600022826716889158:True:=⟨⟩
theorem tw8501502616627271052:True:=⟨⟩
theorem tw15007736664337080574:True:=⟨⟩
theorem tw11373440506242663910:True:=⟨⟩
theorem tw3598296542823299520:True:=⟨⟩
theorem tw10356713168250630344:True:=⟨⟩
theorem tw306971491720388563:True:=⟨⟩
theorem tw7964541701091083528:True:=⟨⟩
theorem tw11656666952825909409:True:=⟨⟩
theorem tw3963638540665597333:True:=⟨⟩
theorem tw15643684573598010366:True:=⟨⟩
theorem tw1103777949182536760:True:=⟨⟩
theorem tw2763274136459173060:True:=⟨⟩
theorem tw15495910772697676721:True:=⟨⟩
theorem tw4703834556204354905:True:=⟨⟩
theorem tw7400414614980267981:True:=⟨⟩
theorem tw536255840102584012:True:=⟨⟩
theorem tw5143141117841908964:True:=⟨⟩
theorem tw14140602772678231558:True:=⟨⟩
theorem tw14093892331303382020:True:=⟨⟩
theorem tw9850240408489606897:True:=⟨⟩
theorem tw14806101515460096311:True:=⟨⟩
theorem tw10207337531891569254:True:=⟨⟩
theorem tw9157732137890612163:True:=⟨⟩
theorem tw678850799844048603:True:=⟨⟩
theorem tw16758397664631358461:True:=⟨⟩
theorem tw12238279246608824868:True:=⟨⟩
theorem tw5996778067250267183:True:=⟨⟩
theorem tw7431830244888879710:True:=⟨⟩
theorem tw2842831435220119745:True:=⟨⟩
theorem tw10892153522476135159:True:=⟨⟩
theorem tw11592684835740553991:True:=⟨⟩
theorem tw7769499373951112564:True:=⟨⟩
theorem tw4189493699073668902:True:=⟨⟩
theorem tw13834696089296536279:True:=⟨⟩
theorem tw17143186357979433233:True:=⟨⟩
theorem tw12260424865504880160:True:=⟨⟩
theorem tw12957005648444739095:True:=⟨⟩
theorem tw4465793293049986124:True:=⟨⟩
theorem tw16452918745240308015:True:=⟨⟩
theorem tw7568363350767652210:True:=⟨⟩
theorem tw5082749584314740216:True:=⟨⟩
theorem tw8864048980471703949:True:=⟨⟩
theorem tw16751701511034054035:True:=⟨⟩
theorem tw3795345082149552194:True:=⟨⟩
theorem tw17230696107650043075:True:=⟨⟩
theorem tw9962948764498562819:True:=⟨⟩
theorem tw17092253025119440104:True:=⟨⟩
theorem tw8594501514734552959:True:=⟨⟩
theorem tw11451329752195367537:True:=⟨⟩
theorem tw16404722880992882067:True:=⟨⟩
theorem tw4866374162639875724:True:=⟨⟩
theorem tw13621869459896168795:True:=⟨⟩
theorem tw5583664388123718118:True:=⟨⟩
theorem tw5206974289244051645:True:=⟨⟩
theorem tw18245698623827219862:True:=⟨⟩
theorem tw8417700666698620867:True:=⟨⟩
theorem tw7666399386118515876:True:=⟨⟩
theorem tw8222532265553583598:True:=⟨⟩
theorem tw9782196936053262048:True:=⟨⟩
theorem tw1177898109014179987:True:=⟨⟩
theorem tw16462712337878152654:True:=⟨⟩
theorem tw5342668942324991009:True:=⟨⟩
theorem tw1834759196723456923:True:=⟨⟩
theorem tw5524779442877924204:True:=⟨⟩
theorem tw12824266930104487678:True:=⟨⟩
theorem tw9910677838907996614:True:=⟨⟩
theorem tw752887968755976841:True:=⟨⟩
theorem tw1527572327424631768:True:=⟨⟩
theorem tw4109749506094492369:True:=⟨⟩
theorem tw7456947796916923816:True:=⟨⟩
theorem tw3994985225844804292:True:=⟨⟩
theorem tw17408075831518798377:True:=⟨⟩
theorem tw1808498881108674557:True:=⟨⟩
theorem tw10964578508164311258:True:=⟨⟩
theorem tw7102657313883840665:True:=⟨⟩
theorem tw3915850092298713029:True:=⟨⟩
theorem tw16244826278458023282:True:=⟨⟩
theorem tw5865446333894563123:True:=⟨⟩
theorem tw16788623886914398930:True:=⟨⟩
theorem tw16693330744803036657:True:=⟨⟩
theorem tw9670212761085914538:True:=⟨⟩
theorem tw17328154304213022304:True:=⟨⟩
theorem tw4799978951309313106:True:=⟨⟩
theorem tw4631381607307338044:True:=⟨⟩
theorem tw2753825697150660376:True:=⟨⟩
theorem tw12319838068511824110:True:=⟨⟩
theorem tw12514122545253715120:True:=⟨⟩
theorem tw8852783056046871751:True:=⟨⟩
theorem tw13643339335625612994:True:=⟨⟩
theorem tw13588511266312470371:True:=⟨⟩
theorem tw11913647841288599391:True:=⟨⟩
theorem tw9907076710448890658:True:=⟨⟩
theorem tw16146488116895975506:True:=⟨⟩
theorem tw748724795144982895:True:=⟨⟩
theorem tw16428854582906578461:True:=⟨⟩
theorem tw1571862744090761994:True:=⟨⟩
theorem tw15671042746177421598:True:=⟨⟩
theorem tw3610553980704342674:True:=⟨⟩
theorem tw3929650766108406722:True:=⟨⟩
theorem tw8575009471690990201:True:=⟨⟩
theorem tw8470101618477677100:True:=⟨⟩
theorem tw13758538944315034054:True:=⟨⟩
theorem tw9819690335955319700:True:=⟨⟩
theorem tw4523804442951908464:True:=⟨⟩
theorem tw7666129279883221773:True:=⟨⟩
theorem tw9635915531326665916:True:=⟨⟩
theorem tw3859051259179000727:True:=⟨⟩
theorem tw4461713846294775101:True:=⟨⟩
theorem tw12002738280410875175:True:=⟨⟩
theorem tw12584008533308059944:True:=⟨⟩
theorem tw9624873297476502938:True:=⟨⟩
theorem tw7144824853322344660:True:=⟨⟩
theorem tw4131408270747831755:True:=⟨⟩
theorem tw6941852789764250994:True:=⟨⟩
theorem tw1727521531258616813:True:=⟨⟩
theorem tw7580036154398047463:True:=⟨⟩
theorem tw16456405612134465204:True:=⟨⟩
theorem tw962819400993748418:True:=⟨⟩
theorem tw6579197669488244267:True:=⟨⟩
theorem tw7262373251895792657:True:=⟨⟩
theorem tw4464625282009599792:True:=⟨⟩
theorem tw16140286269032020207:True:=⟨⟩
theorem tw12156052080080322466:True:=⟨⟩
theorem tw8131704446911397862:True:=⟨⟩
theorem tw6121382229825315354:True:=⟨⟩
theorem tw15908457970948740659:True:=⟨⟩
theorem tw1936848622453068276:True:=⟨⟩
theorem tw17553592317550333031:True:=⟨⟩
theorem tw3555295842501630180:True:=⟨⟩
theorem tw1248949580075072232:True:=⟨⟩
theorem tw14942377509567448633:True:=⟨⟩
theorem tw10942402540480208940:True:=⟨⟩
theorem tw10847244765773801289:True:=⟨⟩
theorem tw4843705615062221150:True:=⟨⟩
theorem tw9590712716400229292:True:=⟨⟩
theorem tw6977280802297745641:True:=⟨⟩
theorem tw18053156712907602156:True:=⟨⟩
theorem tw4406601766030997197:True:=⟨⟩
theorem tw496081121409358708:True:=⟨⟩
theorem tw4790127643306206521:True:=⟨⟩
theorem tw8358047088450081732:True:=⟨⟩
theorem tw15371125549336073522:True:=⟨⟩
theorem tw7578779676452798726:True:=⟨⟩
theorem tw4600731707162763797:True:=⟨⟩
theorem tw2722369095661018726:True:=⟨⟩
theorem tw16316763952037188369:True:=⟨⟩
theorem tw7980430137870092585:True:=⟨⟩
theorem tw8536511631812368891:True:=⟨⟩
theorem tw4269550814330243870:True:=⟨⟩
theorem tw13510391500320465403:True:=⟨⟩
theorem tw17417190514936866912:True:=⟨⟩
theorem tw14008058251420057518:True:=⟨⟩
theorem tw12747157816549678937:True:=⟨⟩
theorem tw2260918374319939672:True:=⟨⟩
theorem tw16140607830101711206:True:=⟨⟩
theorem tw13003540766440567812:True:=⟨⟩
theorem tw4930053464917178762:True:=⟨⟩
theorem tw17270913046467446276:True:=⟨⟩
theorem tw4901633995433722825:True:=⟨⟩
theorem tw6538172598948218161:True:=⟨⟩
theorem tw5319178428871485423:True:=⟨⟩
theorem tw3773885227305970768:True:=⟨⟩
theorem tw782987701428167754:True:=⟨⟩
theorem tw17154614422504525339:True:=⟨⟩
theorem tw9133416626903860755:True:=⟨⟩
theorem tw3091028107632492465:True:=⟨⟩
theorem tw13483344520530383033:True:=⟨⟩
theorem tw2320714590995258142:True:=⟨⟩
theorem tw2493696088133804613:True:=⟨⟩
theorem tw1483253186542333162:True:=⟨⟩
theorem tw9426797076862156146:True:=⟨⟩
theorem tw4700133316264068856:True:=⟨⟩
theorem tw8592908181003965612:True:=⟨⟩
theorem tw16440952377775255967:True:=⟨⟩
theorem tw4746834799126831643:True:=⟨⟩
theorem tw13749077730214586486:True:=⟨⟩
theorem tw4157172498584686006:True:=⟨⟩
theorem tw5321995922765832115:True:=⟨⟩
theorem tw10322248462120774039:True:=⟨⟩
theorem tw5370742442232105409:True:=⟨⟩
theorem tw12786023253559391870:True:=⟨⟩
theorem tw9059956532091173202:True:=⟨⟩
theorem tw10440868627038750752:True:=⟨⟩
theorem tw8217816693835593188:True:=⟨⟩
theorem tw6707787901845207779:True:=⟨⟩
theorem tw10764391741874836222:True:=⟨⟩
theorem tw9938969021301345497:True:=⟨⟩
theorem tw4820807798919749123:True:=⟨⟩
theorem tw8697916416930355739:True:=⟨⟩
theorem tw17794543630736326434:True:=⟨⟩
theorem tw15110964571602982938:True:=⟨⟩
theorem tw15741028305401588197:True:=⟨⟩
theorem tw651372152122125051:True:=⟨⟩
theorem tw12312421486445863094:True:=⟨⟩
theorem tw378001752584287367:True:=⟨⟩
theorem tw2030255196693588145:True:=⟨⟩
theorem tw262953215626441425:True:=⟨⟩
theorem tw826905196678554544:True:=⟨⟩
theorem tw5099567614742088315:True:=⟨⟩
theorem tw92668850405499147:True:=⟨⟩
theorem tw5272389091907296929:True:=⟨⟩
theorem tw15717334229209510860:True:=⟨⟩
theorem tw17647338732568861731:True:=⟨⟩
theorem tw15702394810830252722:True:=⟨⟩
theorem tw8992408770919148421:True:=⟨⟩
theorem tw5474573094571056319:True:=⟨⟩
theorem tw11890223599237675574:True:=⟨⟩
theorem tw6414856475912928745:True:=⟨⟩
theorem tw1218176870668176106:True:=⟨⟩
theorem tw11771179253796050519:True:=⟨⟩
theorem tw2818526852421475991:True:=⟨⟩
theorem tw4962949352076553045:True:=⟨⟩
theorem tw8622619176018888185:True:=⟨⟩
theorem tw15055669667507988006:True:=⟨⟩
theorem tw15290792937686148871:True:=⟨⟩
theorem tw6741288587018990561:True:=⟨⟩
theorem tw3353440303107884414:True:=⟨⟩
theorem tw8330298790116063599:True:=⟨⟩
theorem tw15083280781545005592:True:=⟨⟩
theorem tw2391581356976100837:True:=⟨⟩
theorem tw5494865967816476098:True:=⟨⟩
theorem tw7173778879432913555:True:=⟨⟩
theorem tw379871098947146401:True:=⟨⟩
theorem tw11826736553517182928:True:=⟨⟩
theorem tw5968601898695067988:True:=⟨⟩
theorem tw14739153269834170467:True:=⟨⟩
theorem tw5453929186317090431:True:=⟨⟩
theorem tw12072618253757734617:True:=⟨⟩
theorem tw15617739105163247206:True:=⟨⟩
theorem tw13103128120792606201:True:=⟨⟩
theorem tw5123563455710280291:True:=⟨⟩
theorem tw10264182400635861714:True:=⟨⟩
theorem tw9588955970728223314:True:=⟨⟩
theorem tw3097781677614844793:True:=⟨⟩
theorem tw16287405817920202535:True:=⟨⟩
theorem tw4548520691827635671:True:=⟨⟩
theorem tw10522447703186680375:True:=⟨⟩
theorem tw14034694280263504674:True:=⟨⟩
theorem tw7340788620398906174:True:=⟨⟩
theorem tw3907429298062897223:True:=⟨⟩
theorem tw12366132252226537944:True:=⟨⟩
theorem tw10598508727203069272:True:=⟨⟩
theorem tw11717852290711390192:True:=⟨⟩
theorem tw5060557597223175157:True:=⟨⟩
theorem tw5280898194108436473:True:=⟨⟩
theorem tw12816564196659290631:True:=⟨⟩
theorem tw18137091949970849416:True:=⟨⟩
theorem tw11143419655250070361:True:=⟨⟩
theorem tw7157616667328732356:True:=⟨⟩
theorem tw12020435195246562230:True:=⟨⟩
theorem tw6628892355248399399:True:=⟨⟩
theorem tw9955901458513079315:True:=⟨⟩
theorem tw18335254248382023481:True:=⟨⟩
theorem tw15669068843957180703:True:=⟨⟩
theorem tw14812172587060407733:True:=⟨⟩
theorem tw6333574939584477384:True:=⟨⟩
theorem tw17271136397568868585:True:=⟨⟩
theorem tw14652745859954623137:True:=⟨⟩
theorem tw15655990187709342003:True:=⟨⟩
theorem tw2582639679649562659:True:=⟨⟩
theorem tw8379296895459467992:True:=⟨⟩
theorem tw1712703626388891466:True:=⟨⟩
theorem tw15450699600596610971:True:=⟨⟩
theorem tw12764265975414941753:True:=⟨⟩
theorem tw17917397343429195386:True:=⟨⟩
theorem tw4869369185633485151:True:=⟨⟩
theorem tw9679295719002870368:True:=⟨⟩
theorem tw1247808765644042114:True:=⟨⟩
theorem tw17330856233073701260:True:=⟨⟩
theorem tw9229372822278172386:True:=⟨⟩
theorem tw17611117408207043001:True:=⟨⟩
theorem tw9190269055797391299:True:=⟨⟩
theorem tw4168573124368059443:True:=⟨⟩
theorem tw18237950563562410224:True:=⟨⟩
theorem tw15110541372252220692:True:=⟨⟩
theorem tw17873897647055345288:True:=⟨⟩
theorem tw4532612906297941223:True:=⟨⟩
theorem tw6954269846850289526:True:=⟨⟩
theorem tw10705880619670651121:True:=⟨⟩
theorem tw5877692533774207832:True:=⟨⟩
theorem tw15733185502320329006:True:=⟨⟩
theorem tw13478752919378918282:True:=⟨⟩
theorem tw16774741273508203311:True:=⟨⟩
theorem tw8118379784381386551:True:=⟨⟩
theorem tw4254982724763840544:True:=⟨⟩
theorem tw3917203433306463143:True:=⟨⟩
theorem tw16385926270870432065:True:=⟨⟩
theorem tw5746164716091687522:True:=⟨⟩
theorem tw7217718060717942414:True:=⟨⟩
theorem tw14194541897136130183:True:=⟨⟩
theorem tw8546734063002640389:True:=⟨⟩
theorem tw8343084804027626408:True:=⟨⟩
theorem tw5200129993419566614:True:=⟨⟩
theorem tw17246917369071782391:True:=⟨⟩
theorem tw16152901863749694207:True:=⟨⟩
theorem tw4726703716823389270:True:=⟨⟩
theorem tw9240474440829372100:True:=⟨⟩
theorem tw10905078211015027358:True:=⟨⟩
theorem tw359748150108426055:True:=⟨⟩
theorem tw13086592430069613403:True:=⟨⟩
theorem tw8756383399236092608:True:=⟨⟩
theorem tw2171843935616988592:True:=⟨⟩
theorem tw8174823100883611204:True:=⟨⟩
theorem tw15578611592604208309:True:=⟨⟩
theorem tw1380614241432064391:True:=⟨⟩
theorem tw5872751790781635680:True:=⟨⟩
theorem tw14237749732956403456:True:=⟨⟩
theorem tw12316379856260452416:True:=⟨⟩
theorem tw14334957354786498989:True:=⟨⟩
theorem tw12610919702716263045:True:=⟨⟩
theorem tw17123135742202309231:True:=⟨⟩
theorem tw17339529930522701367:True:=⟨⟩
theorem tw8481828332954939313:True:=⟨⟩
theorem tw11183939354985283723:True:=⟨⟩
theorem tw8309556498481585887:True:=⟨⟩
theorem tw5642830356478466317:True:=⟨⟩
theorem tw3625126800914829658:True:=⟨⟩
theorem tw16009429240821899068:True:=⟨⟩
theorem tw17644382860259439149:True:=⟨⟩
theorem tw3993118177626589878:True:=⟨⟩
theorem tw13472635562667222409:True:=⟨⟩
theorem tw2874790749893260090:True:=⟨⟩
theorem tw11439194807872627286:True:=⟨⟩
theorem tw14379704794882316100:True:=⟨⟩
theorem tw1077559907637851647:True:=⟨⟩
theorem tw12181443218148392639:True:=⟨⟩
theorem tw4721605816393361700:True:=⟨⟩
theorem tw7760358758509482727:True:=⟨⟩
theorem tw13709885829417190061:True:=⟨⟩
theorem tw10349480166172029313:True:=⟨⟩
theorem tw17105698161960609572:True:=⟨⟩
theorem tw17442369498291677542:True:=⟨⟩
theorem tw3520464433887362178:True:=⟨⟩
theorem tw3729936759288971813:True:=⟨⟩
theorem tw15140522240352706846:True:=⟨⟩
theorem tw11206501108363620832:True:=⟨⟩
theorem tw9615037956608938304:True:=⟨⟩
theorem tw13503912340269132165:True:=⟨⟩
theorem tw1527986409134209154:True:=⟨⟩
theorem tw617072320723813246:True:=⟨⟩
theorem tw11665844800122811207:True:=⟨⟩
theorem tw9987993251671892871:True:=⟨⟩
theorem tw12665371204390301335:True:=⟨⟩
theorem tw1833981611022806966:True:=⟨⟩
theorem tw16478974558264802322:True:=⟨⟩
theorem tw6575020312609783817:True:=⟨⟩
theorem tw12811663758455190138:True:=⟨⟩
theorem tw13261749448992460701:True:=⟨⟩
theorem tw11639073698933321009:True:=⟨⟩
theorem tw18290885509257224626:True:=⟨⟩
theorem tw16460813336029225244:True:=⟨⟩
theorem tw14539828184029433844:True:=⟨⟩
theorem tw17195309503681440225:True:=⟨⟩
theorem tw14106377879362556559:True:=⟨⟩
theorem tw17871785520891745742:True:=⟨⟩
theorem tw6061369299203640451:True:=⟨⟩
theorem tw10075151483644948034:True:=⟨⟩
theorem tw3049517349498313514:True:=⟨⟩
theorem tw14255018099227101550:True:=⟨⟩
theorem tw7166418518372264806:True:=⟨⟩
theorem tw7360300027559541137:True:=⟨⟩
theorem tw14274801814626630901:True:=⟨⟩
theorem tw9133313418286999303:True:=⟨⟩
theorem tw7561762440534636612:True:=⟨⟩
theorem tw10563642715171001970:True:=⟨⟩
theorem tw1239830169453195123:True:=⟨⟩
theorem tw2365730691004688817:True:=⟨⟩
theorem tw6640645043052421359:True:=⟨⟩
theorem tw17279059740534651764:True:=⟨⟩
theorem tw15857964234787881683:True:=⟨⟩
theorem tw6249458488013711994:True:=⟨⟩
theorem tw5484948923383391534:True:=⟨⟩
theorem tw12232088456264754083:True:=⟨⟩
theorem tw11067945101021182566:True:=⟨⟩
theorem tw5512130648128800027:True:=⟨⟩
theorem tw7154197837048305639:True:=⟨⟩
theorem tw8389052254983633820:True:=⟨⟩
theorem tw9525111321862612318:True:=⟨⟩
theorem tw5162591704491325938:True:=⟨⟩
theorem tw13672641553813825476:True:=⟨⟩
theorem tw9794621624449591919:True:=⟨⟩
theorem tw11050881678059260594:True:=⟨⟩
theorem tw11185935477739060157:True:=⟨⟩
theorem tw689302841889987516:True:=⟨⟩
theorem tw9683907727434309157:True:=⟨⟩
theorem tw10105826649364431256:True:=⟨⟩
theorem tw16676780933127474674:True:=⟨⟩
end PySem.W.Fast
open PySem PySem.W PyProof.Rows
set_option maxRecDepth 100000 in
set_option maxHeartbeats 0 in
theorem PySem.Challenge.cw_sharewheel_k71_floors_holds : PySem.Challenge.rw_sharewheel_k71_floors.Holds := by
  w_on; o_law; k_head; (case hw=>w_witness2)
  k_fill
  refine K71.walk (l:=PySem.Challenge.rw_sharewheel_k71_floors) rfl rfl (fun w h Y=>PySem.W.kIn_of Y) ?F
  case F =>
    intro w mg fa h KX G Lz
    refine' K71.all_mk KX G Lz ?a ?l ?c ?k ?T
    (case a=>k_is)
    (case l=>k_is)
    (case c=>k_is)
    (case k=>k_is)
    case T =>
      apply K71.Txt.mk
      iterate 8 ((· (refine' fE KX G ?_; k_is)); (· (refine' L2.Nh ?a ?b ?c ?d ?e ?f ?g ?h ?i ?j; (case a=>k_is); (case b=>k_is); (case c=>k_is); (case d=>k_is); (case e=>k_is); (case f=>k_is); (case g=>k_is); (case h=>k_is); (case i=>k_is); (case j=>k_exc))); (· k_is); (· k_exc))
      · k_is
      iterate 12 (· (refine' PySem.W.mg_none_of KX G ?_; k_is))
      iterate 5 (· (refine' L2.DS KX G ?a; (case a=>k_is)))
      · (refine' L2.JV KX G ?a ?w; (case a=>k_is); (case w=>k_is))
      iterate 2 (· (refine' L2.DS KX G ?a; (case a=>k_is)))
      iterate 24 (· (refine' L2.JL KX G ?a ?l ?c ?k ?b; (case a=>k_is); (case l=>k_is); (case c=>k_is); (case k=>k_is); (case b=>first | exact fun _ _ _ _ _ _=>L2.AF fun _=>rfl | exact fun _ _ _ _ _ _=>L2.AG fun _ _=>rfl | exact fun _ _ _ _ _ _=>L2.AH fun _ _ _=>rfl | exact fun _ _ _ _ _ _=>L2.Vg fun _ _ _ _ _=>rfl)))
      · (refine' fE KX G ?_; k_is)
      · (refine' ⟨?a,?b,?c,?d⟩; (case a=>k_is); (case b=>k_is); (case c=>k_is); (case d=>k_is))
      · (show aR _ _ _ = _; k_is)
      · (refine' L2.in_of ?a ?f ?l ?c ?k ?b ?m ?n; (case a=>k_is); (case f=>k_is); (case l=>k_is); (case c=>k_is); (case k=>k_is); (case m=>k_is); (case n=>k_is); (case b=>first | exact fun _ _ _ _ _ _=>L2.AF fun _=>rfl | exact fun _ _ _ _ _ _=>L2.AG fun _ _=>rfl | exact fun _ _ _ _ _ _=>L2.AH fun _ _ _=>rfl | exact fun _ _ _ _ _ _=>L2.By fun _ _ _ _=>rfl | exact fun _ _ _ _ _ _=>L2.CC fun _ _ _ _ _ _=>rfl))
      iterate 7 (· (refine' L2.sV ?a ?f ?l ?c ?k ?b; (case a=>k_is); (case f=>k_is); (case l=>k_is); (case c=>k_is); (case k=>k_is); (case b=>first | exact fun _ _ _ _ _ _=>L2.AF fun _=>rfl | exact fun _ _ _ _ _ _=>L2.AG fun _ _=>rfl | exact fun _ _ _ _ _ _=>L2.AH fun _ _ _=>rfl | exact fun _ _ _ _ _ _=>L2.By fun _ _ _ _=>rfl | exact fun _ _ _ _ _ _=>L2.CC fun _ _ _ _ _ _=>rfl)))
      iterate 2 (· (refine' fE KX G ?_; k_is))
      · (refine' ⟨?a,?b,?c,?d⟩; (case a=>k_is); (case b=>k_is); (case c=>k_is); (case d=>k_is))
      iterate 6 (· (show aR _ _ _ = _; k_is))
      · (refine' L2.in_of ?a ?f ?l ?c ?k ?b ?m ?n; (case a=>k_is); (case f=>k_is); (case l=>k_is); (case c=>k_is); (case k=>k_is); (case m=>k_is); (case n=>k_is); (case b=>first | exact fun _ _ _ _ _ _=>L2.AF fun _=>rfl | exact fun _ _ _ _ _ _=>L2.AG fun _ _=>rfl | exact fun _ _ _ _ _ _=>L2.AH fun _ _ _=>rfl | exact fun _ _ _ _ _ _=>L2.By fun _ _ _ _=>rfl | exact fun _ _ _ _ _ _=>L2.CC fun _ _ _ _ _ _=>rfl))
      iterate 7 (· (refine' L2.sV ?a ?f ?l ?c ?k ?b; (case a=>k_is); (case f=>k_is); (case l=>k_is); (case c=>k_is); (case k=>k_is); (case b=>first | exact fun _ _ _ _ _ _=>L2.AF fun _=>rfl | exact fun _ _ _ _ _ _=>L2.AG fun _ _=>rfl | exact fun _ _ _ _ _ _=>L2.AH fun _ _ _=>rfl | exact fun _ _ _ _ _ _=>L2.By fun _ _ _ _=>rfl | exact fun _ _ _ _ _ _=>L2.CC fun _ _ _ _ _ _=>rfl)))
      · (refine' L2.Ig ?a ?l ?c ?r ?f ?g ?k ?b; (case a=>k_is); (case l=>k_is); (case c=>k_is); (case r=>k_is); (case f=>k_is); (case g=>k_is); (case k=>k_is); (case b=>first | exact fun _ _ _ _ _ _=>L2.AF fun _=>rfl | exact fun _ _ _ _ _ _=>L2.AG fun _ _=>rfl | exact fun _ _ _ _ _ _=>L2.AH fun _ _ _=>rfl | exact fun _ _ _ _ _ _=>L2.By fun _ _ _ _=>rfl | exact fun _ _ _ _ _ _=>L2.CC fun _ _ _ _ _ _=>rfl))
      iterate 8 (· (refine' L2.sV ?a ?f ?l ?c ?k ?b; (case a=>k_is); (case f=>k_is); (case l=>k_is); (case c=>k_is); (case k=>k_is); (case b=>first | exact fun _ _ _ _ _ _=>L2.AF fun _=>rfl | exact fun _ _ _ _ _ _=>L2.AG fun _ _=>rfl | exact fun _ _ _ _ _ _=>L2.AH fun _ _ _=>rfl | exact fun _ _ _ _ _ _=>L2.By fun _ _ _ _=>rfl | exact fun _ _ _ _ _ _=>L2.CC fun _ _ _ _ _ _=>rfl)))
      · (refine' fE KX G ?_; k_is)
      · (refine' ⟨?a,?b,?c,?d⟩; (case a=>k_is); (case b=>k_is); (case c=>k_is); (case d=>k_is))
      iterate 6 (· (show aR _ _ _ = _; k_is))
      · (refine' L2.in_of ?a ?f ?l ?c ?k ?b ?m ?n; (case a=>k_is); (case f=>k_is); (case l=>k_is); (case c=>k_is); (case k=>k_is); (case m=>k_is); (case n=>k_is); (case b=>first | exact fun _ _ _ _ _ _=>L2.AF fun _=>rfl | exact fun _ _ _ _ _ _=>L2.AG fun _ _=>rfl | exact fun _ _ _ _ _ _=>L2.AH fun _ _ _=>rfl | exact fun _ _ _ _ _ _=>L2.By fun _ _ _ _=>rfl | exact fun _ _ _ _ _ _=>L2.CC fun _ _ _ _ _ _=>rfl))
      iterate 9 (· (refine' L2.sV ?a ?f ?l ?c ?k ?b; (case a=>k_is); (case f=>k_is); (case l=>k_is); (case c=>k_is); (case k=>k_is); (case b=>first | exact fun _ _ _ _ _ _=>L2.AF fun _=>rfl | exact fun _ _ _ _ _ _=>L2.AG fun _ _=>rfl | exact fun _ _ _ _ _ _=>L2.AH fun _ _ _=>rfl | exact fun _ _ _ _ _ _=>L2.By fun _ _ _ _=>rfl | exact fun _ _ _ _ _ _=>L2.CC fun _ _ _ _ _ _=>rfl)))
      · (refine' L2.Ig ?a ?l ?c ?r ?f ?g ?k ?b; (case a=>k_is); (case l=>k_is); (case c=>k_is); (case r=>k_is); (case f=>k_is); (case g=>k_is); (case k=>k_is); (case b=>first | exact fun _ _ _ _ _ _=>L2.AF fun _=>rfl | exact fun _ _ _ _ _ _=>L2.AG fun _ _=>rfl | exact fun _ _ _ _ _ _=>L2.AH fun _ _ _=>rfl | exact fun _ _ _ _ _ _=>L2.By fun _ _ _ _=>rfl | exact fun _ _ _ _ _ _=>L2.CC fun _ _ _ _ _ _=>rfl))
      iterate 8 (· (refine' L2.sV ?a ?f ?l ?c ?k ?b; (case a=>k_is); (case f=>k_is); (case l=>k_is); (case c=>k_is); (case k=>k_is); (case b=>first | exact fun _ _ _ _ _ _=>L2.AF fun _=>rfl | exact fun _ _ _ _ _ _=>L2.AG fun _ _=>rfl | exact fun _ _ _ _ _ _=>L2.AH fun _ _ _=>rfl | exact fun _ _ _ _ _ _=>L2.By fun _ _ _ _=>rfl | exact fun _ _ _ _ _ _=>L2.CC fun _ _ _ _ _ _=>rfl)))
      · (refine' fE KX G ?_; k_is)
      · (refine' ⟨?a,?b,?c,?d⟩; (case a=>k_is); (case b=>k_is); (case c=>k_is); (case d=>k_is))
      iterate 5 (· (show aR _ _ _ = _; k_is))
      · (refine' L2.Ef (items:=#[.none]) ?a ?f ?l ?c ?e ?b ?m ?n; (case a=>k_is); (case f=>k_is); (case l=>k_is); (case c=>k_is); (case e=>k_is); (case m=>k_is); (case n=>k_is); (case b=>intro fd hf cu h; subst hf; simp only [ao,bf,or_false] at h; rcases h with rfl | rfl <;> first | exact ⟨[],.nil,fun us hl=>match us,(show us.length = 4 by simpa using hl) with | [_,_,_,_],_=>⟨_,rfl,rfl⟩⟩ | exact ⟨[.none],(.cons rfl .nil),fun us hl=>match us,(show us.length = 3 by simpa using hl) with | [_,_,_],_=>⟨_,rfl,rfl⟩⟩))
      iterate 2 (· (refine' L2.sV ?a ?f ?l ?c ?k ?b; (case a=>k_is); (case f=>k_is); (case l=>k_is); (case c=>k_is); (case k=>k_is); (case b=>first | exact fun _ _ _ _ _ _=>L2.AF fun _=>rfl | exact fun _ _ _ _ _ _=>L2.AG fun _ _=>rfl | exact fun _ _ _ _ _ _=>L2.AH fun _ _ _=>rfl | exact fun _ _ _ _ _ _=>L2.By fun _ _ _ _=>rfl | exact fun _ _ _ _ _ _=>L2.CC fun _ _ _ _ _ _=>rfl)))
      · (refine' fE KX G ?_; k_is)
      · (refine' ⟨?a,?b,?c,?d⟩; (case a=>k_is); (case b=>k_is); (case c=>k_is); (case d=>k_is))
      iterate 6 (· (show aR _ _ _ = _; k_is))
      · (refine' L2.Jh ?a ?f ?l ?c ?e ?b ?m ?n; (case a=>k_is); (case f=>k_is); (case l=>k_is); (case c=>k_is); (case e=>k_is); (case m=>k_is); (case n=>k_is); (case b=>intro fd hf; subst hf; exact ⟨fun us hl=>match us,(show us.length = 3 from hl) with | [_,_,_],_=>⟨_,rfl,rfl⟩,fun us hl=>match us,(show us.length = 2 by simpa using hl) with | [_,_],_=>⟨_,rfl,rfl⟩⟩))
      iterate 3 (· (refine' L2.sV ?a ?f ?l ?c ?k ?b; (case a=>k_is); (case f=>k_is); (case l=>k_is); (case c=>k_is); (case k=>k_is); (case b=>first | exact fun _ _ _ _ _ _=>L2.AF fun _=>rfl | exact fun _ _ _ _ _ _=>L2.AG fun _ _=>rfl | exact fun _ _ _ _ _ _=>L2.AH fun _ _ _=>rfl | exact fun _ _ _ _ _ _=>L2.By fun _ _ _ _=>rfl | exact fun _ _ _ _ _ _=>L2.CC fun _ _ _ _ _ _=>rfl)))
      · (refine' L2.Jj (items:=#[.none]) ?a ?f ?l ?c ?k ?e ?b; (case a=>k_is); (case f=>k_is); (case l=>k_is); (case c=>k_is); (case k=>k_is); (case e=>k_is); (case b=>intro fd hf cu h; subst hf; simp only [ao,bf,or_false] at h; rcases h with rfl | rfl <;> first | exact ⟨[],.nil,fun us hl=>match us,(show us.length = 6 by simpa using hl) with | [_,_,_,_,_,_],_=>⟨_,rfl,rfl⟩⟩ | exact ⟨[.none],(.cons rfl .nil),fun us hl=>match us,(show us.length = 5 by simpa using hl) with | [_,_,_,_,_],_=>⟨_,rfl,rfl⟩⟩))
      iterate 16 (· (refine' L2.sV ?a ?f ?l ?c ?k ?b; (case a=>k_is); (case f=>k_is); (case l=>k_is); (case c=>k_is); (case k=>k_is); (case b=>first | exact fun _ _ _ _ _ _=>L2.AF fun _=>rfl | exact fun _ _ _ _ _ _=>L2.AG fun _ _=>rfl | exact fun _ _ _ _ _ _=>L2.AH fun _ _ _=>rfl | exact fun _ _ _ _ _ _=>L2.By fun _ _ _ _=>rfl | exact fun _ _ _ _ _ _=>L2.CC fun _ _ _ _ _ _=>rfl)))
