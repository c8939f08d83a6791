import PyProof.Rows.All
import Wide.FinOn
import Wide.All
import KE.KListMore
import KE.KDictOf
import KE.KDictSum
import KE.KSortTup
import PySem.Challenge.RW_belfry_k31_cases_that_bear
open List renaming length_map->zz,getElem?_eq_getElem->zx,mem_of_getElem?->zw,getElem?_map->zv,length_append->zt,getElem?_eq_some_iff->zp,forall_mem_cons->zn,map_append->zm,size_toArray->zl,getElem?_set_ne->zi,getD_eq_getElem?_getD->zg,length_take->ze,getElem?_append_left->zd,mem_singleton->zb,length_cons->zA,getElem?_append_right->zC,map_cons->zD,mem_cons_of_mem->zF,mem_cons->zG,take_length->zH,mem_cons_self->zJ,getElem?_set_self->zL,take_add_one->zM,mem_append->zN,append_nil->zO,mem_append_right->zP,length_set->zQ,length_range->zR,length_drop->zS,mem_map->zU,map_take->zV,mem_or_eq_of_mem_set->zW,eraseIdx_eq_take_drop_succ->zY,find?_cons->zZ,mem_range->yx,map_map->yw,all_cons->yv,all_eq_true->yu,length_replicate->yt,append_assoc->yq,drop_eq_getElem_cons->yo,mem_of_mem_take->yl,any_cons->yj,mem_map_of_mem->yh,contains_iff_mem->yg,drop_length->yf,replicate->ya,eq_nil_of_length_eq_zero->yA,mem_filter->yE,range_succ->yF,getElem_mem->yG,take_append_drop->yJ,getElem?_eq_none_iff->yK,nodup_cons->yL,mem_append_left->yM,any_eq_false->yO,filterMap_cons->yP,length_reverse->yQ,lookup_cons->yS,any_eq_true->yV,getLastD_eq_getLast?->yW,flatMap_append->yX,sum_cons->yY,map_drop->yZ,getElem?_replicate->xx,findIdx?_eq_some_iff_getElem->xv,reverse_cons->xu,drop_zero->xo,take_of_length_le->xn,flatMap_cons->xm,length_singleton->xl,getElem?_eq_none->xk,length_filter_le->xj,getLast?_eq_some_getLast->xg,all_map->xf,map_set->xb,filterMap_map->xa,length_eraseIdx_of_lt->xB,mapM_cons->xC,getElem_range->xD,nodup_nil->xE,filter_append->xF,find?_eq_none->xG,mem_take_iff_getElem->xH,map_dropLast->xJ,pairwise_mergeSort->xK,getElem?_cons_succ->xM,length_eraseIdx_le->xO,length_eq_zero_iff->xP,range_succ_eq_map->xR,any_map->xS,of_mem_zip->xT,length_nil->xU,mem_iff_getElem?->xW,perm_append_comm->xX,getElem?_mapIdx->wz,length_dropLast->wx,tail_cons->ww,getElem?_of_mem->wv,mem_of_mem_drop->wu,mergeSort_perm->wq,take_succ_cons->wo,getElem_of_mem->wm,map_congr_left->wl,drop_one->wg,mem_filterMap->we,length_mapIdx->wa,map_nil->wE,pairwise_map->wG,nodup_append->wI,all_eq_false->wJ,getElem_inj->wK,filter_cons->wQ,cons_append->wR,flatMap_nil->wS,mem_flatMap->wT,map_reverse->wU,mem_reverse->wV,not_lt->wW,nil_append->vt,filter_map->vq,any_append->vp,all_append->vo,all_nil->vc
open PySem renaming wpAny_bind->zy,wpAny_pure->zq,sizeLine->zj
open Option renaming map_eq_some_iff->zu,isSome_iff_exists->zX,bind_eq_some_iff->yC,map_some->xz,isSome_map->xI,getD_some->xN,bind_eq_bind->wn,getD_none->wL,pure_def->wX,map_none->wY
open Nat renaming le_refl->zr,ne_of_lt->za,lt_of_lt_of_le->zB,zero_le->zI,le_trans->zK,lt_irrefl->yk,mod_eq_of_lt->yd,le_of_eq->yc,lt_succ_of_lt->yB,sub_self->yN,ne_of_gt->yT,mod_eq_sub_mod->xy,le_succ->xw,lt_succ_self->xL,le_add_left->xV,mul_le_mul_right->xZ,add_sub_cancel->wc,pos_of_ne_zero->wb,lt_of_le_of_ne->wC,le_of_lt->wD,zero_add->wH,le_of_not_lt->wM,le_add_right->wN,succ_ne_self->wO,min_eq_right->wP,min_eq_left->wZ,mod_lt->vm,add_comm->vf,sub_zero->ve,not_lt->vb
open PySem.Heap renaming get?_push_of_some->zo,lt_size->zf,get?_push_size->zc,get?_push_ne->yn,get?_update_self->ym,get?_update_other->yi,size_update->ye,get?_update_ne->yR,size_push->xq,get?_none_of_le->xh
open Bool renaming and_eq_true->zk,false_ne_true->zh,eq_iff_iff->yz,true_and->yb,false_eq_true->yH,or_eq_true->yU,not_eq_true'->xt,and_false->xA,false_and->xY,and_eq_true_iff->wt,or_false->wk,false_or->wj,true_eq_false->wA,not_false->vk,and_true->vj,not_true->vh
open Int renaming toNat_natCast->zE,eq_ofNat_of_zero_le->yD,zero_add->xc,emod_lt_of_pos->wB,emod_nonneg->vv
open Array renaming length_toList->zT,getElem?_eq_getElem->yp,getElem?_toList->yI,getElem?_eq_none->xp,toList_inj->xi,getD->xQ,toList_push->wF,toList->vg,ext->va
set_option Elab.async false
set_option linter.all false
set_option maxRecDepth 100000
namespace L2
open PySem PySem.Spec PyProof.Rows
abbrev Key:=Sum Int Str
def keyIs:Key->Value->Bool
 | .inl k,v=>Value.isInt k v
 | .inr x,v=>Value.isStrOf x v
def keyH (w:World):Key->Int
 | .inl k=>hashInt k
 | .inr x=>hashStr w x
theorem keyIs_shape:∀ {k:Key} {v:Value},keyIs k v=true->(∃ i t,k=Sum.inl i/\v=Value.int i t)\/(∃ x t,k=Sum.inr x/\v=Value.str x t)
 | .inl i,v,h=>by
  obtain⟨t,e⟩:=Value.isInt_shape (k:=i) (v:=v) h;exact .inl ⟨i,t,rfl,e⟩
 | .inr x,v,h=>by
  obtain⟨t,e⟩:=Value.isStrOf_shape (x:=x) (v:=v) h;exact .inr ⟨x,t,rfl,e⟩
theorem keyIs_int (i:Int)(t:Tok):keyIs (.inl i) (.int i t)=true:=by simp[keyIs,Value.isInt]
theorem keyIs_str (x:Str)(t:Tok):keyIs (.inr x) (.str x t)=true:=by simp[keyIs,Value.isStrOf]
theorem key_ll (a b:Int):decide ((Sum.inl a:Key)=Sum.inl b)=(a==b):=by
 by_cases e:a=b
 ·subst e;simp
 ·have h:¬ (Sum.inl a:Key)=Sum.inl b:=fun q=>e (Sum.inl.inj q)
  rw[decide_eq_false h];exact(beq_eq_false_iff_ne.mpr e).symm
theorem key_rr (a b:Str):decide ((Sum.inr a:Key)=Sum.inr b)=decide (a=b):=by
 by_cases e:a=b
 ·subst e;simp
 ·have h:¬ (Sum.inr a:Key)=Sum.inr b:=fun q=>e (Sum.inr.inj q)
  rw[decide_eq_false h,decide_eq_false e]
theorem key_lr (a:Int)(b:Str):decide ((Sum.inl a:Key)=Sum.inr b)=false:=decide_eq_false (fun q=>nomatch q)
theorem key_rl (a:Str)(b:Int):decide ((Sum.inr a:Key)=Sum.inl b)=false:=decide_eq_false (fun q=>nomatch q)
def mixKind (prog:Program)(w:World):PySem.KeyKind prog w Key where
 is:=keyIs
 hash:=keyH w
 inj:=fun v a b ha hb=>by
  rcases keyIs_shape ha with ⟨i,t,rfl,rfl⟩|⟨x,t,rfl,rfl⟩
  ·rcases keyIs_shape hb with ⟨j,u,rfl,e⟩|⟨y,u,rfl,e⟩
   ·injection e with e1 _;rw[e1]
   ·exact nomatch e
  ·rcases keyIs_shape hb with ⟨j,u,rfl,e⟩|⟨y,u,rfl,e⟩
   ·exact nomatch e
   ·injection e with e1 _;rw[e1]
 byValue:=fun k v h=>by
  rcases keyIs_shape h with ⟨i,t,rfl,rfl⟩|⟨x,t,rfl,rfl⟩ <;> rfl
 pyHash:=fun hv h=>by
  rcases keyIs_shape hv with ⟨i,t,rfl,rfl⟩|⟨x,t,rfl,rfl⟩
  ·exact wpAny_pyHash_int h
  ·exact wpAny_pyHash_str h
 eqBool:=fun hu hv h=>by
  rcases keyIs_shape hu with ⟨i,t,rfl,rfl⟩|⟨x,t,rfl,rfl⟩
  ·rcases keyIs_shape hv with ⟨j,u,rfl,rfl⟩|⟨y,u,rfl,rfl⟩
   ·rw[key_ll]at h;exact wpAny_eqBool_int h
   ·rw[key_lr]at h;exact SeqAt.EqAt.int_str i t y u _ _ _ _ h
  ·rcases keyIs_shape hv with ⟨j,u,rfl,rfl⟩|⟨y,u,rfl,rfl⟩
   ·rw[key_rl]at h;exact SeqAt.EqAt.str_int x t j u _ _ _ _ h
   ·rw[key_rr]at h;exact wpAny_eqBool_str h
 «strs»:=fun k x t v h=>by
  rcases keyIs_shape h with ⟨i,u,rfl,e⟩|⟨y,u,rfl,e⟩
  ·exact nomatch e
  ·injection e with e1 _
   subst e1;cases v <;> rfl
theorem mixKind_int (prog:Program)(w:World)(i:Int)(t:Tok):(mixKind prog w).is (.inl i) (.int i t)=true:=keyIs_int i t
theorem mixKind_str (prog:Program)(w:World)(x:Str)(t:Tok):(mixKind prog w).is (.inr x) (.str x t)=true:=keyIs_str x t
end L2
namespace L2
open PySem PySem.Spec PyProof.Rows
inductive V where
 | non | bl (b:Bool) | int (i:Int) | str (x:Str) | byt (b:Array UInt8) | flt (b:UInt64) | ref (a:Addr) | ty (n:String)
 deriving DecidableEq
def RelV:V->Value->Prop
 | .non,u=>u=Value.none
 | .bl b,u=>u=Value.bool b
 | .int i,u=>∃ t,u=Value.int i t
 | .str x,u=>∃ t,u=Value.str x t
 | .byt b,u=>∃ t,u=Value.bytes b t
 | .flt b,u=>∃ t,u=Value.float b t
 | .ref a,u=>u=Value.ref a
 | .ty n,u=>u=Value.type n
abbrev Vals:List V->List Value->Prop:=Paired RelV
theorem Vals.length {xs:List V}{us:List Value}(r:Vals xs us):xs.length=us.length:=Paired.length r
theorem Vals.get:∀ {xs:List V} {us:List Value} {i:Nat} {x:V},Vals xs us->xs[i]?=some x->∃ u,us[i]?=some u/\RelV x u
 | _,_,_,_,.nil,e=>by simp at e
 | _,_,0,_,.cons r _,e=>by simp at e;subst e;exact⟨_,rfl,r⟩
 | _,_,i + 1,x,.cons _ t,e=>by
  obtain⟨u,h1,h2⟩:=Vals.get (i:=i) (x:=x) t (by simpa using e);exact⟨u,by simpa using h1,h2⟩
theorem Vals.set {x:V}{u:Value}(r:RelV x u):∀ {xs:List V} {us:List Value} (i:Nat),Vals xs us->Vals (xs.set i x) (us.set i u)
 | _,_,_,.nil=>.nil
 | _,_,0,.cons _ t=>.cons r t
 | _,_,i + 1,.cons q t=>.cons q (Vals.set r i t)
theorem Vals.append:∀ {xs ys:List V} {us ws:List Value},Vals xs us->Vals ys ws->Vals (xs++ys) (us++ws)
 | _,_,_,_,.nil,s=>s
 | _,_,_,_,.cons r t,s=>.cons r (Vals.append t s)
theorem Vals.take:∀ {xs:List V} {us:List Value} (n:Nat),Vals xs us->Vals (xs.take n) (us.take n)
 | _,_,0,_=>.nil
 | _,_,_ + 1,.nil=>.nil
 | _,_,n + 1,.cons r t=>.cons r (Vals.take n t)
theorem Vals.drop:∀ {xs:List V} {us:List Value} (n:Nat),Vals xs us->Vals (xs.drop n) (us.drop n)
 | _,_,0,r=>r
 | _,_,_ + 1,.nil=>.nil
 | _,_,n + 1,.cons _ t=>Vals.drop n t
theorem Vals.none_of:∀ {xs:List V} {us:List Value} {i:Nat},Vals xs us->xs[i]?=none->us[i]?=none:=fun {xs us i} r e=>by
 have h1:=r.length;have h2:xs.length<=i:=yK.mp e;exact yK.mpr (by first | lia | omega)
def RelO:Option V->Option Value->Prop
 | some v,some u=>RelV v u
 | none,none=>True
 | _,_=>False
def KV {κ:Type}:List (κ×V)->List (κ×Value)->Prop:=Paired fun (p:κ×V) (q:κ×Value)=>p.1=q.1/\RelV p.2 q.2
def kV:Key->V
 | .inl i=>.int i
 | .inr x=>.str x
inductive HO where
 | lst (xs:List V)
 | tup (xs:List V)
 | dK (kvs:List (Key×V)) | dT (kvs:List (List Key×V))
 | set (S:Int->Bool) (n:Nat)
 | ins (C dx:Addr) (fs:List (Str×V))
 | own (x:Addr)
 | xd (fs:List (Str×V))
 | met (f x:Addr)
 | rng (lo hi:Int)
 | frz (o:Obj) (u:HO)
 | tbl (ps:Array Value)
 | ext (φ:Heap->Prop)
abbrev Hp:=Addr->Option HO
def upd (H:Hp)(a:Addr)(o:HO):Hp:=fun b=>if b=a then some o else H b
theorem upd_same {H:Hp}{a:Addr}{o:HO}:upd H a o a=some o:=by unfold upd;rw[if_pos rfl]
theorem upd_ne {H:Hp}{a b:Addr}{o:HO}(h:b≠a):upd H a o b=H b:=by unfold upd;rw[if_neg h]
theorem upd_upd {H:Hp}{a:Addr}{o u:HO}:upd (upd H a o) a u=upd H a u:=by
 funext b;unfold upd;split <;> rfl
theorem ne_of {H:Hp}{a b:Addr}{o u:HO}(h:H a=some o)(h':H b=some u)(d:o≠u):a≠b:=by
 intro e;subst e;rw[h]at h';exact d (Option.some.inj h')
theorem ne_of_none {H:Hp}{a b:Addr}{o:HO}(h:H a=some o)(h':H b=none):a≠b:=by
 intro e;subst e;rw[h]at h';cases h'
def TupN (h:Heap)(a:Addr)(items:Array Value):Prop:=IsTup h a items/\∀ o,h.get? a=some o->o.dict=none/\o.slots = #[]
theorem TupN.new (h:Heap)(items:Array Value):TupN (h.push { cls:=.type "tuple",data:=.seq items }) h.objs.size items:=⟨IsTup.new _ _,fun o e=>by
 rw[zc _ rfl]at e;cases e;exact⟨rfl,rfl⟩⟩
section
variable (P:Program)(w:World)
def ObjOk (H:Hp)(h:Heap)(a:Addr):HO->Prop
 | .lst xs=>xs.length<=zj/\∃ (its:List Value) (n:Nat),Vals xs its/\h.get? a=some { cls:=.type "list",data:=.seq its.toArray n }
 | .tup xs=>xs.length<=zj/\∃ its:List Value,Vals xs its/\TupN h a its.toArray
 | .dK kvs=>kvs.length<=zj/\(a==sysModules)=false/\∃ vs,KV kvs vs/\h.DictOf (mixKind P w) a vs
 | .dT kvs=>kvs.length<=zj/\(a==sysModules)=false/\∃ xs:List (List Key×Addr×Value),
   Paired (fun (p:List Key×V) (q:List Key×Addr×Value)=>p.1=q.1/\H q.2.1=some (.tup (p.1.map kV))/\RelV p.2 q.2.2) kvs xs /\
   ∃ o es ep,h.get? a=some o/\o.ExactDict/\o.data=.dict es ep/\es.toList=xs.map (entryOfKey (tupleKind (mixKind P w)))/\(xs.map (·.1)).Nodup
 | .set S n=>h.SetOf (intKind P w) a S n
 | .ins C dx fs=>H dx=some (.own a)/\fs.length<=1000/\dx≠a/\h.get? a=some (PySem.W.instObj C dx) /\
   ∃ mA,h.Ns1 dx mA/\(∀ f,RelO (fs.lookup f) (mA f))/\PySem.Within mA (fs.map (·.1))
 | .own _=>∃ o,h.get? a=some o
 | .xd fs=>∃ mA,h.Ns1 a mA/\∀ f,RelO (fs.lookup f) (mA f)
 | .rng lo hi=>∃ t u v,h.get? a=some { cls:=.type "range",data:=.fields #[.int lo t,.int hi u,.int 1 v] }
 | .frz o u=>h.get? a=some o/\ObjOk H h a u
 | .tbl ps=>h.get? a=some { cls:=.none,data:=.fields ps }
 | .met f x=>h.get? a=some (PySem.W.methodObj (.ref f) (.ref x))
 | .ext φ=>φ h/\(∃ o,h.get? a=some o)/\∀ h1 h2:Heap,φ h1->(∀ o,h1.get? a=some o->h2.get? a=some o)->φ h2
def HOk (H:Hp)(h:Heap):Prop:=∀ a o,H a=some o->ObjOk P w H h a o
end
section
variable {P:Program}{w:World}{H H':Hp}{h h':Heap}{a:Addr}{o:HO}
theorem ObjOk.lt (x:ObjOk P w H h a o):a < h.objs.size:=by
 cases o with
 | lst xs=>obtain⟨_,_,_,_,e⟩:=x;exact zf e
 | tup xs=>obtain⟨_,_,_,p,_⟩:=x;exact p.lt
 | dK kvs=>obtain⟨_,_,_,_,o,_,_,e,_⟩:=x;exact zf e
 | dT kvs=>obtain⟨_,_,_,_,o,_,_,e,_⟩:=x;exact zf e
 | set S n=>obtain⟨o,_,_,_,e,_⟩:=x;exact zf e
 | ins C dx fs=>obtain⟨_,_,_,e,_⟩:=x;exact zf e
 | own y=>obtain⟨_,e⟩:=x;exact zf e
 | xd fs=>obtain⟨_,⟨_,_,_,e,_⟩,_⟩:=x;exact zf e
 | rng lo hi=>obtain⟨_,_,_,e⟩:=x;exact zf e
 | frz ob u=>obtain⟨e,_⟩:=x;exact zf e
 | tbl ps=>exact zf (show h.get? a=some _ from x)
 | met f y=>exact zf (show h.get? a=some _ from x)
 | ext φ=>obtain⟨_,⟨_,e⟩,_⟩:=x;exact zf e
theorem Paired.mapP {α β:Type}{F G:α->β->Prop}:∀ {l₁:List α} {l₂:List β},Paired F l₁ l₂->(∀ a b,F a b->G a b)->Paired G l₁ l₂
 | _,_,.nil,_=>.nil
 | _,_,.cons r t,f=>.cons (f _ _ r) (Paired.mapP t f)
theorem ObjOk.stay (x:ObjOk P w H h a o)(k:∀ b u,(b=a\/H b=some (.own a))->h.get? b=some u->h'.get? b=some u)
  (ho:∀ b,H b=some (.own a)->H' b=some (.own a)) (ht:∀ b xs,H b=some (.tup xs)->H' b=some (.tup xs)):ObjOk P w H' h' a o:=by
 induction o with
 | lst xs=>obtain⟨z,its,n,r,e⟩:=x;exact⟨z,its,n,r,k _ _ (.inl rfl) e⟩
 | tup xs =>
  obtain⟨z,its,r,⟨ob,e,c⟩,d⟩:=x;have e':=k _ _ (.inl rfl) e;exact⟨z,its,r,⟨ob,e',c⟩,fun o q=>by rw[e']at q;cases q;exact d _ e⟩
 | dK kvs=>obtain⟨z,y,vs,r,ob,es,ep,e,c⟩:=x;exact⟨z,y,vs,r,ob,es,ep,k _ _ (.inl rfl) e,c⟩
 | dT kvs =>
  obtain⟨z,y,xs,r,ob,es,ep,e,c⟩:=x;exact⟨z,y,xs,Paired.mapP r fun p q z=>⟨z.1,ht _ _ z.2.1,z.2.2⟩,ob,es,ep,k _ _ (.inl rfl) e,c⟩
 | set S n=>obtain⟨ob,es,ep,t,e,c⟩:=x;exact⟨ob,es,ep,t,k _ _ (.inl rfl) e,c⟩
 | ins C dx fs =>
  obtain⟨d,z,ne,e,mA,⟨od,es,ep,e2,c⟩,r⟩:=x;exact⟨ho _ d,z,ne,k _ _ (.inl rfl) e,mA,⟨od,es,ep,k _ _ (.inr d) e2,c⟩,r⟩
 | own y=>obtain⟨ob,e⟩:=x;exact⟨ob,k _ _ (.inl rfl) e⟩
 | xd fs=>obtain⟨mA,⟨od,es,ep,e,c⟩,r⟩:=x;exact⟨mA,⟨od,es,ep,k _ _ (.inl rfl) e,c⟩,r⟩
 | rng lo hi=>obtain⟨t,u,v,e⟩:=x;exact⟨t,u,v,k _ _ (.inl rfl) e⟩
 | frz ob u ih=>obtain⟨e,q⟩:=x;exact⟨k _ _ (.inl rfl) e,ih q⟩
 | tbl ps =>
  have e:h.get? a=some { cls:=.none,data:=.fields ps }:=x;show h'.get? a=some { cls:=.none,data:=.fields ps };exact k a _ (.inl rfl) e
 | met f y =>
  have e:h.get? a=some (PySem.W.methodObj (.ref f) (.ref y)):=x;show h'.get? a=some (PySem.W.methodObj (.ref f) (.ref y));exact k a _ (.inl rfl) e
 | ext φ=>obtain⟨p,⟨o,e⟩,st⟩:=x;exact⟨st _ _ p fun o q=>k _ _ (.inl rfl) q,⟨o,k _ _ (.inl rfl) e⟩,st⟩
theorem HOk.lt (x:HOk P w H h)(e:H a=some o):a < h.objs.size:=(x a o e).lt
theorem HOk.fresh (x:HOk P w H h)(e:h.objs.size<=a):H a=none:=by
 cases q:H a with
 | none=>rfl
 | some u=>exact absurd (zB (x.lt q) e) (yk _)
theorem HOk.kept (x:HOk P w H h)(k:∀ b u,h.get? b=some u->h'.get? b=some u):HOk P w H h':=fun a o e =>
 (x a o e).stay (fun b u _ q=>k b u q) (fun _ q=>q) fun _ _ q=>q
theorem HOk.laid (x:HOk P w H h)(k:∀ b u,h.get? b=some u->h'.get? b=some u)(hp:h.objs.size<=a)(new:ObjOk P w (upd H a o) h' a o):HOk P w (upd H a o) h':=fun b u e=>by
 have hn:=x.fresh hp;by_cases hb:b=a
 ·subst hb;rw[upd_same]at e;cases e;exact new
 ·rw[upd_ne hb]at e
  exact(x b u e).stay (fun c v _ q=>k c v q) (fun c q=>by rw[upd_ne (ne_of_none q hn)];exact q) fun c xs q=>by rw[upd_ne (ne_of_none q hn)];exact q
end
def Rd (H:Hp)(a:Addr)(u:HO):Prop:=H a=some u\/∃ o,H a=some (.frz o u)
theorem Rd.ok {P:Program}{w:World}{H:Hp}{h:Heap}{a:Addr}{u:HO}(r:Rd H a u)(x:HOk P w H h):ObjOk P w H h a u:=by
 rcases r with r | ⟨o,r⟩
 ·exact x a u r
 ·obtain⟨_,q⟩:=x a _ r
  exact q
def Mut:Option HO->Prop
 | some (.lst _)=>True
 | some (.dK _)=>True
 | some (.dT _)=>True
 | some (.set _ _)=>True
 | some (.ins _ _ _)=>True
 | some (.ext _)=>True
 | _=>False
section
variable {P:Program}{w:World}{H:Hp}{h h':Heap}{x e:Addr}{o':HO}
theorem HOk.write (ok:HOk P w H h)(mu:Mut (H x))(he:e=x\/H e=some (.own x))(k:∀ b u,b≠e->h.get? b=some u->h'.get? b=some u)(heo:∃ u,h'.get? e=some u)
  (new:ObjOk P w (upd H x o') h' x o'):HOk P w (upd H x o') h':=fun b u q=>by
 have nown:∀ c y,H c=some (.own y)->c≠x:=fun c y r z=>by subst z;rw[r]at mu;exact mu
 have ntup:∀ c xs,H c=some (.tup xs)->c≠x:=fun c xs r z=>by subst z;rw[r]at mu;exact mu
 by_cases hb:b=x
 ·subst hb;rw[upd_same]at q;cases q;exact new
 ·rw[upd_ne hb]at q
  by_cases hbe:b=e
  ·have q':H b=some (.own x):=by
    rcases he with z | z
    ·exact absurd (hbe.trans z) hb
    ·rw[hbe];exact z
   rw[q]at q';cases q';obtain⟨v,hv⟩:=heo;exact⟨v,by rw[hbe];exact hv⟩
  ·refine(ok b u q).stay (fun c v hc r=>k c v ?_ r) (fun c r=>by rw[upd_ne (nown c b r)];exact r) fun c xs r=>by rw[upd_ne (ntup c xs r)];exact r
   rcases hc with rfl | hc
   ·exact hbe
   ·rintro rfl
    rcases he with z | z
    ·exact nown c b hc z
    ·rw[hc]at z;cases z;exact hb rfl
end
structure Un (fs ex:List Addr) (H H':Hp) (h h':Heap):Prop where
 keep:∀ b o,h.get? b=some o->H b=none->b ∉ fs->b ∉ ex->h'.get? b=some o
 slot:∀ b o,h.get? b=some o->H b=none->b∈fs->b ∉ ex->∃ sl,h'.get? b=some { o with slots:=sl }
 free:∀ b o,h.get? b=some o->H b=none->b ∉ ex->H' b=none
 there:∀ b o,h.get? b=some o->b ∉ ex->∃ o',h'.get? b=some o'
 tups:∀ b xs,H b=some (.tup xs)->H' b=some (.tup xs)
 frzs:∀ b o u,H b=some (.frz o u)->H' b=some (.frz o u)
 tbls:∀ b ps,H b=some (.tbl ps)->∃ more,H' b=some (.tbl (ps++more))
section
variable {fs fs' ex ex':List Addr}{H H1 H2:Hp}{h h1 h2 h':Heap}{a x e:Addr}{o:HO}
theorem Un.any (u:Un fs ex H H1 h h1){b:Addr}{ob:Obj}(q:h.get? b=some ob)(n:H b=none)(hx:b ∉ ex):∃ sl,h1.get? b=some { ob with slots:=sl }:=by
 by_cases hb:b∈fs
 ·exact u.slot b ob q n hb hx
 ·exact⟨ob.slots,u.keep b ob q n hb hx⟩
theorem Un.kept (k:∀ b u,h.get? b=some u->h'.get? b=some u):Un fs ex H H h h' :=
 ⟨fun b ob q _ _ _=>k b ob q,fun b ob q _ _ _=>⟨ob.slots,k b ob q⟩,fun _ _ _ n _=>n,fun b ob q _=>⟨ob,k b ob q⟩,fun _ _ q=>q,fun _ _ _ q=>q,fun _ ps q=>⟨#[],by rw[q];simp⟩⟩
theorem Un.refl:Un fs ex H H h h:=Un.kept fun _ _ q=>q
theorem Un.laid (k:∀ b u,h.get? b=some u->h'.get? b=some u)(hp:h.objs.size<=a)(hn:H a=none):Un fs ex H (upd H a o) h h' where
 keep:=fun b u q _ _ _=>k b u q
 slot:=fun b u q _ _ _=>⟨u.slots,k b u q⟩
 free:=fun b u q n _=>by rw[upd_ne (za (zB (zf q) hp))];exact n
 there:=fun b u q _=>⟨u,k b u q⟩
 tups:=fun b xs q=>by rw[upd_ne (ne_of_none q hn)];exact q
 frzs:=fun b u xs q=>by rw[upd_ne (ne_of_none q hn)];exact q
 tbls:=fun b ps q=>⟨#[],by rw[upd_ne (ne_of_none q hn),q];simp⟩
theorem Un.write (mu:Mut (H x))(he:e=x\/H e=some (.own x))(k:∀ b u,b≠e->h.get? b=some u->h'.get? b=some u)(heo:∃ u,h'.get? e=some u):Un fs ex H (upd H x o) h h':=by
 have hx:∀ b,H b=none->b≠x:=fun b n z=>by subst z;rw[n]at mu;exact mu
 have hb:∀ b,H b=none->b≠e:=fun b n z=>by
  subst z;rcases he with r | r
  ·exact hx b n r
  ·rw[n]at r;cases r
 have hm:∀ b u,H b=some u->¬ Mut (some u)->b≠x:=fun b u q nm z=>by subst z;rw[q]at mu;exact nm mu
 refine⟨fun b u q n _ _=>k b u (hb b n) q,fun b u q n _ _=>⟨u.slots,k b u (hb b n) q⟩,fun b u q n _=>by rw[upd_ne (hx b n)];exact n,fun b u q _=>?_,
  fun b xs q=>by rw[upd_ne (hm b _ q fun z=>z)];exact q,fun b u xs q=>by rw[upd_ne (hm b _ q fun z=>z)];exact q,fun b ps q=>⟨#[],by rw[upd_ne (hm b _ q fun z=>z),q];simp⟩⟩
 by_cases hbe:b=e
 ·subst hbe;exact heo
 ·exact⟨u,k b u hbe q⟩
end
def trk (h:Heap)(H:Hp):List Addr:=(List.range h.objs.size).filter fun a=>(H a).isSome
def hidT (h:Heap)(H:Hp):Heap:=PySem.W.hideAll h (trk h H)
theorem hidT_size (h:Heap)(H:Hp):(hidT h H).objs.size=h.objs.size:=PySem.W.hideAll_size _ _
theorem hidT_get {h:Heap}{H:Hp}{b:Addr}{o:Obj}(e:h.get? b=some o)(n:H b=none):(hidT h H).get? b=some o :=
 PySem.W.hideAll_get _ e fun hm=>by
  have q:(H b).isSome=true:=(yE.mp hm).2;rw[n]at q;simp at q
theorem of_hidT {h:Heap}{H:Hp}{b:Addr}{o:Obj}(e:(hidT h H).get? b=some o):h.get? b=some o/\H b=none:=by
 have e':h.get? b=some o:=PySem.W.of_hideAll (trk h H) e;refine⟨e',?_⟩;cases q:H b with
 | none=>rfl
 | some x =>
  have hm:b∈trk h H:=yE.mpr ⟨yx.mpr (zf e'),by simp[q]⟩;have z:(hidT h H).get? b=none:=PySem.W.hideAll_none (trk h H) hm;rw[z]at e;cases e
end L2
namespace L2
open PySem PySem.Spec PyProof.Rows
structure Mod (K:PySem.W.Frag) (mg:Str->Option Value) (base:Heap):Prop where
 kin:K.In base
 glob:base.Ns mainGlobals mg
 blt:∃ mb,base.Ns builtinsNs mb/\∀ x:Str,x≠"__name__"->mb x=bootBuiltins x
 nolimit:base.NoLimit
/-- the context: a def's body (or a comprehension's block) running. base: fixed through the whole law;s₀,H₀: the entry;outer: the frames whose slots others may change (a def's callers);stack: all frames that run;
   ex: iterators that were made ahead of the entry and are walked here (a comprehension's);fn: the names whose cells were made at the entry (a def: all;a comprehension's block: its own);calm: not within an except suite;pn: pins that every state bears;xe: what is wanted of an exception that leaves the code -/
structure Cx where
 prog:Program
 w:World
 K:PySem.W.Frag
 mg:Str->Option Value
 base:Heap
 A:Around
 N:List Str
 s₀:Shared
 H₀:Hp
 env:Env
 outer:List Env
 stack:List Env
 ex:List Addr
 fn:Str->Bool
 calm:Bool
 pn:List (Addr×Obj)
 xe:Value->Shared->Prop
def frs (l:List Env):List Addr:=l.filterMap (·.frame)
abbrev Cx.fs (X:Cx):List Addr:=frs X.outer
def Vis (sc:Scope)(x:Str):Prop:=sc.names.lookup x=some .local\/sc.names.lookup x=some .cell\/sc.names.lookup x=some .free
def Loc (sc:Scope)(x:Str):Prop:=sc.names.lookup x=some .local\/sc.names.lookup x=some .cell
def Look (env:Env)(h:Heap)(m:Str->Option Value)(x:Str)(u:Value):Prop :=
 (env.kindOf x=some .local/\m x=some u)\/((env.kindOf x=some .cell\/env.kindOf x=some .free)/\∃ c,env.cells.lookup x=some c/\h.IsCell c (some u))
structure Cx.Ok (X:Cx):Prop where
 mod:Mod X.K X.mg X.base
 kind:X.env.scope.kind=.function
 glob:X.env.globals=mainGlobals
 blt:X.env.builtins=builtinsNs
 above:X.s₀.heap.objs.size<=X.env.locals
 inj:∀ x y c,X.env.cells.lookup x=some c->X.env.cells.lookup y=some c->x=y
 has:∀ x,(X.env.kindOf x=some .cell\/X.env.kindOf x=some .free)->∃ c,X.env.cells.lookup x=some c
 cab:∀ x c,X.fn x=true->X.env.cells.lookup x=some c->X.s₀.heap.objs.size<=c
 hd:X.calm=true->X.A.handled=none
 frames:X.A.frames=some X.stack
 stk:X.stack=X.outer\/(X.stack=X.env::X.outer/\X.env.frame=some X.env.locals)
 exf:∀ b∈X.ex,b≠X.env.locals/\∀ x c,X.env.cells.lookup x=some c->c≠b
 bs:∀ b o,X.base.get? b=some o->X.s₀.heap.get? b=some o/\X.H₀ b=none
 bsz:X.base.objs.size<=X.s₀.heap.objs.size
 noex:∀ b o,X.base.get? b=some o->b ∉ X.ex
 exfs:∀ b∈X.ex,b ∉ X.fs
 funs:X.s₀.heap.FunFrames X.base X.outer
 frf:∀ b∈X.fs,X.H₀ b=none
structure Inv (X:Cx) (pins:List (Addr×Obj)) (σ:List (Option V)) (H:Hp) (s:Shared):Prop where
 ok:X.Ok
 os:s.os=X.s₀.os
 bare:AllBare s.gens
 base:Un X.fs X.ex X.H₀ H X.s₀.heap s.heap
 loc:∃ m,s.heap.Ns X.env.locals m/\∀ (i:Nat) (x:Str) (v:V),X.N[i]?=some x->σ[i]?=some (some v)->Vis X.env.scope x->∃ u,RelV v u/\Look X.env s.heap m x u
 cell:∀ x c,X.env.cells.lookup x=some c->∃ v,s.heap.IsCell c v
 free:H X.env.locals=none
 freeC:∀ x c,X.env.cells.lookup x=some c->H c=none
 pin:∀ p∈X.pn++pins,s.heap.get? p.1=some p.2/\H p.1=none/\p.1≠X.env.locals/\p.1 ∉ X.fs/\∀ v,p.2.data≠.cell v
 hok:HOk X.prog X.w H s.heap
 len:σ.length=X.N.length
section
variable {X:Cx}{pins:List (Addr×Obj)}{σ:List (Option V)}{H H':Hp}{s:Shared}{h':Heap}
theorem Cx.Ok.nofr (ok:X.Ok){b:Addr}{o:Obj}(e:X.base.get? b=some o):b ∉ X.fs:=fun hb=>by
 have:=(ok.funs.mem hb).1
 rw[e]at this;cases this
theorem Inv.bs (I:Inv X pins σ H s):∀ b o,X.base.get? b=some o->s.heap.get? b=some o/\H b=none:=fun b o e =>
 ⟨I.base.keep b o (I.ok.bs b o e).1 (I.ok.bs b o e).2 (I.ok.nofr e) (I.ok.noex b o e),I.base.free b o (I.ok.bs b o e).1 (I.ok.bs b o e).2 (I.ok.noex b o e)⟩
theorem Inv.bk (I:Inv X pins σ H s):∀ b o,X.base.get? b=some o->s.heap.get? b=some o:=fun b o e=>(I.bs b o e).1
theorem Inv.mod (I:Inv X pins σ H s):Mod X.K X.mg X.base:=I.ok.mod
theorem Inv.kIn (I:Inv X pins σ H s):X.K.In s.heap:=I.ok.mod.kin.keeps I.bk
theorem Inv.lt (I:Inv X pins σ H s):X.env.locals < s.heap.objs.size:=let ⟨_,hn,_⟩:=I.loc;hn.lt
theorem Inv.sz (I:Inv X pins σ H s):X.s₀.heap.objs.size<=s.heap.objs.size:=zK I.ok.above (wD I.lt)
theorem Inv.nofs (I:Inv X pins σ H s){a:Addr}(h:s.heap.objs.size<=a):a ∉ X.fs:=fun hb=>by
 obtain⟨_,o,ho,_⟩:=I.ok.funs.mem hb;exact absurd (zB (zf ho) (zK I.sz h)) (yk _)
theorem Inv.cne (I:Inv X pins σ H s):∀ x c,X.env.cells.lookup x=some c->c≠X.env.locals:=fun x c e z=>by
 obtain⟨v,o,ho,hd⟩:=I.cell x c e;obtain⟨m,⟨o',es,ep,ho',hd',_⟩,_⟩:=I.loc;rw[z,ho']at ho;cases ho;rw[hd']at hd;cases hd
theorem Inv.funs (I:Inv X pins σ H s):s.heap.FunFrames X.base X.outer:=by
 have all:∀ (l:List Env),(∀ b∈frs l,b∈X.fs)->X.s₀.heap.FunFrames X.base l->s.heap.FunFrames X.base l:=by
  intro l;induction l with
  | nil=>intro _ _;trivial
  | cons env r ih =>
   intro hs hl;obtain⟨hk,⟨L,o,hf,hn,ho,hd⟩,hr⟩:=hl;have hL:L∈X.fs:=hs L (by unfold frs;rw[yP,hf];exact zJ);obtain⟨sl,e⟩:=I.base.slot L o ho (I.ok.frf L hL) hL fun z=>I.ok.exfs L z hL;exact⟨hk,⟨L,_,hf,hn,e,hd⟩,ih (fun b hb=>hs b (by unfold frs;rw[yP,hf];exact zF _ hb)) hr⟩
 exact all X.outer (fun _ hb=>hb) I.ok.funs
theorem Inv.stack (I:Inv X pins σ H s):s.heap.FunFrames X.base X.stack:=by
 rcases I.ok.stk with e | ⟨e,hf⟩
 ·rw[e];exact I.funs
 ·rw[e]
  obtain⟨m,hn,_⟩:=I.loc;refine .cons (by rw[I.ok.kind];decide) hf hn ?_ I.funs;exact xh (zK I.ok.bsz I.ok.above)
theorem Inv.stkSub (I:Inv X pins σ H s):∀ b∈frs X.stack,b∈X.env.locals::X.fs:=fun b hb=>by
 rcases I.ok.stk with e | ⟨e,hf⟩
 ·rw[e]at hb;exact zF _ hb
 ·rw[e]at hb
  unfold frs at hb;rw[yP,hf]at hb;exact hb
theorem Inv.stkFree (I:Inv X pins σ H s):∀ b∈frs X.stack,H b=none:=fun b hb=>by
 rcases zG.mp (I.stkSub b hb) with e | hb
 ·rw[e];exact I.free
 ·obtain⟨_,o,ho,_⟩:=I.ok.funs.mem hb
  exact I.base.free b o ho (I.ok.frf b hb) fun z=>I.ok.exfs b z hb
theorem Inv.step {g':Array GenState}{t':Nat}{d':Drawn}{ch:List Addr}(I:Inv X pins σ H s)
  (hch:∀ b∈ch,(b∈X.ex\/X.s₀.heap.objs.size<=b)/\b≠X.env.locals/\(∀ x c,X.env.cells.lookup x=some c->c≠b)/\∀ p∈X.pn++pins,p.1≠b)
  (keep:∀ b o,b≠X.env.locals->b ∉ X.fs->b ∉ ch->s.heap.get? b=some o->H b=none->h'.get? b=some o)
  (slot:∀ b o,b≠X.env.locals->b∈X.fs->b ∉ ch->s.heap.get? b=some o->H b=none->∃ sl,h'.get? b=some { o with slots:=sl }) (free:∀ b o,b ∉ ch->s.heap.get? b=some o->H b=none->H' b=none)
  (there:∀ b o,b ∉ ch->s.heap.get? b=some o->∃ o',h'.get? b=some o')
  (tups:∀ b xs,H b=some (.tup xs)->H' b=some (.tup xs)) (frzs:∀ b o u,H b=some (.frz o u)->H' b=some (.frz o u)) (tbls:∀ b ps,H b=some (.tbl ps)->∃ more,H' b=some (.tbl (ps++more)))
  (ns:∀ m,s.heap.Ns X.env.locals m->h'.Ns X.env.locals m) (hok:HOk X.prog X.w H' h') (hg:AllBare g') :
  Inv X pins σ H' { s with heap:=h',gens:=g',drawn:=d',toks:=t' }:=by
 have neL:∀ b o,X.s₀.heap.get? b=some o->b≠X.env.locals:=fun b o e=>za (zB (zf e) I.ok.above);have neC:∀ b o,X.s₀.heap.get? b=some o->b ∉ X.ex->b ∉ ch:=fun b o e hx hb=>by
  rcases (hch b hb).1 with z | z
  ·exact hx z
  ·exact absurd (zB (zf e) z) (yk _)
 have cellK:∀ x c,X.env.cells.lookup x=some c->∀ v,s.heap.IsCell c v->h'.IsCell c v:=fun x c e v ⟨o,ho,hd⟩=>by
  have nch:c ∉ ch:=fun z=>(hch c z).2.2.1 x c e rfl;by_cases hc:c∈X.fs
  ·obtain⟨sl,q⟩:=slot c o (I.cne x c e) hc nch ho (I.freeC x c e)
   exact⟨_,q,hd⟩
  ·exact⟨o,keep c o (I.cne x c e) hc nch ho (I.freeC x c e),hd⟩
 refine⟨I.ok,I.os,hg,⟨fun b o e n hb hx=>?_,fun b o e n hb hx=>?_,fun b o e n hx=>?_,fun b o e hx=>?_,fun b xs e=>tups b xs (I.base.tups b xs e),fun b o xs e=>frzs b o xs (I.base.frzs b o xs e),fun b ps e=>?_⟩,?_,fun x c e=>?_,?_,fun x c e=>?_,fun p hp=>?_,hok,I.len⟩
 ·exact keep b o (neL b o e) hb (neC b o e hx) (I.base.keep b o e n hb hx) (I.base.free b o e n hx)
 ·obtain⟨sl,e1⟩:=I.base.slot b o e n hb hx
  obtain⟨sl',e2⟩:=slot b _ (neL b o e) hb (neC b o e hx) e1 (I.base.free b o e n hx);exact⟨sl',e2⟩
 ·obtain⟨o',e1⟩:=I.base.there b o e hx
  exact free b o' (neC b o e hx) e1 (I.base.free b o e n hx)
 ·obtain⟨o',e1⟩:=I.base.there b o e hx
  exact there b o' (neC b o e hx) e1
 ·obtain⟨m1,e1⟩:=I.base.tbls b ps e
  obtain⟨m2,e2⟩:=tbls b _ e1;exact⟨m1++m2,by rw[e2,Array.append_assoc]⟩
 ·obtain⟨m,hn,hl⟩:=I.loc
  refine⟨m,ns m hn,fun i x v e1 e2 e3=>?_⟩;obtain⟨u,r,l⟩:=hl i x v e1 e2 e3;refine⟨u,r,?_⟩;rcases l with l | ⟨k,c,e,z⟩
  ·exact .inl l
  ·exact .inr ⟨k,c,e,cellK x c e _ z⟩
 ·obtain⟨v,z⟩:=I.cell x c e
  exact⟨v,cellK x c e v z⟩
 ·obtain⟨m,⟨o,_,_,ho,_⟩,_⟩:=I.loc
  exact free _ o (fun z=>(hch _ z).2.1 rfl) ho I.free
 ·obtain⟨v,o,ho,hd⟩:=I.cell x c e
  exact free c o (fun z=>(hch c z).2.2.1 x c e rfl) ho (I.freeC x c e)
 ·obtain⟨e,n,ne,nf,d⟩:=I.pin p hp
  have nch:p.1 ∉ ch:=fun z=>(hch p.1 z).2.2.2 p hp rfl;exact⟨keep p.1 p.2 ne nf nch e n,free p.1 p.2 nch e n,ne,nf,d⟩
theorem Inv.un {t':Nat}(I:Inv X pins σ H s)(u:Un X.fs [] H H' s.heap h')(hok:HOk X.prog X.w H' h'):Inv X pins σ H' { s with heap:=h',toks:=t' }:=by
 obtain⟨m,⟨o,es,ep,ho,r⟩,_⟩:=id I.loc;obtain⟨sl,hL⟩:=u.any ho I.free (by simp);exact I.step (g':=s.gens) (d':=s.drawn) (ch:=[]) (fun _ z=>nomatch z) (fun b o _ hb _ e n=>u.keep b o e n hb (by simp)) (fun b o _ hb _ e n=>u.slot b o e n hb (by simp)) (fun b o _ e n=>u.free b o e n (by simp)) (fun b o _ e=>u.there b o e (by simp)) u.tups u.frzs u.tbls (fun m' hm=>by
  obtain⟨o',es',ep',ho',r'⟩:=hm;rw[ho]at ho';cases ho';exact⟨_,es',ep',hL,r'⟩) hok I.bare
theorem Inv.call {g':Array GenState}{t':Nat}{d':Drawn}{ch:List Addr}(I:Inv X pins σ H s)(u:Un (frs X.stack) ch H H' s.heap h')(hok:HOk X.prog X.w H' h')(hg:AllBare g')
  (hch:∀ b∈ch,(b∈X.ex\/X.s₀.heap.objs.size<=b)/\b≠X.env.locals/\(∀ x c,X.env.cells.lookup x=some c->c≠b)/\∀ p∈X.pn++pins,p.1≠b) :
  Inv X pins σ H' { s with heap:=h',gens:=g',drawn:=d',toks:=t' }:=by
 obtain⟨m,⟨o,es,ep,ho,r⟩,_⟩:=id I.loc;obtain⟨sl,hL⟩:=u.any ho I.free fun z=>(hch _ z).2.1 rfl;exact I.step (ch:=ch) hch (fun b o hL hb hc e n=>u.keep b o e n (fun z=>(zG.mp (I.stkSub b z)).elim hL hb) hc) (fun b o _ _ hc e n=>u.any e n hc) (fun b o hc e n=>u.free b o e n hc) (fun b o hc e=>u.there b o e hc) u.tups u.frzs u.tbls (fun m' hm=>by
  obtain⟨o',es',ep',ho',r'⟩:=hm;rw[ho]at ho';cases ho';exact⟨_,es',ep',hL,r'⟩) hok hg
theorem Inv.turned {t':Nat}{it:Addr}(I:Inv X pins σ H s)(k:∀ b o,b≠it->s.heap.get? b=some o->h'.get? b=some o)(hn:H it=none)(hL:it≠X.env.locals)
  (h1:it∈X.ex\/X.s₀.heap.objs.size<=it) (h2:∀ x c,X.env.cells.lookup x=some c->c≠it) (h3:∀ p∈X.pn++pins,p.1≠it):Inv X pins σ H { s with heap:=h',toks:=t' }:=by
 have nit:∀ b u,H b=some u->b≠it:=fun b u e z=>by rw[z,hn]at e;cases e
 refine I.step (g':=s.gens) (d':=s.drawn) (ch:=[it]) (fun b hb=>?_) (fun b o _ _ hc e _=>k b o (fun z=>hc (by simp[z])) e) (fun b o _ _ hc e _=>⟨o.slots,k b o (fun z=>hc (by simp[z])) e⟩) (fun _ _ _ _ n=>n)
  (fun b o hc e=>⟨o,k b o (fun z=>hc (by simp[z])) e⟩) (fun _ _ e=>e) (fun _ _ _ e=>e) (fun b ps e=>⟨#[],by rw[e];simp⟩) (fun m hm=>?_) (fun b u e=>?_) I.bare
 ·have e:b=it:=by simpa using hb
  subst e;exact⟨h1,hL,h2,h3⟩
 ·obtain⟨o,es,ep,ho,r⟩:=hm
  exact⟨o,es,ep,k _ o (Ne.symm hL) ho,r⟩
 ·refine(I.hok b u e).stay (fun c v hc q=>k c v ?_ q) (fun _ q=>q) fun _ _ q=>q
  rcases hc with z | z
  ·rw[z];exact nit b u e
  ·exact nit c _ z
theorem Inv.tok (I:Inv X pins σ H s)(t:Nat):Inv X pins σ H { s with toks:=t }:=I.un (h':=s.heap) (t':=t) Un.refl I.hok
theorem Inv.kept {t':Nat}(I:Inv X pins σ H s)(k:∀ b u,s.heap.get? b=some u->h'.get? b=some u):Inv X pins σ H { s with heap:=h',toks:=t' }:=I.un (Un.kept k) (I.hok.kept k)
theorem Inv.laid {a:Addr}{o:HO}{t':Nat}(I:Inv X pins σ H s)(k:∀ b u,s.heap.get? b=some u->h'.get? b=some u)(hp:s.heap.objs.size<=a)(new:ObjOk X.prog X.w (upd H a o) h' a o) :
  Inv X pins σ (upd H a o) { s with heap:=h',toks:=t' }:=I.un (Un.laid k hp (I.hok.fresh hp)) (I.hok.laid k hp new)
theorem Inv.write {x e:Addr}{o:HO}{t':Nat}(I:Inv X pins σ H s)(mu:Mut (H x))(he:e=x\/H e=some (.own x))(k:∀ b u,b≠e->s.heap.get? b=some u->h'.get? b=some u)(heo:∃ u,h'.get? e=some u)
  (new:ObjOk X.prog X.w (upd H x o) h' x o):Inv X pins σ (upd H x o) { s with heap:=h',toks:=t' }:=I.un (Un.write mu he k heo) (I.hok.write mu he k heo new)
theorem Inv.pins_of {pins':List (Addr×Obj)}(I:Inv X pins σ H s)(h:∀ p∈pins',s.heap.get? p.1=some p.2/\H p.1=none/\p.1≠X.env.locals/\p.1 ∉ X.fs/\∀ v,p.2.data≠.cell v):Inv X pins' σ H s :=
 ⟨I.ok,I.os,I.bare,I.base,I.loc,I.cell,I.free,I.freeC,fun p hp=>(zN.mp hp).elim (fun z=>I.pin p (yM _ z)) (h p),I.hok,I.len⟩
theorem nodup_ix {N:List Str}(hN:N.Nodup){i j:Nat}{x:Str}(a:N[i]?=some x)(b:N[j]?=some x):i=j:=by
 obtain⟨h1,e1⟩:=zp.mp a;obtain⟨h2,e2⟩:=zp.mp b;exact(wK hN).mp (e1.trans e2.symm)
theorem store_ok2 {M:Model}{A:Around}{E:Value->Shared->Prop}{i:Nat}{x:Str}{v:V}{u:Value}{Q:Unit->Shared->Prop}(I:Inv X pins σ H s)(hN:X.N.Nodup)(hi:X.N[i]?=some x)(hx:Loc X.env.scope x)(r:RelV v u)
  (h:∀ s',Inv X pins (σ.set i (some v)) H s'->(∃ a,Heap.SameBut a s.heap s'.heap/\(a=X.env.locals\/X.env.cells.lookup x=some a))->Q () s') (hf:X.fn x=true\/X.env.scope.names.lookup x=some .local:=by first | exact .inl rfl | exact .inr rfl | assumption):wpAny M A (storeName X.env x u) Q E s:=by
 obtain⟨m,hn,hl⟩:=id I.loc;have hcls:(X.env.scope.kind==.class||(X.env.scope.kind==.module&&X.env.locals != X.env.globals))=false:=by rw[I.ok.kind];rfl
 have hiσ:i < σ.length:=by rw[I.len];exact(zp.mp hi).1
 have cne:=I.cne;have tracked:∀ {a:Addr} {h':Heap},(∃ o,s.heap.get? a=some o/\H a=none)->Heap.SameBut a s.heap h'->HOk X.prog X.w H h':=fun {a h'} ha hs b ob e=>by
  obtain⟨_,_,hfree⟩:=ha;refine(I.hok b ob e).stay (fun c w' hc q=>(hs.2 c ?_).trans q) (fun _ q=>q) fun _ _ q=>q;rintro rfl;rcases hc with rfl | hc
  ·rw[hfree]at e;cases e
  ·rw[hfree]at hc;cases hc
 rcases hx with hk | hk
 ·refine wpAny_storeName_local hk hn (fun h' hn' hs=>?_) hcls
  obtain⟨oL,_,_,hoL,_⟩:=id hn;refine h _ ⟨I.ok,I.os,I.bare,⟨fun b o e n hb hx=>?_,fun b o e n hb hx=>?_,I.base.free,fun b o e hx=>?_,I.base.tups,I.base.frzs,I.base.tbls⟩,⟨_,hn',fun j y v' e1 e2 e3=>?_⟩,fun y c e=>?_,I.free,I.freeC,fun p hp=>?_,tracked ⟨oL,hoL,I.free⟩ hs,by simpa using I.len⟩ ⟨_,hs,.inl rfl⟩
  ·exact(hs.2 b (za (zB (zf e) I.ok.above))).trans (I.base.keep b o e n hb hx)
  ·obtain⟨sl,e1⟩:=I.base.slot b o e n hb hx
   exact⟨sl,(hs.2 b (za (zB (zf e) I.ok.above))).trans e1⟩
  ·obtain⟨o',e1⟩:=I.base.there b o e hx
   exact⟨o',(hs.2 b (za (zB (zf e) I.ok.above))).trans e1⟩
  ·by_cases hj:j=i
   ·subst hj
    rw[hi]at e1;cases e1;rw[zL hiσ]at e2;cases e2;exact⟨u,r,.inl ⟨hk,by simp⟩⟩
   ·rw[zi (Ne.symm hj)]at e2
    obtain⟨u',r',q⟩:=hl j y v' e1 e2 e3;refine⟨u',r',?_⟩;rcases q with ⟨k,e⟩|⟨k,c,e,z⟩
    ·refine .inl ⟨k,?_⟩
     have:y≠x:=fun e=>hj (nodup_ix hN e1 (e ▸ hi))
     simp[this,e]
    ·exact .inr ⟨k,c,e,z.sameBut hs (cne y c e)⟩
  ·obtain⟨w',z⟩:=I.cell y c e
   exact⟨w',z.sameBut hs (cne y c e)⟩
  ·obtain⟨e,n,ne,nf,d⟩:=I.pin p hp
   exact⟨(hs.2 p.1 ne).trans e,n,ne,nf,d⟩
 ·have hfn:X.fn x=true:=by
   rcases hf with z | z
   ·exact z
   ·rw[z]at hk;cases hk
  obtain⟨c,hc⟩:=I.ok.has x (.inl hk);obtain⟨w',z⟩:=I.cell x c hc;refine wpAny_storeName_cell I.ok.kind hk hc z (fun h' hc' hs=>?_);obtain⟨oc,hoc,hocd⟩:=id z;refine h { s with heap:=h' } ⟨I.ok,I.os,I.bare,⟨fun b o e n hb hx=>?_,fun b o e n hb hx=>?_,I.base.free,fun b o e hx=>?_,I.base.tups,I.base.frzs,I.base.tbls⟩,⟨m,hn.sameBut hs (Ne.symm (cne x c hc)),fun j y v' e1 e2 e3=>?_⟩,fun y c' e=>?_,I.free,I.freeC,fun p hp=>?_,tracked ⟨oc,hoc,I.freeC x c hc⟩ hs,by simpa using I.len⟩ ⟨c,hs,.inr hc⟩
  ·exact(hs.2 b (za (zB (zf e) (I.ok.cab x c hfn hc)))).trans (I.base.keep b o e n hb hx)
  ·obtain⟨sl,e1⟩:=I.base.slot b o e n hb hx
   exact⟨sl,(hs.2 b (za (zB (zf e) (I.ok.cab x c hfn hc)))).trans e1⟩
  ·obtain⟨o',e1⟩:=I.base.there b o e hx
   exact⟨o',(hs.2 b (za (zB (zf e) (I.ok.cab x c hfn hc)))).trans e1⟩
  ·by_cases hj:j=i
   ·subst hj
    rw[hi]at e1;cases e1;rw[zL hiσ]at e2;cases e2;exact⟨u,r,.inr ⟨.inl hk,c,hc,hc'⟩⟩
   ·rw[zi (Ne.symm hj)]at e2
    obtain⟨u',r',q⟩:=hl j y v' e1 e2 e3;refine⟨u',r',?_⟩;rcases q with q | ⟨k,c',e,z'⟩
    ·exact .inl q
    ·refine .inr ⟨k,c',e,z'.sameBut hs ?_⟩
     rintro rfl;exact hj (nodup_ix hN e1 (I.ok.inj _ _ _ e hc ▸ hi))
  ·by_cases hcc:c'=c
   ·subst hcc;exact⟨_,hc'⟩
   ·obtain⟨w2,z2⟩:=I.cell y c' e
    exact⟨w2,z2.sameBut hs hcc⟩
  ·obtain⟨e,n,ne,nf,d⟩:=I.pin p hp
   refine⟨(hs.2 p.1 ?_).trans e,n,ne,nf,d⟩;intro q;rw[q,hoc]at e;have q':oc=p.2:=Option.some.inj e;exact d w' (by rw[<- q'];exact hocd)
theorem store_ok {M:Model}{A:Around}{E:Value->Shared->Prop}{i:Nat}{x:Str}{v:V}{u:Value}{Q:Unit->Shared->Prop}(I:Inv X pins σ H s)(hN:X.N.Nodup)(hi:X.N[i]?=some x)(hx:Loc X.env.scope x)(r:RelV v u)
  (h:∀ s',Inv X pins (σ.set i (some v)) H s'->Q () s') (hf:X.fn x=true\/X.env.scope.names.lookup x=some .local:=by first | exact .inl rfl | exact .inr rfl | assumption):wpAny M A (storeName X.env x u) Q E s :=
 store_ok2 I hN hi hx r (fun s' I' _=>h s' I') hf
theorem Inv.call' {s':Shared}{ch:List Addr}(I:Inv X pins σ H s)(ho:s'.os=s.os)(u:Un (frs X.stack) ch H H' s.heap s'.heap)(hok:HOk X.prog X.w H' s'.heap)(hg:AllBare s'.gens)
  (hch:∀ b∈ch,(b∈X.ex\/X.s₀.heap.objs.size<=b)/\b≠X.env.locals/\(∀ x c,X.env.cells.lookup x=some c->c≠b)/\∀ p∈X.pn++pins,p.1≠b):Inv X pins σ H' s':=by
 obtain⟨h',g',d',t',o'⟩:=s';have e:o'=s.os:=ho;subst e;exact I.call (g':=g') (t':=t') (d':=d') u hok hg hch
end
abbrev XK:=Value->Option Addr->Hp->Prop
abbrev St:=List (Option V)
abbrev VK:=V->Hp->Prop
abbrev TE:=St->Hp->VK->Prop
abbrev TT:=St->Hp->(Bool->Hp->Prop)->Prop
abbrev TA:=St->Hp->(List V->Hp->Prop)->Prop
structure Ends where
 nx:St->Hp->Prop
 rt:VK
 bk:St->Hp->Prop:=fun _ _=>False
 ct:St->Hp->Prop:=fun _ _=>False
abbrev TS:=Ends->St->Hp->Prop
def EP (X:Cx)(pins:List (Addr×Obj))(σ:St)(Q:VK)(u:Value)(s':Shared):Prop:=∃ v H',Inv X pins σ H' s'/\RelV v u/\Q v H'
def TP (X:Cx)(pins:List (Addr×Obj))(σ:St)(Q:Bool->Hp->Prop)(b:Bool)(s':Shared):Prop:=∃ H',Inv X pins σ H' s'/\Q b H'
def AP (X:Cx)(pins:List (Addr×Obj))(σ:St)(Q:List V->Hp->Prop)(us:List Value)(s':Shared):Prop:=∃ vs H',Inv X pins σ H' s'/\Vals vs us/\Q vs H'
def SP (X:Cx)(pins:List (Addr×Obj))(D:Ends)(f:Flow)(s':Shared):Prop :=
 match f with
 | .next=>∃ σ' H',Inv X pins σ' H' s'/\D.nx σ' H'
 | .brk=>∃ σ' H',Inv X pins σ' H' s'/\D.bk σ' H'
 | .cont=>∃ σ' H',Inv X pins σ' H' s'/\D.ct σ' H'
 | .ret u=>∃ v σ' H',Inv X pins σ' H' s'/\RelV v u/\D.rt v H'
def PE (X:Cx)(e:Expr)(t:TE):Prop :=
 ∀ (pins:List (Addr×Obj)) (s:Shared) (σ:St) (H:Hp) (Q:VK),Inv X pins σ H s->t σ H Q->wpAny (model X.prog X.w) X.A (eval e X.env) (EP X pins σ Q) X.xe s
def PT (X:Cx)(e:Expr)(t:TT):Prop :=
 ∀ (pins:List (Addr×Obj)) (s:Shared) (σ:St) (H:Hp) (Q:Bool->Hp->Prop),Inv X pins σ H s->t σ H Q->wpAny (model X.prog X.w) X.A (isTrue e X.env (eval e X.env)) (TP X pins σ Q) X.xe s
def PW (X:Cx)(e:Expr)(t:TT):Prop :=
 ∀ (whole:Sem Value) (pins:List (Addr×Obj)) (s:Shared) (σ:St) (H:Hp) (Q:Bool->Hp->Prop),Inv X pins σ H s->t σ H Q->wpAny (model X.prog X.w) X.A (isTrue e X.env whole) (TP X pins σ Q) X.xe s
theorem PW.pt {X:Cx}{e:Expr}{t:TT}(h:PW X e t):PT X e t:=h _
def PA (X:Cx)(es:List Expr)(t:TA):Prop :=
 ∀ (pos:Pos) (pins:List (Addr×Obj)) (s:Shared) (σ:St) (H:Hp) (Q:List V->Hp->Prop),Inv X pins σ H s->t σ H Q->wpAny (model X.prog X.w) X.A (spliced (backTo pos (starEach es X.env))) (AP X pins σ Q) X.xe s
def PS (X:Cx)(st:Stmt)(t:TS):Prop :=
 ∀ (pins:List (Addr×Obj)) (s:Shared) (σ:St) (H:Hp) (D:Ends),Inv X pins σ H s->t D σ H->wpAny (model X.prog X.w) X.A (exec st X.env) (SP X pins D) X.xe s
def PSs (X:Cx)(st:List Stmt)(t:TS):Prop :=
 ∀ (pins:List (Addr×Obj)) (s:Shared) (σ:St) (H:Hp) (D:Ends),Inv X pins σ H s->t D σ H->wpAny (model X.prog X.w) X.A (execs st X.env) (SP X pins D) X.xe s
theorem thn {α:Type}{t:Sem α}{Q Q':α->Shared->Prop}{M:Model}{A:Around}{E:Value->Shared->Prop}{s:Shared}(h:wpAny M A t Q E s)(hQ:∀ a s,Q a s->Q' a s):wpAny M A t Q' E s:=wpAny_mono h hQ fun _ _ x=>x
end L2
namespace L2
open PySem PySem.Spec PyProof.Rows
section
variable {X:Cx}
def tVar (i:Nat):TE:=fun σ H Q=>∃ v,σ[i]?=some (some v)/\Q v H
def tC (v:V):TE:=fun _ H Q=>Q v H
theorem pe_var {i:Nat}{x:Str}{pos:Pos}(hN:X.N[i]?=some x)(hv:Vis X.env.scope x)(hd:(x==("__debug__" : Str))=false:=by decide)(hcd:(x==("__classdict__" : Str))=false:=by decide):PE X (.Name x pos) (tVar i):=by
 intro pins s σ H Q I h;obtain⟨v,e,h⟩:=h;obtain⟨m,hn,hl⟩:=I.loc;obtain⟨u,r,l⟩:=hl i x v hN e hv;have fin:EP X pins σ Q u s:=⟨v,H,I,r,h⟩;rcases l with ⟨hk,hm⟩|⟨hk,c,hc,hcell⟩
 ·exact wpAny_Name (wpAny_loadName_local I.ok.kind hk hn hm fin) hd
 ·rcases hk with hk | hk
  ·exact wpAny_Name (wpAny_loadName_cell I.ok.kind hk hc hcell fin) hd
  ·exact wpAny_Name (wpAny_loadName_free I.ok.kind hk hc hcell fin hcd) hd
theorem pe_int {i j pos}:PE X (.Constant (.int i) j pos) (tC (.int i)):=fun _ _ _ H _ I h=>wpAny_Constant_int ⟨.int i,H,I.tok _,⟨_,rfl⟩,h⟩
theorem pe_bl {b j pos}:PE X (.Constant (.bool b) j pos) (tC (.bl b)):=fun _ _ _ H _ I h=>Constant_bool ⟨.bl b,H,I,rfl,h⟩
theorem pe_non {j pos}:PE X (.Constant .none j pos) (tC .non):=fun _ _ _ H _ I h=>Constant_none ⟨.non,H,I,rfl,h⟩
theorem pe_str {x j pos}:PE X (.Constant (.str x) j pos) (tC (.str x)):=fun _ _ _ H _ I h=>Calls.Constant_str ⟨.str x,H,I.tok _,⟨_,rfl⟩,h⟩
def Gl (X:Cx)(x:Str):Prop:=X.env.kindOf x=some .globalImplicit
theorem ld_glob {E:Value->Shared->Prop}{pins:List (Addr×Obj)}{s:Shared}{σ:St}{H:Hp}{x:Str}{u:Value}{pos:Pos}{Q:Value->Shared->Prop}(I:Inv X pins σ H s)(hg:Gl X x)(hm:X.mg x=some u)(h:Q u s)
  (hd:(x==("__debug__" : Str))=false:=by decide):wpAny (model X.prog X.w) X.A (eval (.Name x pos) X.env) Q E s :=
 Calls.Name_function_global I.ok.kind hg (Calls.loadGlobal_global (by rw[I.ok.glob];exact I.mod.glob.keeps I.bk) hm h) hd
theorem ld_blt {E:Value->Shared->Prop}{pins:List (Addr×Obj)}{s:Shared}{σ:St}{H:Hp}{x:Str}{u:Value}{pos:Pos}{Q:Value->Shared->Prop}(I:Inv X pins σ H s)(hg:Gl X x)(hm:X.mg x=none)(hv:bootBuiltins x=some u)(h:Q u s)
  (hn:x≠"__name__":=by decide) (hd:(x==("__debug__" : Str))=false:=by decide):wpAny (model X.prog X.w) X.A (eval (.Name x pos) X.env) Q E s:=by
 obtain⟨mb,h1,h2⟩:=I.mod.blt;exact Calls.Name_function_global I.ok.kind hg (Calls.loadGlobal_builtin (by rw[I.ok.glob];exact I.mod.glob.keeps I.bk) hm (by rw[I.ok.blt];exact h1.keeps I.bk) ((h2 x hn).trans hv) h) hd
theorem pe_glob {x:Str}{v:V}{u:Value}{pos:Pos}(hg:Gl X x)(hm:X.mg x=some u)(r:RelV v u)(hd:(x==("__debug__" : Str))=false:=by decide):PE X (.Name x pos) (tC v) :=
 fun _ _ _ H _ I h=>ld_glob I hg hm ⟨v,H,I,r,h⟩ hd
theorem pe_bltn {x:Str}{v:V}{u:Value}{pos:Pos}(hg:Gl X x)(hm:X.mg x=none)(hv:bootBuiltins x=some u)(r:RelV v u)(hn:x≠"__name__":=by decide)(hd:(x==("__debug__" : Str))=false:=by decide):PE X (.Name x pos) (tC v) :=
 fun _ _ _ H _ I h=>ld_blt I hg hm hv ⟨v,H,I,r,h⟩ hn hd
variable {a b:Expr}{ta tb:TE}{pos:Pos}
variable {tA tB':TT}{rest:List Expr}
def tAnd (t u:TT):TT:=fun σ H Q=>t σ H fun c H1=>if c=true then u σ H1 Q else Q false H1
def tOr (t u:TT):TT:=fun σ H Q=>t σ H fun c H1=>if c=true then Q true H1 else u σ H1 Q
def tNot (t:TT):TT:=fun σ H Q=>t σ H fun c H1=>Q (!c) H1
theorem pw_and1 (ha:PT X a tA):PW X (.BoolOp .And [a] pos) tA:=by
 intro wh pins s σ H Q I h;refine isTrue_and (thn (ha pins s σ H Q I h) fun c s1 e=>?_);cases c with
 | true=>exact isTrue_and_nil e
 | false=>exact e
theorem pw_or1 (ha:PT X a tA):PW X (.BoolOp .Or [a] pos) tA:=by
 intro wh pins s σ H Q I h;refine isTrue_or (thn (ha pins s σ H Q I h) fun c s1 e=>?_);cases c with
 | false=>exact isTrue_or_nil e
 | true=>exact e
theorem pw_and (ha:PT X a tA)(hb:PW X (.BoolOp .And (b::rest) pos) tB'):PW X (.BoolOp .And (a::b::rest) pos) (tAnd tA tB'):=by
 intro wh pins s σ H Q I h;refine isTrue_and (thn (ha pins s σ H _ I h) fun c s1 ⟨H1,I1,q1⟩=>?_);cases c with
 | true=>exact hb wh pins s1 σ H1 Q I1 q1
 | false=>exact⟨H1,I1,q1⟩
theorem pw_or (ha:PT X a tA)(hb:PW X (.BoolOp .Or (b::rest) pos) tB'):PW X (.BoolOp .Or (a::b::rest) pos) (tOr tA tB'):=by
 intro wh pins s σ H Q I h;refine isTrue_or (thn (ha pins s σ H _ I h) fun c s1 ⟨H1,I1,q1⟩=>?_);cases c with
 | true=>exact⟨H1,I1,q1⟩
 | false=>exact hb wh pins s1 σ H1 Q I1 q1
theorem pt_not (ha:PT X a tA):PT X (.UnaryOp .Not a pos) (tNot tA):=by
 intro pins s σ H Q I h;exact isTrue_not (ha pins s σ H (fun c H1=>Q (!c) H1) I h)
def tAndV (ta tb:TE):TE:=fun σ H Q=>ta σ H fun x H1=>∃ c,x=.bl c/\if c=true then tb σ H1 Q else Q (.bl false) H1
def tOrV (ta tb:TE):TE:=fun σ H Q=>ta σ H fun x H1=>∃ c,x=.bl c/\if c=true then Q (.bl true) H1 else tb σ H1 Q
def tNotV (ta:TE):TE:=fun σ H Q=>ta σ H fun x H1=>∃ c,x=.bl c/\Q (.bl (!c)) H1
theorem pe_one {op}{t:TE}(h:PE X a t):PE X (.BoolOp op [a] pos) t:=fun pins s σ H Q I hw=>BoolOp_one (h pins s σ H Q I hw)
theorem pe_and (ha:PE X a ta)(hb:PE X (.BoolOp .And (b::rest) pos) tb):PE X (.BoolOp .And (a::b::rest) pos) (tAndV ta tb):=by
 intro pins s σ H Q I h;refine BoolOp_and (thn (ha pins s σ H _ I h) fun v s1 ⟨x,H1,I1,r1,q1⟩=>?_);obtain⟨c,rfl,q1⟩:=q1;cases r1;refine wpAny_truthy_bool ?_;cases c with
 | true=>exact hb pins s1 σ H1 Q I1 q1
 | false=>exact⟨.bl false,H1,I1,rfl,q1⟩
theorem pe_or (ha:PE X a ta)(hb:PE X (.BoolOp .Or (b::rest) pos) tb):PE X (.BoolOp .Or (a::b::rest) pos) (tOrV ta tb):=by
 intro pins s σ H Q I h;refine BoolOp_or (thn (ha pins s σ H _ I h) fun v s1 ⟨x,H1,I1,r1,q1⟩=>?_);obtain⟨c,rfl,q1⟩:=q1;cases r1;refine wpAny_truthy_bool ?_;cases c with
 | false=>exact hb pins s1 σ H1 Q I1 q1
 | true=>exact⟨.bl true,H1,I1,rfl,q1⟩
theorem pe_not (ha:PE X a ta):PE X (.UnaryOp .Not a pos) (tNotV ta):=by
 intro pins s σ H Q I h;refine UnaryOp_ (thn (ha pins s σ H _ I h) fun v s1 ⟨x,H1,I1,r1,q1⟩=>?_);obtain⟨c,rfl,q1⟩:=q1;cases r1;exact not_of (wpAny_truthy_bool ⟨.bl (!c),H1,I1,rfl,q1⟩)
def tIf (t:TT)(ta tb:TE):TE:=fun σ H Q=>t σ H fun c H1=>if c=true then ta σ H1 Q else tb σ H1 Q
theorem pe_ifExp {c:Expr}(hc:PT X c tA)(ha:PE X a ta)(hb:PE X b tb):PE X (.IfExp c a b pos) (tIf tA ta tb):=by
 intro pins s σ H Q I h;refine wpAny_IfExp (thn (hc pins s σ H _ I h) fun d s1 ⟨H1,I1,q1⟩=>?_);cases d with
 | true=>exact ha pins s1 σ H1 Q I1 q1
 | false=>exact hb pins s1 σ H1 Q I1 q1
end
end L2
namespace L2
open PySem PySem.Spec PyProof.Rows
def SqL (K:PySem.W.Frag)(H:Hp)(a:Addr)(xs:List V):Prop :=
 Rd H a (.lst xs) \/
  ∃ (o:Obj) (its:Array Value) (n:Nat),K.lookup a=some o/\o.cls=.type "list"/\o.dict=none/\o.data=.seq its n/\its.size<=zj/\Vals xs its.toList
def SqT (K:PySem.W.Frag)(H:Hp)(a:Addr)(xs:List V):Prop :=
 Rd H a (.tup xs) \/
  ∃ (o:Obj) (its:Array Value) (n:Nat),K.lookup a=some o/\o.cls=.type "tuple"/\o.data=.seq its n/\its.size<=zj/\Vals xs its.toList/\o.dict=none/\o.slots = #[]
def absV:Value->Option V
 | .none=>some .non
 | .bool b=>some (.bl b)
 | .int i _=>some (.int i)
 | .str x _=>some (.str x)
 | .bytes b _=>some (.byt b)
 | .float b _=>some (.flt b)
 | .ref a=>some (.ref a)
 | .type n=>some (.ty n)
 | _=>none
theorem RelV.abs {x:V}{u:Value}(r:RelV x u):absV u=some x:=by
 cases x with
 | non=>cases r;rfl
 | bl _=>cases r;rfl
 | int _=>obtain⟨t,rfl⟩:=r;rfl
 | str _=>obtain⟨t,rfl⟩:=r;rfl
 | byt _=>obtain⟨t,rfl⟩:=r;rfl
 | flt _=>obtain⟨t,rfl⟩:=r;rfl
 | ref _=>cases r;rfl
 | ty _=>cases r;rfl
theorem RelV.inj {x y:V}{u:Value}(r:RelV x u)(q:RelV y u):x=y:=Option.some.inj (r.abs.symm.trans q.abs)
theorem Vals.inj:∀ {xs ys:List V} {us:List Value},Vals xs us->Vals ys us->xs=ys
 | _,_,_,.nil,.nil=>rfl
 | _,_,_,.cons r t,.cons r' t'=>by rw[r.inj r',Vals.inj t t']
section
variable {X:Cx}{pins:List (Addr×Obj)}{σ:St}{H:Hp}{s:Shared}{a:Addr}{xs ys:List V}
theorem SqL.of {K:PySem.W.Frag}(h:H a=some (.lst xs)):SqL K H a xs:=.inl (.inl h)
theorem Inv.list (I:Inv X pins σ H s)(h:SqL X.K H a xs):∃ its:List Value,Vals xs its/\PlainL s.heap a its.toArray/\xs.length<=zj:=by
 rcases h with h | ⟨o,its,n,hk,hc,hd,hs,hz,r⟩
 ·obtain⟨z,its,n,r,e⟩:=h.ok I.hok
  exact⟨its,r,⟨_,n,e,rfl,rfl,rfl⟩,z⟩
 ·refine⟨its.toList,r,⟨o,n,I.kIn a o hk,hc,hd,by simpa using hs⟩,?_⟩
  have e:=r.length;simp only[zT]at e;first | lia | omega
theorem Inv.tuple (I:Inv X pins σ H s)(h:SqT X.K H a xs):∃ its:List Value,Vals xs its/\IsTup s.heap a its.toArray/\xs.length<=zj:=by
 rcases h with h | ⟨o,its,n,hk,hc,hs,hz,r,_⟩
 ·obtain⟨z,its,r,p,_⟩:=h.ok I.hok
  exact⟨its,r,p,z⟩
 ·refine⟨its.toList,r,⟨o,I.kIn a o hk,hc,n,by simpa using hs⟩,?_⟩
  have e:=r.length;simp only[zT]at e;first | lia | omega
theorem Inv.tupNoDict (I:Inv X pins σ H s)(h:SqT X.K H a xs):∃ o,s.heap.get? a=some o/\o.dict=none/\o.slots = #[]:=by
 rcases h with h | ⟨o,its,n,hk,hc,hs,hz,r,hd⟩
 ·obtain⟨z,its,r,⟨o,e,_⟩,d⟩:=h.ok I.hok
  exact⟨o,e,d o e⟩
 ·exact⟨o,I.kIn a o hk,hd⟩
theorem Inv.list_inj (I:Inv X pins σ H s)(h:SqL X.K H a xs)(h':SqL X.K H a ys):xs=ys:=by
 obtain⟨its,r,⟨o,n,e,_,_,d⟩,_⟩:=I.list h;obtain⟨its',r',⟨o',n',e',_,_,d'⟩,_⟩:=I.list h';rw[e]at e';cases e';rw[d]at d';injection d' with d1 _
 have:its=its':=by simpa using congrArg vg d1
 subst this;exact r.inj r'
theorem Inv.tuple_inj (I:Inv X pins σ H s)(h:SqT X.K H a xs)(h':SqT X.K H a ys):xs=ys:=by
 obtain⟨its,r,⟨o,e,_,n,d⟩,_⟩:=I.tuple h;obtain⟨its',r',⟨o',e',_,n',d'⟩,_⟩:=I.tuple h';rw[e]at e';cases e';rw[d]at d';injection d' with d1 _
 have:its=its':=by simpa using congrArg vg d1
 subst this;exact r.inj r'
end
abbrev Cx.wish (X:Cx)(E:Value->Shared->Prop):Cx:={ X with xe:=E }
abbrev Cx.nox (X:Cx):Cx:=X.wish fun _ _=>False
theorem Cx.Ok.wish {X:Cx}(ok:X.Ok)(E:Value->Shared->Prop):(X.wish E).Ok :=
 ⟨ok.mod,ok.kind,ok.glob,ok.blt,ok.above,ok.inj,ok.has,ok.cab,ok.hd,ok.frames,ok.stk,ok.exf,ok.bs,ok.bsz,ok.noex,ok.exfs,ok.funs,ok.frf⟩
theorem Cx.Ok.unwish {X:Cx}{E:Value->Shared->Prop}(ok:(X.wish E).Ok):X.Ok :=
 ⟨ok.mod,ok.kind,ok.glob,ok.blt,ok.above,ok.inj,ok.has,ok.cab,ok.hd,ok.frames,ok.stk,ok.exf,ok.bs,ok.bsz,ok.noex,ok.exfs,ok.funs,ok.frf⟩
section
variable {X:Cx}{pins:List (Addr×Obj)}{σ:St}{H:Hp}{s:Shared}{E:Value->Shared->Prop}
theorem Inv.wish (I:Inv X pins σ H s)(E:Value->Shared->Prop):Inv (X.wish E) pins σ H s:=⟨I.ok.wish E,I.os,I.bare,I.base,I.loc,I.cell,I.free,I.freeC,I.pin,I.hok,I.len⟩
theorem Inv.unwish (I:Inv (X.wish E) pins σ H s):Inv X pins σ H s:=⟨I.ok.unwish,I.os,I.bare,I.base,I.loc,I.cell,I.free,I.freeC,I.pin,I.hok,I.len⟩
theorem SP.unwish {D:Ends}{f:Flow}{s':Shared}(h:SP (X.wish E) pins D f s'):SP X pins D f s':=by
 cases f with
 | next=>obtain⟨σ',H',I,q⟩:=h;exact⟨σ',H',I.unwish,q⟩
 | brk=>obtain⟨σ',H',I,q⟩:=h;exact⟨σ',H',I.unwish,q⟩
 | cont=>obtain⟨σ',H',I,q⟩:=h;exact⟨σ',H',I.unwish,q⟩
 | ret u=>obtain⟨v,σ',H',I,r,q⟩:=h;exact⟨v,σ',H',I.unwish,r,q⟩
theorem PSs.nox {st:List Stmt}{t:TS}(h:PSs X.nox st t):PSs X st t:=fun pins s σ H D I hw =>
 wpAny_mono (h pins s σ H D (I.wish _) hw) (fun _ _ q=>q.unwish) fun _ _ z=>False.elim z
end
section
variable {X:Cx}{st:Stmt}{rest:List Stmt}{t u:TS}{e:Expr}{te:TE}{pos:Pos}
def tNext:TS:=fun D σ H=>D.nx σ H
def tSeq (t u:TS):TS:=fun D σ H=>t { D with nx:=u D } σ H
theorem pss_nil:PSs X [] tNext:=fun _ _ σ H _ I h=>wpAny_execs_nil ⟨σ,H,I,h⟩
theorem pss_cons (h1:PS X st t)(h2:PSs X rest u):PSs X (st::rest) (tSeq t u):=by
 intro pins s σ H D I h;refine wpAny_execs_cons (thn (h1 pins s σ H { D with nx:=u D } I h) fun f s1 q=>?_);cases f with
 | next =>
  obtain⟨σ',H',I',q⟩:=q;exact h2 pins s1 σ' H' D I' q
 | ret v=>exact q
 | brk=>exact q
 | cont=>exact q
def tBreak:TS:=fun D σ H=>D.bk σ H
def tCont:TS:=fun D σ H=>D.ct σ H
theorem ps_pass:PS X (.Pass pos) tNext:=fun _ _ σ H _ I h=>wpAny_Pass ⟨σ,H,I,h⟩
theorem ps_break:PS X (.Break pos) tBreak:=fun _ _ σ H _ I h=>wpAny_Break ⟨σ,H,I,h⟩
theorem ps_continue:PS X (.Continue pos) tCont:=fun _ _ σ H _ I h=>wpAny_Continue ⟨σ,H,I,h⟩
theorem Inv.quiet {pins:List (Addr×Obj)}{σ:St}{H:Hp}{s:Shared}(I:Inv X pins σ H s):interactive X.env=false:=by simp[interactive,I.ok.kind]
def tDrop (te:TE):TS:=fun D σ H=>te σ H fun _ H1=>D.nx σ H1
theorem ps_expr (he:PE X e te)(hs:swapsWith e none pos.line X.env=pure false:=by rfl):PS X (.Expr e pos) (tDrop te):=by
 intro pins s σ H D I h;exact wpAny_Expr_any (thn (he pins s σ H _ I h) fun v s1 ⟨x,H1,I1,r1,q1⟩=>⟨σ,H1,I1,q1⟩) I.quiet hs
def tRet (te:TE):TS:=fun D σ H=>te σ H D.rt
theorem ps_ret (he:PE X e te):PS X (.Return (some e) pos) (tRet te):=by
 intro pins s σ H D I h;exact wpAny_Return_some (thn (he pins s σ H _ I h) fun v s1 ⟨x,H1,I1,r1,q1⟩=>⟨x,σ,H1,I1,r1,q1⟩)
def tRetN:TS:=fun D _ H=>D.rt .non H
theorem ps_retN:PS X (.Return none pos) tRetN:=fun _ _ σ H _ I h=>wpAny_Return_none ⟨.non,σ,H,I,rfl,h⟩
def tIfS (c:TT)(t u:TS):TS:=fun D σ H=>c σ H fun b H1=>if b=true then t D σ H1 else u D σ H1
theorem ps_if {c:Expr}{a b:List Stmt}{tc:TT}(hc:PT X c tc)(ha:PSs X a t)(hb:PSs X b u):PS X (.If c a b pos) (tIfS tc t u):=by
 intro pins s σ H D I h;refine wpAny_If (thn (hc pins s σ H _ I h) fun d s1 ⟨H1,I1,q1⟩=>?_);cases d with
 | true=>exact ha pins s1 σ H1 D I1 q1
 | false=>exact hb pins s1 σ H1 D I1 q1
end
abbrev TG:=V->St->Hp->(St->Hp->Prop)->Prop
abbrev TGs:=List V->St->Hp->(St->Hp->Prop)->Prop
def PG (X:Cx)(target:Expr)(t:TG):Prop :=
 ∀ (pins:List (Addr×Obj)) (s:Shared) (σ:St) (H:Hp) (v:V) (u:Value) (Q:St->Hp->Prop),Inv X pins σ H s->RelV v u->t v σ H Q ->
  wpAny (model X.prog X.w) X.A (assign target X.env u) (fun _ s'=>∃ σ' H',Inv X pins σ' H' s'/\Q σ' H') X.xe s
def PGs (X:Cx)(ts:List Expr)(t:TGs):Prop :=
 ∀ (pins:List (Addr×Obj)) (s:Shared) (σ:St) (H:Hp) (vs:List V) (us:List Value) (Q:St->Hp->Prop),Inv X pins σ H s->Vals vs us->t vs σ H Q ->
  wpAny (model X.prog X.w) X.A (assignInOrder ((assignEach ts X.env).map (·.2)) us) (fun _ s'=>∃ σ' H',Inv X pins σ' H' s'/\Q σ' H') X.xe s
abbrev TSet:=V->V->V->Hp->(Hp->Prop)->Prop
def PSet (X:Cx)(t:TSet):Prop :=
 ∀ (pins:List (Addr×Obj)) (s:Shared) (σ:St) (H:Hp) (o i v:V) (ov iv u:Value) (Q:Hp->Prop),Inv X pins σ H s->RelV o ov->RelV i iv->RelV v u->t o i v H Q ->
  wpAny (model X.prog X.w) X.A (setItem ov iv u) (fun _ s'=>∃ H',Inv X pins σ H' s'/\Q H') X.xe s
section
variable {X:Cx}{pos:Pos}
def gName (i:Nat):TG:=fun v σ H Q=>Q (σ.set i (some v)) H
theorem pg_name {i:Nat}{x:Str}(hN:X.N.Nodup)(hi:X.N[i]?=some x)(hx:Loc X.env.scope x)(hf:X.fn x=true\/X.env.scope.names.lookup x=some .local:=by first | exact .inl rfl | exact .inr rfl | assumption):PG X (.Name x pos) (gName i):=by
 intro pins s σ H v u Q I r h;exact wpAny_assign_Name (store_ok I hN hi hx r (fun s' I'=>⟨_,H,I',h⟩) hf)
def gNil:TGs:=fun vs σ H Q=>vs=[]/\Q σ H
def gCons (t:TG)(u:TGs):TGs:=fun vs σ H Q=>∃ v r,vs=v::r/\t v σ H fun σ' H'=>u r σ' H' Q
theorem pgs_nil:PGs X [] gNil:=by
 intro pins s σ H vs us Q I r h;obtain⟨e,h⟩:=h;subst e;cases r;exact assignInOrder_nil ⟨σ,H,I,h⟩
theorem pgs_cons {e:Expr}{es:List Expr}{t:TG}{u:TGs}(h1:PG X e t)(h2:PGs X es u)
  (hs:(assignEach (e::es) X.env).map (·.2)=assign e X.env::(assignEach es X.env).map (·.2):=by rfl):PGs X (e::es) (gCons t u):=by
 intro pins s σ H vs us Q I r h;obtain⟨v,vr,e1,h⟩:=h;subst e1;cases r with
 | cons r rr =>
  rw[hs];refine assignInOrder_cons (thn (h1 pins s σ H _ _ _ I r h) fun _ s1 ⟨σ1,H1,I1,q1⟩=>?_);exact h2 pins s1 σ1 H1 _ _ Q I1 rr q1
def gTup (K:PySem.W.Frag)(n:Nat)(t:TGs):TG:=fun v σ H Q=>∃ a xs,v=.ref a/\SqT K H a xs/\xs.length=n/\t xs σ H Q
theorem pg_tup {es:List Expr}{k:Nat}{t:TGs}{n:Nat}(hc:X.calm=true)(h:PGs X es t)
  (hn:(assignEach es X.env).length=n:=by rfl) (hst:(assignEach es X.env).findIdx? (·.1)=none:=by rfl):PG X (.Tuple es k pos) (gTup X.K n t):=by
 intro pins s σ H v u Q I r hw;obtain⟨a,xs,e1,hq,hl,hw⟩:=hw;subst e1;cases r;obtain⟨its,rv,ht,hz⟩:=I.tuple hq;refine assign_Tuple_tuple (I.ok.hd hc) ht (by simp[hn,<- hl,rv.length]) hst fun h' hx=>?_;have I1:Inv X pins σ H { s with heap:=h' }:=I.kept (t':=s.toks) fun b o e=>hx b o (za (zf e)) e;exact h pins _ σ H xs _ Q I1 (by simpa using rv) hw
def gSub (to ti:TE)(t:TSet):TG:=fun v σ H Q=>to σ H fun o H1=>ti σ H1 fun i H2=>t o i v H2 fun H3=>Q σ H3
theorem pg_sub {o i:Expr}{to ti:TE}{t:TSet}(ho:PE X o to)(hi:PE X i ti)(hs:PSet X t)
  (ha:∀ v,assign (.Subscript o i pos) X.env v=(do
   let ov <- holding [v] (eval o X.env)
   let iv <- holding [v,ov] (eval i X.env)
   standAt pos
   holding [v,ov,iv] (setItem ov iv v)
   release [v,ov,iv] []):=by intro _;rfl):PG X (.Subscript o i pos) (gSub to ti t):=by
 intro pins s σ H v u Q I r h;rw[ha];refine zy (wpAny_holding (thn (ho pins s σ H _ I h) fun ov s1 ⟨x,H1,I1,r1,q1⟩=>?_));refine zy (wpAny_holding (thn (hi pins s1 σ H1 _ I1 q1) fun iv s2 ⟨y,H2,I2,r2,q2⟩=>?_));refine zy (wpAny_standAt (zy (wpAny_holding (thn (hs pins s2 σ H2 x y v ov iv u _ I2 r1 r2 r q2) fun _ s3 ⟨H3,I3,q3⟩=>?_))));exact wpAny_release ⟨σ,H3,I3,q3⟩
def tAsg (te:TE)(g:TG):TS:=fun D σ H=>te σ H fun x H1=>g x σ H1 D.nx
theorem ps_asg {tg e:Expr}{te:TE}{g:TG}(he:PE X e te)(hg:PG X tg g)(hs:swapsWithSole [tg] e pos.line X.env=pure false:=by rfl)(hw:swappedStores [tg] e X.env=pure none:=by rfl)
  (h1:(assignEach [tg] X.env).map (·.2)=[assign tg X.env]:=by rfl):PS X (.Assign [tg] e pos) (tAsg te g):=by
 intro pins s σ H D I h;refine wpAny_Assign_stores (thn (he pins s σ H _ I h) fun v s1 ⟨x,H1,I1,r1,q1⟩=>?_) hs hw;rw[h1];exact thn (hg pins s1 σ H1 x v _ I1 r1 q1) fun _ s2 q=>q
theorem ps_set {i:Nat}{x:Str}{e:Expr}{te:TE}{pos':Pos}(hN:X.N.Nodup)(hi:X.N[i]?=some x)(hx:Loc X.env.scope x)(he:PE X e te)(hs:swapsWith e (some (.Name x pos')) pos.line X.env=pure false:=by rfl)(hf:X.fn x=true\/X.env.scope.names.lookup x=some .local:=by first | exact .inl rfl | exact .inr rfl | assumption) :
  PS X (.Assign [.Name x pos'] e pos) (tAsg te (gName i)):=by
 intro pins s σ H D I h;refine wpAny_Assign_Name (thn (he pins s σ H _ I h) fun v s1 ⟨y,H1,I1,r1,q1⟩=>?_) hs;exact store_ok I1 hN hi hx r1 (fun s2 I2=>⟨_,H1,I2,q1⟩) hf
end
section
variable {X:Cx}{pos:Pos}
end
structure It where
 go:Nat->Hp->Prop
 yld:Nat->Hp->V->Hp->Prop
 stop:Nat->Hp->Prop
def FpOk (X:Cx)(pins:List (Addr×Obj))(H:Hp)(b:Addr):Prop :=
 H b=none/\b≠X.env.locals/\b ∉ X.fs/\(b∈X.ex\/X.s₀.heap.objs.size<=b)/\(∀ x c,X.env.cells.lookup x=some c->c≠b)/\∀ p∈X.pn++pins,p.1≠b
theorem Inv.fpOk {X:Cx}{pins:List (Addr×Obj)}{σ:St}{H H':Hp}{s:Shared}{b:Addr}(I:Inv X pins σ H s)(hb:s.heap.objs.size<=b)(hn:H' b=none):FpOk X pins H' b:=by
 refine⟨hn,yT (zB I.lt hb),I.nofs hb,.inr (zK I.sz hb),fun x c e z=>?_,fun p hp z=>?_⟩
 ·obtain⟨v,q⟩:=I.cell x c e
  exact absurd (zB q.lt (by rw[z];exact hb)) (yk _)
 ·exact absurd (zB (zf (I.pin p hp).1) (by rw[z];exact hb)) (yk _)
structure Turn (P:Program) (w:World) (K:PySem.W.Frag) (tg:Expr) (J:It) (fp:List Addr) (it:Addr) (tn:Nat->Heap->Prop):Prop where
 mem:it∈fp
 obj:∀ i h,tn i h->∀ b∈fp,∃ o,h.get? b=some o/\∀ v,o.data≠.cell v
 keep:∀ i h h',tn i h->(∀ b∈fp,∀ o,h.get? b=some o->h'.get? b=some o)->tn i h'
 item:∀ (X:Cx),X.prog=P->X.w=w->X.K=K->X.calm=true->∀ (i:Nat) (pins:List (Addr×Obj)) (s:Shared) (σ:St) (H:Hp) (E:Value->Shared->Prop),Inv X pins σ H s->(∀ b∈fp,FpOk X pins H b)->tn i s.heap->J.go i H ->
  wpAny (model P w) X.A (pyNext (.ref it)) (fun r s1=>∃ u,r=some u /\
   wpAny (model P w) X.A (letOwnedTupleGo tg (.ref it) u) (fun _ s2=>∃ x H',Inv X pins σ H' s2/\RelV x u/\J.yld i H x H'/\tn (i + 1) s2.heap/\∀ b∈fp,H' b=none) E s1) E s
 done:∀ (X:Cx),X.prog=P->X.w=w->X.K=K->X.calm=true->∀ (i:Nat) (pins:List (Addr×Obj)) (s:Shared) (σ:St) (H:Hp) (E:Value->Shared->Prop),Inv X pins σ H s->(∀ b∈fp,FpOk X pins H b)->tn i s.heap->J.stop i H ->
  wpAny (model P w) X.A (pyNext (.ref it)) (fun r s1=>r=none/\Inv X pins σ H s1) E s
 self:∀ (A:Around) (i:Nat) (s:Shared) (Q:Value->Shared->Prop) (E:Value->Shared->Prop),tn i s.heap->Q (.ref it) s->wpAny (model P w) A (pyIter (.ref it)) Q E s
abbrev TI:=St->Hp->(It->Hp->Prop)->Prop
def PIE (X:Cx)(pins:List (Addr×Obj))(σ:St)(tg:Expr)(R:It->Hp->Prop)(itv:Value)(s2:Shared):Prop :=
 ∃ (it:Addr) (fp:List Addr) (tn:Nat->Heap->Prop) (J:It) (H':Hp),itv=.ref it/\Inv X pins σ H' s2/\Turn X.prog X.w X.K tg J fp it tn/\tn 0 s2.heap/\(∀ b∈fp,FpOk X pins H' b)/\R J H'
def PI (X:Cx)(tg iter:Expr)(wi:TI):Prop :=
 ∀ (pins:List (Addr×Obj)) (s:Shared) (σ:St) (H:Hp) (R:It->Hp->Prop),Inv X pins σ H s->wi σ H R ->
  wpAny (model X.prog X.w) X.A (eval iter X.env) (fun v s1=>wpAny (model X.prog X.w) X.A (pyIter v) (PIE X pins σ tg R) X.xe s1) X.xe s
theorem go_of {M:Model}{A:Around}{E:Value->Shared->Prop}{s:Shared}{tg:Expr}{it:Addr}{u:Value}{o:Obj}{n:String}{vs:Array Value}{Q:Unit->Shared->Prop}(ho:s.heap.get? it=some o)(hc:o.cls=.type n)(hd:o.data=.fields vs)
  (hn:["enumerate","zip","dict_itemiterator","dict_reverseitemiterator","odict_iterator","itertools.zip_longest","itertools.pairwise"].contains n=false) (hQ:Q () s):wpAny M A (letOwnedTupleGo tg (.ref it) u) Q E s:=by
 unfold letOwnedTupleGo;cases tg <;> first
  | exact zq hQ
  | (cases u <;> first
    | exact zq hQ
    | (refine zy (wpAny_load ho ?_)
       rw[hc,hd];show wpAny M A (if (["enumerate","zip","dict_itemiterator","dict_reverseitemiterator","odict_iterator","itertools.zip_longest","itertools.pairwise"].contains n&&vs[0]?==some (rawInt _))=true then _ else _) Q E s;rw[if_neg (by intro h;rw[hn,xY]at h;cases h)];exact zq hQ))
def Itl (K:PySem.W.Frag)(a:Addr):It :=
 ⟨fun i H=>∃ xs x,SqL K H a xs/\xs[i]?=some x,fun i H x H'=>H'=H/\∀ xs,SqL K H a xs->xs[i]?=some x,fun i H=>∃ xs,SqL K H a xs/\xs.length<=i⟩
def Itt (K:PySem.W.Frag)(a:Addr):It :=
 ⟨fun i H=>∃ xs x,SqT K H a xs/\xs[i]?=some x,fun i H x H'=>H'=H/\∀ xs,SqT K H a xs->xs[i]?=some x,fun i H=>∃ xs,SqT K H a xs/\xs.length<=i⟩
def Itr (lo:Int)(n:Nat):It:=⟨fun i _=>i < n,fun i H x H'=>H'=H/\x=.int (lo + i),fun i _=>n<=i⟩
theorem turn_list {P:Program}{w:World}{K:PySem.W.Frag}{tg:Expr}(a it:Addr):Turn P w K tg (Itl K a) [it] it (fun i h=>h.IsListIter it a i) where
 mem:=by simp
 obj:=fun i h st b hb=>by
  have e:b=it:=by simpa using hb
  subst e;obtain⟨o,e,c,d⟩:=st;exact⟨o,e,fun v z=>by rw[d]at z;cases z⟩
 keep:=fun i h h' st k=>st.at fun o e=>k it (by simp) o e
 item:=by
  intro X hP hw hK hc i pins s σ H E I hf st hg;subst hP hw hK;obtain⟨xs,x,hq,hx⟩:=hg;obtain⟨its,rv,p,hz⟩:=I.list hq;obtain⟨u,hu,ru⟩:=rv.get hx;obtain⟨f0,f1,f2,f3,f4,f5⟩:=hf it (by simp);refine wpAny_pyNext_list_item st p.isList (x:=u) (by simpa using hu) fun h' st' sb=>?_;have I1:Inv X pins σ H { s with heap:=h' }:=I.turned (t':=s.toks) (fun b o hb e=>(sb.2 b hb).trans e) f0 f1 f3 f4 f5;obtain⟨o,e,c,d⟩:=id st';exact⟨u,rfl,go_of (s:={ s with heap:=h' }) e c d (by decide) ⟨x,H,I1,ru,⟨rfl,fun ys hy=>by rw[I.list_inj hy hq];exact hx⟩,st',fun b hb=>(hf b hb).1⟩⟩
 done:=by
  intro X hP hw hK hc i pins s σ H E I hf st hg;subst hP hw hK;obtain⟨xs,hq,hx⟩:=hg;obtain⟨its,rv,p,hz⟩:=I.list hq;obtain⟨f0,f1,f2,f3,f4,f5⟩:=hf it (by simp);have hl:=rv.length;exact wpAny_pyNext_list_end (I.ok.hd hc) st p.isList (by simp;omega) fun h' eb=>⟨rfl,I.turned (t':=s.toks) (fun b o hb e=>eb b o hb e) f0 f1 f3 f4 f5⟩
 self:=fun _ _ _ _ _ st h=>wpAny_pyIter_listiter st h
theorem turn_tuple {P:Program}{w:World}{K:PySem.W.Frag}{tg:Expr}(a it:Addr):Turn P w K tg (Itt K a) [it] it (fun i h=>h.IsTupleIter it a i) where
 mem:=by simp
 obj:=fun i h st b hb=>by
  have e:b=it:=by simpa using hb
  subst e;obtain⟨o,e,c,d⟩:=st;exact⟨o,e,fun v z=>by rw[d]at z;cases z⟩
 keep:=fun i h h' st k=>st.at fun o e=>k it (by simp) o e
 item:=by
  intro X hP hw hK hc i pins s σ H E I hf st hg;subst hP hw hK;obtain⟨xs,x,hq,hx⟩:=hg;obtain⟨its,rv,p,hz⟩:=I.tuple hq;obtain⟨u,hu,ru⟩:=rv.get hx;obtain⟨f0,f1,f2,f3,f4,f5⟩:=hf it (by simp);refine wpAny_pyNext_tuple_item st (show s.heap.IsTuple a its.toArray from p) (x:=u) (by simpa using hu) fun h' st' sb=>?_;have I1:Inv X pins σ H { s with heap:=h' }:=I.turned (t':=s.toks) (fun b o hb e=>(sb.2 b hb).trans e) f0 f1 f3 f4 f5;obtain⟨o,e,c,d⟩:=id st';exact⟨u,rfl,go_of (s:={ s with heap:=h' }) e c d (by decide) ⟨x,H,I1,ru,⟨rfl,fun ys hy=>by rw[I.tuple_inj hy hq];exact hx⟩,st',fun b hb=>(hf b hb).1⟩⟩
 done:=by
  intro X hP hw hK hc i pins s σ H E I hf st hg;subst hP hw hK;obtain⟨xs,hq,hx⟩:=hg;obtain⟨its,rv,p,hz⟩:=I.tuple hq;obtain⟨f0,f1,f2,f3,f4,f5⟩:=hf it (by simp);have hl:=rv.length;exact wpAny_pyNext_tuple_end (I.ok.hd hc) st (show s.heap.IsTuple a its.toArray from p) (by simp;omega) fun h' eb=>⟨rfl,I.turned (t':=s.toks) (fun b o hb e=>eb b o hb e) f0 f1 f3 f4 f5⟩
 self:=fun _ _ _ _ _ st h=>wpAny_pyIter_tupleiter st h
theorem turn_range {P:Program}{w:World}{K:PySem.W.Frag}{tg:Expr}(it:Addr)(lo:Int)(n:Nat):Turn P w K tg (Itr lo n) [it] it (fun i h=>IsRangeIter h it (lo + (i:Nat) * 1) ((n:Int) - (i:Nat)) 1) where
 mem:=by simp
 obj:=fun i h st b hb=>by
  have e:b=it:=by simpa using hb
  subst e;exact⟨_,st,fun v z=>by
   have z':Data.fields _=Data.cell v:=z;cases z'⟩
 keep:=fun i h h' st k=>k it (by simp) _ st
 item:=by
  intro X hP hw hK hc i pins s σ H E I hf st hg;subst hP hw hK;obtain⟨f0,f1,f2,f3,f4,f5⟩:=hf it (by simp);have W:=Walks.range (prog:=X.prog) (w:=X.w) (I.ok.hd hc) it lo 1 n;refine W.item i s _ _ hg st fun v h' tk hv st' kk=>?_;obtain⟨t,rfl⟩:=hv;have I1:Inv X pins σ H { s with heap:=h',toks:=tk }:=I.turned (fun b o hb e=>kk b o (by simpa using hb) e) f0 f1 f3 f4 f5;refine⟨_,rfl,go_of (s:={ s with heap:=h',toks:=tk }) (n:="range_iterator") st' rfl rfl (by decide) ⟨.int (lo + i),H,I1,⟨t,?_⟩,⟨rfl,rfl⟩,st',fun b hb=>(hf b hb).1⟩⟩;rw[Int.mul_one]
 done:=by
  intro X hP hw hK hc i pins s σ H E I hf st hg;subst hP hw hK;obtain⟨f0,f1,f2,f3,f4,f5⟩:=hf it (by simp);exact wpAny_pyNext_range_end (I.ok.hd hc) st (by have:n<=i:=hg;omega) fun h' eb=>⟨rfl,I.turned (t':=s.toks) (fun b o hb e=>eb b o hb e) f0 f1 f3 f4 f5⟩
 self:=fun _ _ _ _ _ st h=>wpAny_pyIter_rangeiter st h
end L2
namespace L2
open PySem PySem.Spec PyProof.Rows
section
variable {X:Cx}{tg:Expr}
theorem range_it {pins:List (Addr×Obj)}{σ:St}{H:Hp}{s:Shared}{R:It->Hp->Prop}{E:Value->Shared->Prop}{lo hi:Int}{t u v:Tok}{tk:Nat}(I:Inv X pins σ H s)(h1:-(2 ^ 62)<=lo)(h2:lo < 2 ^ 62)(h3:-(2 ^ 62)<=hi)(h4:hi < 2 ^ 62)
  (q:R (Itr lo (hi - lo).toNat) H):wpAny (model X.prog X.w) X.A (pyIter (.ref s.heap.objs.size)) (PIE X pins σ tg R) E { s with heap:=s.heap.push { cls:=.type "range",data:=.fields #[.int lo t,.int hi u,.int 1 v] },toks:=tk }:=by
 refine wpAny_pyIter_range (IsRange.new ..) (small_one h1 h2 h3 h4) ?_;have I1:Inv X pins σ H { s with heap:=s.heap.push { cls:=.type "range",data:=.fields #[.int lo t,.int hi u,.int 1 v] },toks:=tk }:=I.kept fun b o e=>zo _ e;refine⟨(s.heap.push { cls:=.type "range",data:=.fields #[.int lo t,.int hi u,.int 1 v] }).objs.size,[(s.heap.push { cls:=.type "range",data:=.fields #[.int lo t,.int hi u,.int 1 v] }).objs.size],_,_,H,rfl,
  I1.kept (t':=tk) fun b o e=>zo _ e,turn_range _ lo (hi - lo).toNat,?_,fun b hb=>?_,q⟩
 ·have e1:lo + ((0:Nat):Int) * 1=lo:=by simp
  have e2:(((hi - lo).toNat:Nat):Int) - ((0:Nat):Int)=Builtin.Range.rangeSize lo hi 1:=by rw[rangeSize_one];split <;> omega
  show IsRangeIter _ _ (lo + ((0:Nat):Int) * 1) ((((hi - lo).toNat:Nat):Int) - ((0:Nat):Int)) 1;rw[e1,e2];exact zc _ rfl
 ·have e:b=(s.heap.push { cls:=.type "range",data:=.fields #[.int lo t,.int hi u,.int 1 v] }).objs.size:=by simpa using hb
  subst e;exact I1.fpOk (zr _) (I1.hok.fresh (zr _))
def iRng1 (ta:TA):TI:=fun σ H R=>ta σ H fun vs H1=>∃ j:Int,vs=[.int j]/\-(2 ^ 62)<=j/\j < 2 ^ 62/\R (Itr 0 j.toNat) H1
def iRng2 (ta:TA):TI:=fun σ H R=>ta σ H fun vs H1=>∃ i j:Int,vs=[.int i,.int j]/\(-(2 ^ 62)<=i/\i < 2 ^ 62/\-(2 ^ 62)<=j/\j < 2 ^ 62)/\R (Itr i (j - i).toNat) H1
theorem pi_range1 {a:Expr}{ta:TA}{p pos:Pos}(hg:Gl X "range")(hm:X.mg "range" = none)(ha:PA X [a] ta)(hs:starEach [a] X.env=[(false,eval a X.env)]:=by rfl):PI X tg (.Call (.Name "range" p) [a] [] pos) (iRng1 ta):=by
 intro pins s σ H R I h;refine Call_ (ld_blt I hg hm boot_range (PyProof.Rows.callWith_type1 (thn (ha pos pins s σ H _ I h) fun us s1 ⟨vs,H1,I1,r1,q1⟩=>?_) hs rfl));obtain⟨j,e,q1,q2,q⟩:=q1;subst e;cases r1 with
 | cons r rr =>
  cases rr;obtain⟨t,rfl⟩:=r;exact call_range_1 (range_it I1 (by first | lia | omega) (by first | lia | omega) q1 q2 (by simpa using q))
theorem pi_range2 {a b:Expr}{ta:TA}{p pos:Pos}(hg:Gl X "range")(hm:X.mg "range" = none)(ha:PA X [a,b] ta)(hs:starEach [a,b] X.env=[(false,eval a X.env),(false,eval b X.env)]:=by rfl)(hs2:starEach [b] X.env=[(false,eval b X.env)]:=by rfl) :
  PI X tg (.Call (.Name "range" p) [a,b] [] pos) (iRng2 ta):=by
 intro pins s σ H R I h;refine Call_ (ld_blt I hg hm boot_range (PyProof.Rows.callWith_type1 (thn (ha pos pins s σ H _ I h) fun us s1 ⟨vs,H1,I1,r1,q1⟩=>?_) (by rw[hs,hs2]) (by rw[hs2];rfl)));obtain⟨i,j,e,⟨q1,q2,q3,q4⟩,q⟩:=q1;subst e;cases r1 with
 | cons r rr =>
  cases rr with
  | cons r' rr =>
   cases rr;obtain⟨t,rfl⟩:=r;obtain⟨t',rfl⟩:=r';exact call_range_2 (range_it I1 q1 q2 q3 q4 q)
def tFor (wi:TI)(g:TG)(tb:TS):TS:=fun D σ H=>wi σ H fun J H1=>∃ W:Nat->Nat->St->Hp->Prop,(∃ m,W 0 m σ H1)/\∀ i m σ H,W i m σ H ->
 (J.stop i H/\D.nx σ H)\/(J.go i H/\∃ N:St->Hp->Prop,(∀ σ' H',N σ' H'->∃ m',m' < m/\W (i + 1) m' σ' H')/\∀ x H',J.yld i H x H'->g x σ H' fun σ2 H2=>tb { D with nx:=N,ct:=N,bk:=D.nx } σ2 H2)
def pinsAt (fp:List Addr)(h:Heap):List (Addr×Obj):=fp.filterMap fun b=>(h.get? b).map fun o=>(b,o)
theorem mem_pinsAt {fp:List Addr}{h:Heap}{b:Addr}{o:Obj}(hb:b∈fp)(e:h.get? b=some o):(b,o)∈pinsAt fp h:=we.mpr ⟨b,hb,by rw[e];rfl⟩
theorem of_pinsAt {fp:List Addr}{h:Heap}{p:Addr×Obj}(hp:p∈pinsAt fp h):p.1∈fp/\h.get? p.1=some p.2:=by
 obtain⟨b,hb,e⟩:=we.mp hp;cases q:h.get? b with
 | none=>rw[q]at e;cases e
 | some o =>
  rw[q]at e;have e':(b,o)=p:=Option.some.inj e;subst e';exact⟨hb,q⟩
theorem Inv.pinned {pins:List (Addr×Obj)}{σ:St}{H:Hp}{s:Shared}{fp:List Addr}(I:Inv X pins σ H s)(hf:∀ b∈fp,FpOk X pins H b)(ho:∀ b∈fp,∃ o,s.heap.get? b=some o/\∀ v,o.data≠.cell v):Inv X (pins++pinsAt fp s.heap) σ H s :=
 I.pins_of fun p hp=>(zN.mp hp).elim (fun z=>I.pin p (zP _ z)) fun z=>by
  obtain⟨hb,e⟩:=of_pinsAt z;obtain⟨f0,f1,f2,_⟩:=hf p.1 hb;obtain⟨o,e',d⟩:=ho p.1 hb;rw[e]at e';cases e';exact⟨e,f0,f1,f2,d⟩
theorem Inv.unpinned {pins pl:List (Addr×Obj)}{σ:St}{H:Hp}{s:Shared}(I:Inv X (pins++pl) σ H s):Inv X pins σ H s:=I.pins_of fun p hp=>I.pin p (zP _ (yM _ hp))
theorem ps_for {iter:Expr}{body:List Stmt}{wi:TI}{g:TG}{tb:TS}{pos:Pos}(hp:PassesOwn (model X.prog X.w) X.A X.env X.xe)(hc:X.calm=true)(hi:PI X tg iter wi)(hg:PG X tg g)(hb:PSs X body tb)
  (hs:∀ x,foldedSetIterable iter X.env x=pure x:=by intro _;rfl):PS X (.For tg iter body [] pos) (tFor wi g tb):=by
 intro pins s σ H D I h;refine wpAny_For (thn (hi pins s σ H _ I h) fun v s1 h1=>thn h1 fun itv s2 h2=>?_) hs;obtain⟨it,fp,tn,J,H2,e,I2,T,st2,f2,W,⟨m0,w0⟩,turn⟩:=h2;subst e;have stat:∀ {H':Hp},(∀ b∈fp,H' b=none)->∀ b∈fp,FpOk X pins H' b:=fun hn b hb=>⟨hn b hb,(f2 b hb).2⟩;refine codeAny_forLoop_any (fun n s'=>∃ i σ' H',Inv X pins σ' H' s'/\tn i s'.heap/\(∀ b∈fp,H' b=none)/\W i n σ' H') ?_ m0 ⟨0,σ,H2,I2,st2,fun b hb=>(f2 b hb).1,w0⟩;rintro n s3 ⟨i,σ3,H3,I3,st3,fr3,w3⟩;rcases turn i n σ3 H3 w3 with ⟨stop,qn⟩|⟨go,N,hN,step⟩
 ·refine wpAny_passesOwn hp (thn (T.done X rfl rfl rfl hc i pins s3 σ3 H3 X.xe I3 (stat fr3) st3 stop) fun r s4 ⟨hr,I4⟩=>?_)
  subst hr;exact wpAny_execs_nil ⟨σ3,H3,I4,qn⟩
 ·refine wpAny_passesOwn hp (thn (T.item X rfl rfl rfl hc i pins s3 σ3 H3 X.xe I3 (stat fr3) st3 go) fun r s4 ⟨u,hr,h4⟩=>?_)
  subst hr;refine wpAny_passesOwn hp (thn h4 fun _ s5 ⟨x,H5,I5,r5,y5,st5,fr5⟩=>?_);have I5':=I5.pinned (stat fr5) (T.obj _ _ st5);refine wpAny_passesOwn hp (thn (hg _ s5 σ3 H5 x u _ I5' r5 (step x H5 y5)) fun _ s6 ⟨σ6,H6,I6,q6⟩=>?_);refine wpAny_passesOwn hp (thn (hb _ s6 σ6 H6 _ I6 q6) fun f s7 q7=>?_);have again:∀ {σ7:St} {H7:Hp},Inv X (pins++pinsAt fp s5.heap) σ7 H7 s7->N σ7 H7->∃ m,m < n/\∃ i σ' H',Inv X pins σ' H' s7/\tn i s7.heap/\(∀ b∈fp,H' b=none)/\W i m σ' H':=fun {σ7 H7} I7 n7=>by
   obtain⟨m',hm,w7⟩:=hN σ7 H7 n7;refine⟨m',hm,i + 1,σ7,H7,I7.unpinned,T.keep _ _ _ st5 fun b hb o e=>(I7.pin (b,o) (zP _ (zP _ (mem_pinsAt hb e)))).1,fun b hb=>?_,w7⟩;obtain⟨o,e,d⟩:=T.obj _ _ st5 b hb;exact(I7.pin (b,o) (zP _ (zP _ (mem_pinsAt hb e)))).2.1
  cases f with
  | next=>obtain⟨σ7,H7,I7,n7⟩:=q7;exact again I7 n7
  | cont=>obtain⟨σ7,H7,I7,n7⟩:=q7;exact again I7 n7
  | brk=>obtain⟨σ7,H7,I7,q7⟩:=q7;exact⟨σ7,H7,I7.unpinned,q7⟩
  | ret v=>obtain⟨x7,σ7,H7,I7,r7,q7⟩:=q7;exact⟨x7,σ7,H7,I7.unpinned,r7,q7⟩
end
end L2
namespace L2
open PySem PySem.Spec PyProof.Rows
abbrev R2:=V->V->Hp->VK->Prop
def OpR (X:Cx)(f:Value->Value->Sem Value)(r:R2):Prop :=
 ∀ (pins:List (Addr×Obj)) (s:Shared) (σ:St) (H:Hp) (x y:V) (v u:Value) (Q:VK),Inv X pins σ H s->RelV x v->RelV y u->r x y H Q ->
  wpAny (model X.prog X.w) X.A (f v u) (EP X pins σ Q) X.xe s
def UnR (X:Cx)(f:Value->Sem Value)(r:V->Hp->VK->Prop):Prop :=
 ∀ (pins:List (Addr×Obj)) (s:Shared) (σ:St) (H:Hp) (x:V) (v:Value) (Q:VK),Inv X pins σ H s->RelV x v->r x H Q ->
  wpAny (model X.prog X.w) X.A (f v) (EP X pins σ Q) X.xe s
def CallR (X:Cx)(f:Value)(r:List V->Hp->VK->Prop):Prop :=
 ∀ (pins:List (Addr×Obj)) (s:Shared) (σ:St) (H:Hp) (xs:List V) (us:List Value) (Q:VK),Inv X pins σ H s->Vals xs us->r xs H Q ->
  wpAny (model X.prog X.w) X.A (call f us) (EP X pins σ Q) X.xe s
def TruR (X:Cx)(r:V->Hp->(Bool->Hp->Prop)->Prop):Prop :=
 ∀ (pins:List (Addr×Obj)) (s:Shared) (σ:St) (H:Hp) (x:V) (v:Value) (Q:Bool->Hp->Prop),Inv X pins σ H s->RelV x v->r x H Q ->
  wpAny (model X.prog X.w) X.A (truthy v) (TP X pins σ Q) X.xe s
def tOp (r:R2)(ta tb:TE):TE:=fun σ H Q=>ta σ H fun x H1=>tb σ H1 fun y H2=>r x y H2 Q
def tUn (r:V->Hp->VK->Prop)(ta:TE):TE:=fun σ H Q=>ta σ H fun x H1=>r x H1 Q
def rI (C:Int->Int->Prop)(g:Int->Int->V):R2:=fun x y H Q=>∃ i j,x=.int i/\y=.int j/\C i j/\Q (g i j) H
def rI0 (g:Int->Int->V):R2:=fun x y H Q=>∃ i j,x=.int i/\y=.int j/\Q (g i j) H
def rU (g:Int->V):V->Hp->VK->Prop:=fun x H Q=>∃ i,x=.int i/\Q (g i) H
section
variable {X:Cx}{a b c:Expr}{ta tb tc:TE}{pos:Pos}
theorem binT (ha:PE X a ta)(hb:PE X b tb){pins:List (Addr×Obj)}{s:Shared}{σ:St}{H:Hp}{R:V->V->Hp->Prop}(I:Inv X pins σ H s)
  (h:ta σ H fun x H1=>tb σ H1 fun y H2=>R x y H2) {Q:Value->Shared->Prop} {f:Value->Value->Sem Value}
  (hf:∀ v u s2 x y H2,Inv X pins σ H2 s2->RelV x v->RelV y u->R x y H2->wpAny (model X.prog X.w) X.A (f v u) Q X.xe s2) :
  wpAny (model X.prog X.w) X.A (eval a X.env) (fun v s₁=>wpAny (model X.prog X.w) X.A (eval b X.env) (fun u s₂=>wpAny (model X.prog X.w) X.A (f v u) Q X.xe s₂) X.xe s₁) X.xe s:=by
 refine thn (ha pins s σ H _ I h) fun v s1 ⟨x,H1,I1,r1,q1⟩=>?_;refine thn (hb pins s1 σ H1 _ I1 q1) fun u s2 ⟨y,H2,I2,r2,q2⟩=>?_;exact hf v u s2 x y H2 I2 r1 r2 q2
theorem pe_op {op:Operator}{r:R2}(ho:OpR X (binaryOp op) r)(ha:PE X a ta)(hb:PE X b tb):PE X (.BinOp a op b pos) (tOp r ta tb):=by
 intro pins s σ H Q I h;exact wpAny_BinOp (binT ha hb I h fun v u s2 x y H2 I2 rx ry q=>ho pins s2 σ H2 x y v u Q I2 rx ry q)
theorem pe_un {op:UnaryOp}{r:V->Hp->VK->Prop}(ho:UnR X (unaryOp op) r)(ha:PE X a ta):PE X (.UnaryOp op a pos) (tUn r ta):=by
 intro pins s σ H Q I h;exact UnaryOp_ (thn (ha pins s σ H _ I h) fun v s1 ⟨x,H1,I1,r1,q1⟩=>ho pins s1 σ H1 x v Q I1 r1 q1)
theorem opI {f:Value->Value->Sem Value}{C:Int->Int->Prop}{g:Int->Int->Int}
  (rule:∀ (i j:Int) (t u:Tok) (s:Shared) (Q:Value->Shared->Prop) (E:Value->Shared->Prop),C i j->Q (.int (g i j) s.toks) { s with toks:=s.toks + 1 }->wpAny (model X.prog X.w) X.A (f (.int i t) (.int j u)) Q E s) :
  OpR X f (rI C fun i j=>.int (g i j)):=by
 intro pins s σ H x y v u Q I rx ry h;obtain⟨i,j,rfl,rfl,hc,q⟩:=h;obtain⟨t,rfl⟩:=rx;obtain⟨t',rfl⟩:=ry;exact rule i j t t' s _ _ hc ⟨.int (g i j),H,I.tok _,⟨_,rfl⟩,q⟩
theorem opI0 {f:Value->Value->Sem Value}{g:Int->Int->Int}
  (rule:∀ (i j:Int) (t u:Tok) (s:Shared) (Q:Value->Shared->Prop) (E:Value->Shared->Prop),Q (.int (g i j) s.toks) { s with toks:=s.toks + 1 }->wpAny (model X.prog X.w) X.A (f (.int i t) (.int j u)) Q E s) :
  OpR X f (rI0 fun i j=>.int (g i j)):=by
 intro pins s σ H x y v u Q I rx ry h;obtain⟨i,j,rfl,rfl,q⟩:=h;obtain⟨t,rfl⟩:=rx;obtain⟨t',rfl⟩:=ry;exact rule i j t t' s _ _ ⟨.int (g i j),H,I.tok _,⟨_,rfl⟩,q⟩
theorem opB0 {f:Value->Value->Sem Value}{g:Int->Int->Bool}
  (rule:∀ (i j:Int) (t u:Tok) (s:Shared) (Q:Value->Shared->Prop) (E:Value->Shared->Prop),Q (.bool (g i j)) s->wpAny (model X.prog X.w) X.A (f (.int i t) (.int j u)) Q E s) :
  OpR X f (rI0 fun i j=>.bl (g i j)):=by
 intro pins s σ H x y v u Q I rx ry h;obtain⟨i,j,rfl,rfl,q⟩:=h;obtain⟨t,rfl⟩:=rx;obtain⟨t',rfl⟩:=ry;exact rule i j t t' s _ _ ⟨.bl (g i j),H,I,rfl,q⟩
def CDiv (i j:Int):Prop:=0 < j/\j < 1073741824
def CPow (i j:Int):Prop:=0<=j/\j<=1000000/\i.natAbs < 2 ^ 64
def CMul (i j:Int):Prop:=(-(2 ^ 64) < i/\i < 2 ^ 64)\/(-(2 ^ 64) < j/\j < 2 ^ 64)
theorem CMul.ok {i j:Int}(h:CMul i j):IntMulOk i j:=by
 rcases h with ⟨h1,h2⟩|⟨h1,h2⟩
 ·exact .of_left (intBits_le_64 h1 h2)
 ·exact .of_right (intBits_le_64 h1 h2)
theorem op_add:OpR X (binaryOp .Add) (rI0 fun i j=>.int (i + j)):=opI0 fun _ _ _ _ _ _ _ q=>add_int q
theorem op_sub:OpR X (binaryOp .Sub) (rI0 fun i j=>.int (i - j)):=opI0 fun _ _ _ _ _ _ _ q=>sub_int q
theorem op_mul:OpR X (binaryOp .Mult) (rI CMul fun i j=>.int (i * j)):=opI fun _ _ _ _ _ _ _ hc q=>mul_int q hc.ok
theorem op_fdiv:OpR X (binaryOp .FloorDiv) (rI CDiv fun i j=>.int (i / j)):=opI fun i j _ _ _ _ _ hc q=>by
 have h1:(0:Int) < j:=hc.1;have h2:j < 1073741824:=hc.2;exact floordiv_int (by first | lia | omega) (by rw[Int.fdiv_eq_ediv_of_nonneg i (by first | lia | omega)];exact q) (.inl (PyProof.noPylong_small (by first | lia | omega)))
theorem op_mod:OpR X (binaryOp .Mod) (rI (fun _ j=>0 < j) fun i j=>.int (i % j)):=opI fun i j _ _ _ _ _ hc q=>by
 have h1:(0:Int) < j:=hc;exact mod_int' (by first | lia | omega) (by rw[Int.fmod_eq_emod_of_nonneg i (by first | lia | omega)];exact q)
theorem op_pow:OpR X (binaryOp .Pow) (rI CPow fun i j=>.int (i ^ j.toNat)):=opI fun _ _ _ _ _ _ _ hc q=>pow_int_small hc.1 hc.2.1 hc.2.2 q
theorem unI {f:Value->Sem Value}{g:Int->Int}
  (rule:∀ (i:Int) (t:Tok) (s:Shared) (Q:Value->Shared->Prop) (E:Value->Shared->Prop),Q (.int (g i) s.toks) { s with toks:=s.toks + 1 }->wpAny (model X.prog X.w) X.A (f (.int i t)) Q E s) :
  UnR X f (rU fun i=>.int (g i)):=by
 intro pins s σ H x v Q I rx h;obtain⟨i,rfl,q⟩:=h;obtain⟨t,rfl⟩:=rx;exact rule i t s _ _ ⟨.int (g i),H,I.tok _,⟨_,rfl⟩,q⟩
theorem un_neg:UnR X (unaryOp .USub) (rU fun i=>.int (-i)):=unI fun _ _ _ _ _ q=>neg_int q
end
section
variable {X:Cx}{a b c:Expr}{ta tb tc:TE}{pos:Pos}
theorem fin_bl {pins:List (Addr×Obj)}{σ:St}{H:Hp}{s:Shared}{Q:VK}{k k':Bool}(I:Inv X pins σ H s)(q:Q (.bl k) H)(e:k=k'):EP X pins σ Q (.bool k') s:=by
 subst e;exact⟨.bl k,H,I,rfl,q⟩
theorem op_lt:OpR X (compareOp .Lt) (rI0 fun i j=>.bl (decide (i < j))):=opB0 fun _ _ _ _ _ _ _ q=>lt_int q
theorem op_le:OpR X (compareOp .LtE) (rI0 fun i j=>.bl (decide (i<=j))):=opB0 fun _ _ _ _ _ _ _ q=>le_int q
theorem op_gt:OpR X (compareOp .Gt) (rI0 fun i j=>.bl (decide (j < i))):=opB0 fun _ _ _ _ _ _ _ q=>gt_int q
theorem op_ge:OpR X (compareOp .GtE) (rI0 fun i j=>.bl (decide (j<=i))):=opB0 fun _ _ _ _ _ _ _ q=>ge_int q
theorem op_lt_str:OpR X (compareOp .Lt) (fun x y H Q=>∃ i j,x=.str i/\y=.str j/\Q (.bl (decide (i.cps.toList < j.cps.toList))) H):=by
 intro pins s σ H x y v u Q I rx ry h;obtain⟨i,j,rfl,rfl,q⟩:=h;obtain⟨t,rfl⟩:=rx;obtain⟨t',rfl⟩:=ry;exact lt_str (fin_bl I q rfl)
theorem op_in_str:OpR X (compareOp .In) (fun x y H Q=>∃ i j,x=.str i/\y=.str j/\Q (.bl (!(Builtin.Str.occurrences j i 0 j.length 1).isEmpty)) H):=by
 intro pins s σ H x y v u Q I rx ry h;obtain⟨i,j,rfl,rfl,q⟩:=h;obtain⟨t,rfl⟩:=rx;obtain⟨t',rfl⟩:=ry;exact in_str (fin_bl I q rfl)
theorem op_isN:OpR X (compareOp .Is) (fun x y H Q=>y=.non/\Q (.bl (decide (x=.non))) H):=by
 intro pins s σ H x y v u Q I rx ry h;obtain⟨rfl,q⟩:=h;cases ry;refine is_none_gen (fin_bl I q ?_);cases x <;> first
  | (cases rx;rfl)
  | (obtain⟨t,rfl⟩:=rx;rfl)
theorem op_notN:OpR X (compareOp .IsNot) (fun x y H Q=>y=.non/\Q (.bl (!decide (x=.non))) H):=by
 intro pins s σ H x y v u Q I rx ry h;obtain⟨rfl,q⟩:=h;cases ry;refine isnot_none_gen (fin_bl I q ?_);cases x <;> first
  | (cases rx;rfl)
  | (obtain⟨t,rfl⟩:=rx;rfl)
theorem op_notin_str:OpR X (compareOp .NotIn) (fun x y H Q=>∃ i j,x=.str i/\y=.str j/\Q (.bl (!(!(Builtin.Str.occurrences j i 0 j.length 1).isEmpty))) H):=by
 intro pins s σ H x y v u Q I rx ry h;obtain⟨i,j,rfl,rfl,q⟩:=h;obtain⟨t,rfl⟩:=rx;obtain⟨t',rfl⟩:=ry;exact notIn_str (fin_bl I q rfl)
theorem pe_cmpR {op:CmpOp}{r:R2}(ho:OpR X (compareOp op) r)(ha:PE X a ta)(hb:PE X b tb)(hm:behindInMarks op b=false):PE X (.Compare a [op] [b] pos) (tOp r ta tb):=by
 intro pins s σ H Q I h;exact wpAny_Compare1 (binT ha hb I h fun v u s2 x y H2 I2 rx ry q=>ho pins s2 σ H2 x y v u Q I2 rx ry q) hm
def tTest (t:TE):TT:=fun σ H Q=>t σ H fun x H'=>∃ k,x=.bl k/\Q k H'
theorem pt_cmpR {op:CmpOp}{r:R2}(ho:OpR X (compareOp op) r)(ha:PE X a ta)(hb:PE X b tb)(hm:behindInMarks op b=false):PT X (.Compare a [op] [b] pos) (tTest (tOp r ta tb)):=by
 intro pins s σ H Q I h;refine wpAny_isTrue_Compare1 (thn (ha pins s σ H _ I h) fun v s1 ⟨x,H1,I1,r1,q1⟩=>thn (hb pins s1 σ H1 _ I1 q1) fun u s2 ⟨y,H2,I2,r2,q2⟩ =>
  thn (ho pins s2 σ H2 x y v u _ I2 r1 r2 q2) fun c s3 ⟨z,H3,I3,r3,k,e,q3⟩=>?_) hm
 subst e;cases r3;exact wpAny_truthy_bool ⟨H3,I3,q3⟩
def tChain (r r':R2)(ta tb tc:TE):TE:=fun σ H Q=>ta σ H fun x H1=>tb σ H1 fun y H2=>r x y H2 fun z H3=>∃ k,z=.bl k /\
 (if k=true then tc σ H3 fun w' H4=>r' y w' H4 Q else Q (.bl false) H3)
theorem pe_chain {op op':CmpOp}{r r':R2}(ho:OpR X (compareOp op) r)(ho':OpR X (compareOp op') r')(ha:PE X a ta)(hb:PE X b tb)(hc:PE X c tc)
  (hm:lastMarks [op,op'] [b,c]=false:=by with_unfolding_all rfl):PE X (.Compare a [op,op'] [b,c] pos) (tChain r r' ta tb tc):=by
 intro pins s σ H Q I h;refine Compare_chain (thn (ha pins s σ H _ I h) fun v s1 ⟨x,H1,I1,r1,q1⟩=>chain_link (thn (hb pins s1 σ H1 _ I1 q1) fun u s2 ⟨y,H2,I2,r2,q2⟩ =>
  thn (ho pins s2 σ H2 x y v u _ I2 r1 r2 q2) fun d s3 ⟨z,H3,I3,r3,k,e,q3⟩=>?_)) hm
 subst e;cases r3;refine wpAny_truthy_bool ?_;cases k with
 | false=>exact ite_ff ⟨.bl false,H3,I3,rfl,q3⟩
 | true=>exact ite_tt (chain_last (thn (hc pins s3 σ H3 _ I3 q3) fun w' s4 ⟨z',H4,I4,r4,q4⟩=>ho' pins s4 σ H4 y z' u w' Q I4 r2 r4 q4))
theorem pt_chain {op op':CmpOp}{r r':R2}(ho:OpR X (compareOp op) r)(ho':OpR X (compareOp op') r')(ha:PE X a ta)(hb:PE X b tb)(hc:PE X c tc)
  (hm:lastMarks [op,op'] [b,c]=false:=by with_unfolding_all rfl):PT X (.Compare a [op,op'] [b,c] pos) (tTest (tChain r r' ta tb tc)):=by
 intro pins s σ H Q I h;refine isTrue_chain (thn (ha pins s σ H _ I h) fun v s1 ⟨x,H1,I1,r1,q1⟩=>test_link (thn (hb pins s1 σ H1 _ I1 q1) fun u s2 ⟨y,H2,I2,r2,q2⟩ =>
  thn (ho pins s2 σ H2 x y v u _ I2 r1 r2 q2) fun d s3 ⟨z,H3,I3,r3,k,e,q3⟩=>?_)) hm
 subst e;cases r3;refine wpAny_truthy_bool ?_;cases k with
 | false =>
  obtain⟨k',e',q'⟩:=q3;cases e';exact ite_ff ⟨H3,I3,q'⟩
 | true =>
  refine ite_tt (test_last (thn (hc pins s3 σ H3 _ I3 q3) fun w' s4 ⟨z',H4,I4,r4,q4⟩=>thn (ho' pins s4 σ H4 y z' u w' _ I4 r2 r4 q4) fun d' s5 ⟨z2,H5,I5,r5,k2,e2,q5⟩=>?_));subst e2;cases r5;exact wpAny_truthy_bool ⟨H5,I5,q5⟩
def TruV (K:PySem.W.Frag)(x:V)(H:Hp)(k:Bool):Prop :=
 match x with
 | .non=>k=false
 | .bl b=>k=b
 | .int i=>k=(i != 0)
 | .str y=>y.length<=zj/\k=((y.length:Int) != 0)
 | .byt y=>y.size<=zj/\k=((y.size:Int) != 0)
 | .ref p=>(∃ xs,SqL K H p xs/\k = !xs.isEmpty)\/(∃ xs,SqT K H p xs/\k = !xs.isEmpty)\/∃ kvs,H p=some (.dK kvs)/\k = !kvs.isEmpty
 | _=>False
theorem isEmpty_kv {κ:Type}{kvs:List (κ×V)}{vs:List (κ×Value)}(r:KV kvs vs):(!vs.isEmpty) = !kvs.isEmpty:=by
 cases r <;> rfl
theorem isEmpty_of {xs:List V}{its:List Value}(r:Vals xs its):(!its.toArray.isEmpty) = !xs.isEmpty:=by
 cases r <;> simp
theorem line63:(zj:Nat) < 2 ^ 63:=by rw[sizeLine_eq];decide
theorem tru_ok:TruR X (fun x H Q=>∃ k,TruV X.K x H k/\Q k H):=by
 intro pins s σ H x v Q I rx h;obtain⟨k,e,q⟩:=h;have hl:=line63;have hs:zj=16777216:=sizeLine_eq;cases x with
 | non =>
  cases rx;have e':k=false:=e;subst e';exact truthy_none ⟨H,I,q⟩
 | bl b =>
  cases rx;have e':k=b:=e;subst e';exact wpAny_truthy_bool ⟨H,I,q⟩
 | int i =>
  obtain⟨t,rfl⟩:=rx;have e':k=(i != 0):=e;subst e';exact PySem.P.truthy_int ⟨H,I,q⟩
 | str y =>
  obtain⟨t,rfl⟩:=rx;obtain⟨hy,e'⟩:y.length<=zj/\k=((y.length:Int) != 0):=e;subst e';exact PySem.P.truthy_str (by first | lia | omega) ⟨H,I.tok _,q⟩
 | byt y =>
  obtain⟨t,rfl⟩:=rx;obtain⟨hy,e'⟩:y.size<=zj/\k=((y.size:Int) != 0):=e;subst e';exact PySem.W.truthy_bytes (by first | lia | omega) ⟨H,I.tok _,q⟩
 | ref p =>
  cases rx;have e':(∃ xs,SqL X.K H p xs/\k = !xs.isEmpty)\/(∃ xs,SqT X.K H p xs/\k = !xs.isEmpty)\/∃ kvs,H p=some (.dK kvs)/\k = !kvs.isEmpty:=e;rcases e' with ⟨xs,hx,e'⟩|⟨xs,hx,e'⟩|⟨kvs,hx,e'⟩
  ·subst e'
   obtain⟨its,r,pl,hz⟩:=I.list hx;have hlen:=r.length;exact wpAny_truthy_list pl.isList (by simp only[zl];omega) ⟨H,I.tok _,by rw[isEmpty_of r];exact q⟩
  ·subst e'
   obtain⟨its,r,pl,hz⟩:=I.tuple hx;have hlen:=r.length;exact truthy_tuple pl (by simp only[zl];omega) ⟨H,I.tok _,by rw[isEmpty_of r];exact q⟩
  ·subst e'
   obtain⟨hz,hS,vs,r,m⟩:kvs.length<=zj/\(p==sysModules)=false/\∃ vs,KV kvs vs/\s.heap.DictOf (mixKind X.prog X.w) p vs:=I.hok p _ hx;have hlen:kvs.length=vs.length:=Paired.length r;exact wpAny_truthy_dict hS m (by first | lia | omega) ⟨H,I.tok _,by rw[isEmpty_kv r];exact q⟩
 | _=>exact(show False from e).elim
theorem op_add_str:OpR X (binaryOp .Add) (fun x y H Q=>∃ i j,x=.str i/\y=.str j/\i.length + j.length<=zj/\Q (.str (i++j)) H):=by
 intro pins s σ H x y v u Q I rx ry h;obtain⟨i,j,rfl,rfl,hz,q⟩:=h;obtain⟨t,rfl⟩:=rx;obtain⟨t',rfl⟩:=ry;exact add_str (fun t' tk=>⟨.str (i++j),H,I.tok _,⟨_,rfl⟩,q⟩) hz
theorem vals1 {x:V}{us:List Value}(r:Vals [x] us):∃ u,us=[u]/\RelV x u:=by
 cases r with
 | cons r1 r2=>cases r2;exact⟨_,rfl,r1⟩
theorem vals2 {x y:V}{us:List Value}(r:Vals [x,y] us):∃ u w',us=[u,w']/\RelV x u/\RelV y w':=by
 cases r with
 | cons r1 r2 =>
  cases r2 with
  | cons r3 r4=>cases r4;exact⟨_,_,rfl,r1,r3⟩
end
end L2
namespace L2
open PySem PySem.Spec PyProof.Rows
section
variable {prog:Program}{w:World}{A:Around}{E:Value->Shared->Prop}{s:Shared}{K:PySem.W.Frag}{x dx C f:Addr}{mA:Str->Option Value}{name:Str}{v:Value}
end
theorem RelO.some_of {v:V}{o:Option Value}(r:RelO (some v) o):∃ u,o=some u/\RelV v u:=by
 cases o with
 | none=>exact(show False from r).elim
 | some u=>exact⟨u,rfl,r⟩
section
variable {P:Program}{w:World}{H H':Hp}{h h':Heap}{a C dx:Addr}{fs fs':List (Str×V)}
end
section
variable {X:Cx}{pins:List (Addr×Obj)}{σ:St}{H:Hp}{s:Shared}{a C dx:Addr}{fs:List (Str×V)}{f:Str}{v:V}{A:Around}{E:Value->Shared->Prop}
end
section
variable {X:Cx}{o e value:Expr}{f:Str}{pos pos' tpos:Pos}{ta tv:TE}
end
section
variable {X:Cx}{pins:List (Addr×Obj)}{σ:St}{H:Hp}{s:Shared}{A:Around}{E:Value->Shared->Prop}{Q:Value->Shared->Prop}{c:Value}{b:Bool}
end
end L2
namespace L2
open PySem PySem.Spec PyProof.Rows
structure Room (k:Nat) (A:Around):Prop where
 hd:A.handled=none
 dp:A.depth + 3 * k + 5 < recursionLimit
 un:A.units + 16 * k + 200 < cLine
 gd:A.guards=some []
theorem Room.deeper {k:Nat}{A:Around}(r:Room (k + 1) A)(env:Env):Room k (A.deeper env) :=
 ⟨r.hd,by have:=r.dp;show A.depth + 1 + 3 * k + 5 < _;omega,by have:=r.un;show A.units + 3 + 16 * k + 200 < _;omega,r.gd⟩
theorem Room.depth {k:Nat}{A:Around}(r:Room k A):A.depth < recursionLimit:=by have:=r.dp;omega
def tNil:TA:=fun _ H Q=>Q [] H
def tCons (ta:TE)(tr:TA):TA:=fun σ H Q=>ta σ H fun x H1=>tr σ H1 fun xs H2=>Q (x::xs) H2
section
variable {X:Cx}{e:Expr}{es:List Expr}{te:TE}{t:TA}{pos:Pos}
theorem pa_nil:PA X [] tNil:=fun _ _ _ _ H Q I h=>Calls.spliced_nil ⟨[],H,I,.nil,h⟩
theorem pa_cons (ha:PE X e te)(hr:PA X es t)(hs:starEach (e::es) X.env=(false,eval e X.env)::starEach es X.env:=by rfl):PA X (e::es) (tCons te t):=by
 intro pos pins s σ H Q I h;rw[hs];show wpAny _ _ (spliced ((false,eval e X.env)::backTo pos (starEach es X.env))) _ _ s;refine Calls.spliced_cons (thn (ha pins s σ H _ I h) fun u s1 ⟨x,H1,I1,r1,q1⟩=>?_);exact thn (hr pos pins s1 σ H1 _ I1 q1) fun us s2 ⟨xs,H2,I2,r2,q2⟩=>⟨x::xs,H2,I2,.cons r1 r2,q2⟩
def tTup (t:TA):TE:=fun σ H Q=>t σ H fun xs H1=>xs.length<=zj/\∀ p,H1 p=none->Q (.ref p) (upd H1 p (.tup xs))
def tLst (t:TA):TE:=fun σ H Q=>t σ H fun xs H1=>xs.length<=zj/\∀ p,H1 p=none->Q (.ref p) (upd H1 p (.lst xs))
theorem pe_tup {x1}(h:PA X es t):PE X (.Tuple es x1 pos) (tTup t):=by
 intro pins s σ H Q I hq;refine wpAny_Tuple_spliced (thn (h pos pins s σ H _ I hq) fun us s1 ⟨xs,H1,I1,r,z,q⟩=>⟨by rw[<- r.length];exact z,?_⟩);have hf:H1 s1.heap.objs.size=none:=I1.hok.fresh (zr _);refine⟨.ref s1.heap.objs.size,upd H1 s1.heap.objs.size (.tup xs),I1.laid (t':=s1.toks) (fun b u e=>zo _ e) (zr _) ?_,rfl,q _ hf⟩;exact⟨z,us,r,TupN.new _ _⟩
theorem pe_lst (h:PA X es t):PE X (.List es pos) (tLst t):=by
 intro pins s σ H Q I hq;refine wpAny_List_spliced (thn (h pos pins s σ H _ I hq) fun us s1 ⟨xs,H1,I1,r,z,q⟩=>⟨by rw[<- r.length];exact z,?_⟩);have hf:H1 s1.heap.objs.size=none:=I1.hok.fresh (zr _);refine⟨.ref s1.heap.objs.size,upd H1 s1.heap.objs.size (.lst xs),I1.laid (t':=s1.toks) (fun b u e=>zo _ e) (zr _) ?_,rfl,q _ hf⟩;exact⟨z,us,0,r,zc _ rfl⟩
end
abbrev Sp:=List V->Hp->VK->XK->Prop
abbrev CXT:=List Env->Hp->Shared->XK->Value->Shared->Prop
structure Env0 (P:Program) (w:World) (K:PySem.W.Frag) (mg:Str->Option Value) (base:Heap) (A:Around) (outer:List Env) (s:Shared) (H:Hp):Prop where
 frames:A.frames=some outer
 mod:Mod K mg base
 bs:∀ b o,base.get? b=some o->s.heap.get? b=some o/\H b=none
 bsz:base.objs.size<=s.heap.objs.size
 funs:s.heap.FunFrames base outer
 frf:∀ b∈frs outer,H b=none
 hok:HOk P w H s.heap
 bare:AllBare s.gens
def CE (outer:List Env)(P:Program)(w:World)(H:Hp)(s:Shared)(Q:VK)(u:Value)(s':Shared):Prop :=
 ∃ v H',s'.os=s.os/\AllBare s'.gens/\Un (frs outer) [] H H' s.heap s'.heap/\HOk P w H' s'.heap/\RelV v u/\Q v H'
def CR (CX:CXT)(outer:List Env)(P:Program)(w:World)(H:Hp)(s:Shared)(Q:VK)(E:XK)(r:Result)(s':Shared):Prop :=
 match r with
 | .ok (.ret u)=>CE outer P w H s Q u s'
 | .ok _=>False
 | .error e=>CX outer H s E e s'
structure FnOk (P:Program) (w:World) (K:PySem.W.Frag) (mg:Str->Option Value) (base:Heap) (CX:CXT) (k:Nat) (f:Addr) (fd:FuncData) (ps:List Str) (sp:Sp):Prop where
 len:∀ vs H Q E,sp vs H Q E->vs.length=ps.length
 run:∀ (A:Around) (outer:List Env) (s:Shared) (H:Hp) (args:Args) (us:List Value) (vs:List V) (Q:VK) (E:XK),Room k A->Env0 P w K mg base A outer s H->BindsTo s fd args (ps.zip us)->Vals vs us->sp vs H Q E ->
  codeAny (model P w) A (.call (.ref f) args) (CR CX outer P w H s Q E) s
section
variable {X:Cx}{pins:List (Addr×Obj)}{σ:St}{H:Hp}{s s':Shared}
theorem Inv.env0 (I:Inv X pins σ H s):Env0 X.prog X.w X.K X.mg X.base X.A X.stack s H :=
 ⟨I.ok.frames,I.ok.mod,I.bs,zK I.ok.bsz I.sz,I.stack,I.stkFree,I.hok,I.bare⟩
theorem Inv.after {Q:VK}{u:Value}(I:Inv X pins σ H s)(h:CE X.stack X.prog X.w H s Q u s'):EP X pins σ Q u s':=by
 obtain⟨v,H',os,bare,un,hok,r,q⟩:=h;obtain⟨hh,g,d,t,os'⟩:=s';obtain rfl:os'=s.os:=os;exact⟨v,H',I.call (h':=hh) (g':=g) (d':=d) (t':=t) (ch:=[]) un hok bare (fun b z=>absurd z (by simp)),r,q⟩
end
def tCall (sp:Sp)(dvs:List V)(E:XK)(t:TA):TE:=fun σ H Q=>t σ H fun vs H1=>sp (vs++dvs) H1 Q E
def Binds (K:PySem.W.Frag)(fd:FuncData)(ps:List Str)(ds:List Value):Prop :=
 ∀ (s:Shared) (us:List Value),K.In s.heap->(us++ds).length=ps.length->BindsTo s fd ⟨us,[]⟩ (ps.zip (us++ds))
theorem Binds.all {K:PySem.W.Frag}{fd:FuncData}{ps:List Str}(h:∀ us:List Value,us.length=ps.length->bindArgs fd ⟨us,[]⟩=pure (ps.zip us)):Binds K fd ps []:=fun s us _ hl=>by
 rw[zO]at hl ⊢;exact .of_eq (h us hl)
def Passes (CX:CXT)(X:Cx)(E:XK):Prop:=∀ (pins:List (Addr×Obj)) (σ:St) (H:Hp) (s:Shared) (e:Value) (s':Shared),Inv X pins σ H s->CX X.stack H s E e s'->X.xe e s'
section
variable {X:Cx}{CX:CXT}{k:Nat}{f C:Addr}{fd:FuncData}{ps:List Str}{sp:Sp}{dvs:List V}{ds:List Value}{E:XK}{x m:Str}{p pos apos:Pos}{e o:Expr}{es:List Expr}{ta:TE}{t:TA}
theorem run_fn {pins:List (Addr×Obj)}{σ:St}{H:Hp}{s:Shared}{Q:VK}{us:List Value}{vs:List V}(F:FnOk X.prog X.w X.K X.mg X.base CX k f fd ps sp)(hr:Room k X.A)(hb:Binds X.K fd ps ds)(hd:Vals dvs ds)(hx:Passes CX X E)
  (I:Inv X pins σ H s) (r:Vals vs us) (h:sp (vs++dvs) H Q E):wpAny (model X.prog X.w) X.A (call (.ref f) us) (EP X pins σ Q) X.xe s:=by
 have r2:Vals (vs++dvs) (us++ds):=r.append hd;have hl:(us++ds).length=ps.length:=by rw[<- r2.length];exact F.len _ _ _ _ h
 refine wpAny_call (codeAny_mono (F.run X.A X.stack s H ⟨us,[]⟩ (us++ds) (vs++dvs) Q E hr I.env0 (hb s us I.kIn hl) r2 h) fun r s' hq=>?_);cases r with
 | error e=>exact hx pins σ H s e s' I hq
 | ok fl =>
  cases fl with
  | ret u=>exact I.after hq
  | next=>exact False.elim hq
  | brk=>exact False.elim hq
  | cont=>exact False.elim hq
theorem pe_call (F:FnOk X.prog X.w X.K X.mg X.base CX k f fd ps sp)(hr:Room k X.A)(hg:Gl X x)(hm:X.mg x=some (.ref f))(hk:PySem.W.keepIn X.K (.ref f)=true)(hb:Binds X.K fd ps ds)(hd:Vals dvs ds)(hx:Passes CX X E)
  (ha:PA X (e::es) t) (hdb:(x==("__debug__" : Str))=false:=by decide) (he:starEach (e::es) X.env=(false,eval e X.env)::starEach es X.env:=by rfl) (hpl:(backTo pos (starEach es X.env)).any (·.1)=false:=by rfl) :
  PE X (.Call (.Name x p) (e::es) [] pos) (tCall sp dvs E t):=by
 intro pins s σ H Q I h;refine wpAny_Call_Name_kw (ld_glob I hg hm ?_ hdb);refine PySem.W.callWith_K (h₀:=X.base) I.ok.mod.kin hk (thn (ha pos pins s σ H _ I h) fun us s1 ⟨vs,H1,I1,r,q⟩=>⟨I1.kIn,?_⟩) he hpl;exact run_fn F hr hb hd hx I1 r q
end
section
variable {X:Cx}{CX:CXT}{k:Nat}{f C:Addr}{fd:FuncData}{ps ks:List Str}{sp:Sp}{E:XK}{x m:Str}{p pos apos kpos:Pos}{e o:Expr}{es:List Expr}{kws:List Keyword}{te ta:TE}{t tk:TA}{nm:Option Str}
variable {g:List Value->List Value->List Value}{gV:List V->List V->List V}
end
structure FnScope (N P:List Str) (sc:Scope):Prop where
 kind:sc.kind=.function
 co:sc.isCoroutine=false
 gen:sc.isGenerator=false
 nd:N.Nodup
 pre:N.take P.length=P
 par:∀ x∈P,sc.names.lookup x=some .local\/sc.names.lookup x=some .cell
 nofree:∀ y∈sc.names,y.2≠.free
theorem bindL_out {kindOf:Str->Option NameKind}{x:Str}:∀ {binds:List (Str×Value)} {m:Str->Option Value},(∀ v,(x,v) ∉ binds)->bindL kindOf binds m x=m x
 | [],_,_=>rfl
 | (n,v)::r,m,h=>by
  unfold bindL;rw[bindL_out fun w hw=>h w (zF _ hw)];split
  ·have:x≠n:=by rintro rfl;exact h v zJ
   simp[this]
  ·rfl
theorem bindC_out {kindOf:Str->Option NameKind}{x:Str}:∀ {binds:List (Str×Value)} {m:Str->Option Value},(∀ v,(x,v) ∉ binds)->bindC kindOf binds m x=m x
 | [],_,_=>rfl
 | (n,v)::r,m,h=>by
  unfold bindC;rw[bindC_out fun w hw=>h w (zF _ hw)];split
  ·rfl
  ·have:x≠n:=by rintro rfl;exact h v zJ
   simp[this]
theorem bindL_get {kindOf:Str->Option NameKind}{x:Str}{v:Value}:∀ {P:List Str} {vs:List Value} {i:Nat} {m:Str->Option Value},P.Nodup->P[i]?=some x->vs[i]?=some v->kindOf x=some .local ->
  bindL kindOf (P.zip vs) m x=some v
 | [],_,_,_,_,h,_,_=>by simp at h
 | _::_,[],_,_,_,_,h,_=>by simp at h
 | p::P,w::vs,0,m,nd,h1,h2,hk=>by
  simp at h1 h2;subst h1;subst h2;show bindL kindOf ((p,w)::P.zip vs) m p=_;unfold bindL;rw[bindL_out fun v hv=>(yL.mp nd).1 (xT hv).1,if_pos hk];simp
 | p::P,w::vs,i + 1,m,nd,h1,h2,hk=>by
  show bindL kindOf ((p,w)::P.zip vs) m x=_;unfold bindL;exact bindL_get (i:=i) (yL.mp nd).2 (by simpa using h1) (by simpa using h2) hk
theorem bindC_get {kindOf:Str->Option NameKind}{x:Str}{v:Value}:∀ {P:List Str} {vs:List Value} {i:Nat} {m:Str->Option Value},P.Nodup->P[i]?=some x->vs[i]?=some v->kindOf x≠some .local ->
  bindC kindOf (P.zip vs) m x=some v
 | [],_,_,_,_,h,_,_=>by simp at h
 | _::_,[],_,_,_,_,h,_=>by simp at h
 | p::P,w::vs,0,m,nd,h1,h2,hk=>by
  simp at h1 h2;subst h1;subst h2;show bindC kindOf ((p,w)::P.zip vs) m p=_;unfold bindC;rw[bindC_out fun v hv=>(yL.mp nd).1 (xT hv).1,if_neg hk];simp
 | p::P,w::vs,i + 1,m,nd,h1,h2,hk=>by
  show bindC kindOf ((p,w)::P.zip vs) m x=_;unfold bindC;exact bindC_get (i:=i) (yL.mp nd).2 (by simpa using h1) (by simpa using h2) hk
def start (N:List Str)(vs:List V):St:=vs.map some++ya (N.length - vs.length) none
def cxOf (CX:CXT)(P:Program)(w:World)(K:PySem.W.Frag)(mg:Str->Option Value)(base:Heap)(N:List Str)(qual:Str)(scope:Scope)(f:Addr)(cd:Value)(A:Around)(outer:List Env)(s:Shared)(H:Hp)(E:XK):Cx where
 prog:=P
 w:=w
 K:=K
 mg:=mg
 base:=base
 A:=A.deeper (envOfC qual scope s.heap.objs.size f cd)
 N:=N
 s₀:=s
 H₀:=H
 env:=envOfC qual scope s.heap.objs.size f cd
 outer:=outer
 stack:=envOfC qual scope s.heap.objs.size f cd::outer
 ex:=[]
 calm:=true
 fn:=fun _=>true
 pn:=[]
 xe:=fun e s'=>wpAny (model P w) (A.deeper (envOfC qual scope s.heap.objs.size f cd)) (leaving (envOfC qual scope s.heap.objs.size f cd) e) (fun _ s''=>CX outer H s E e s'') (fun e' s''=>CX outer H s E e' s'') s'
theorem cell_has {sc:Scope}{n:Nat}{x:Str}(h:sc.names.lookup x=some .cell):∃ c,(cellsFrom n sc.names []).lookup x=some c:=by
 have q:=PySem.W.cellsFrom_some sc.names n [] (.inl h);exact zX.mp q
theorem inv_start {CX:CXT}{P:Program}{w:World}{K:PySem.W.Frag}{mg:Str->Option Value}{base:Heap}{N ps:List Str}{qual:Str}{scope:Scope}{f:Addr}{cd:Value}{A:Around}{outer:List Env}{s s1:Shared}{H:Hp}{E:XK}{us:List Value}{vs:List V}
  (S:FnScope N ps scope) (hd:A.handled=none) (e0:Env0 P w K mg base A outer s H) (hl:vs.length=ps.length) (r:Vals vs us)
  (x:InCallC s s.heap.objs.size (bindL (envOfC qual scope s.heap.objs.size f cd).kindOf (ps.zip us) fun _=>none) (cellsFrom (s.heap.objs.size + 1) scope.names []) (bindC (envOfC qual scope s.heap.objs.size f cd).kindOf (ps.zip us) fun _=>none) s1) :
  Inv (cxOf CX P w K mg base N qual scope f cd A outer s H E) [] (start N vs) H s1:=by
 have hpl:ps.length<=N.length:=by have:=congrArg List.length S.pre;rw[ze]at this;omega
 obtain⟨h1,tk,rfl,hk⟩:=x.done;have noA:∀ b:Addr,b ∉ (cxOf CX P w K mg base N qual scope f cd A outer s H E).ex:=fun b z=>absurd (show b∈([]:List Addr) from z) (by simp);refine⟨⟨e0.mod,S.kind,rfl,rfl,zr _,fun y z c h1 h2=>?_,fun y hy=>?_,fun y c _ h=>?_,fun _=>hd,Around.frames_deeper e0.frames,.inr ⟨rfl,rfl⟩,fun b z=>absurd z (noA b),e0.bs,e0.bsz,fun b _ _=>noA b,fun b z=>absurd z (noA b),e0.funs,e0.frf⟩,
  rfl,e0.bare,Un.kept hk,⟨_,x.toInCall.ns,fun i y v h1 h2 h3=>?_⟩,fun y c h=>⟨_,x.cell y c h⟩,e0.hok.fresh (zr _),fun y c h=>?_,fun p hp=>absurd (show p∈([]:List (Addr×Obj)) from hp) (by simp),e0.hok.kept hk,?_⟩
 ·exact name_of_addr x.apart (PySem.mem_of_lookup h1) (PySem.mem_of_lookup h2)
 ·have hy:scope.names.lookup y=some .cell\/scope.names.lookup y=some .free:=hy
  rcases hy with hy | hy
  ·exact cell_has hy
  ·exact absurd rfl (S.nofree _ (PySem.mem_of_lookup hy))
 ·exact wD (x.above y c (PySem.mem_of_lookup h))
 ·have hi:i < vs.length:=by
   unfold start at h2;by_cases hi:i < vs.length
   ·exact hi
   ·rw[zC (by simpa using hi)]at h2
    rw[xx]at h2;split at h2 <;> cases h2
  have ha:vs[i]?=some v:=by
   unfold start at h2;rw[zd (by simpa using hi),zv]at h2;cases e:vs[i]? with
   | none=>rw[e]at h2;cases h2
   | some a=>rw[e]at h2;cases h2;rfl
  obtain⟨u,hu,rv⟩:=r.get ha;have hp:ps[i]?=some y:=by
   rw[<- S.pre,List.getElem?_take_of_lt (by first | lia | omega)];exact h1
  have ndP:ps.Nodup:=by rw[<- S.pre];exact S.nd.sublist (List.take_sublist _ _)
  refine⟨u,rv,?_⟩;rcases S.par y (zw hp) with k | k
  ·exact .inl ⟨k,bindL_get ndP hp hu k⟩
  ·obtain⟨c,e⟩:=cell_has (n:=s.heap.objs.size + 1) k
   refine .inr ⟨.inl k,c,e,?_⟩;have q:=x.cell y c e;rw[bindC_get ndP hp hu (by show scope.names.lookup y≠_;rw[k];decide)]at q;exact q
 ·exact e0.hok.fresh (wD (x.above y c (PySem.mem_of_lookup h)))
 ·unfold start
  show _=N.length;rw[zt,zz,yt];first | lia | omega
theorem fn_of {CX:CXT}{P:Program}{w:World}{K:PySem.W.Frag}{mg:Str->Option Value}{base:Heap}{k:Nat}{f:Addr}{name qual:Str}{params:Arguments}{body:List Stmt}{scope:Scope}{dV kV doc pm cdv ct oc:Value}{an od:Option Addr}
  {osl:Array (Option Value)} {N ps:List Str} {sp:Sp} (lk:K.lookup f=some ⟨oc,od,.func (PySem.W.fnOf name qual params body scope dV kV doc pm an cdv ct),osl⟩) (hcd:PySem.W.codeIn K cdv qual=true) (S:FnScope N ps scope)
  (len:∀ vs H Q E,sp vs H Q E->vs.length=ps.length)
  (hbody:∀ (A:Around) (outer:List Env) (s:Shared) (H:Hp) (vs:List V) (Q:VK) (E:XK),Room k (A.deeper (envOfC qual scope s.heap.objs.size f cdv))->sp vs H Q E ->
   ∃ t,PSs (cxOf CX P w K mg base N qual scope f cdv A outer s H E) body t/\t { nx:=fun _ H'=>Q .non H',rt:=Q } (start N vs) H) :
  FnOk P w K mg base CX (k + 1) f (PySem.W.fnOf name qual params body scope dV kV doc pm an cdv ct) ps sp:=by
 refine⟨len,fun A outer s H args us vs Q E hr e0 hb r hsp=>?_⟩;have hl:=len _ _ _ _ hsp;have KX:K.In s.heap:=e0.mod.kin.keeps fun b o e=>(e0.bs b o e).1;have lim:s.heap.NoLimit:=e0.mod.nolimit.keeps fun b o e=>(e0.bs b o e).1;have hkind:∀ y∈ps.zip us,scope.names.lookup y.1=some .local\/(scope.names.lookup y.1=some .cell/\((cellsFrom (s.heap.objs.size + 1) scope.names []).lookup y.1).isSome=true):=fun ⟨n,v⟩ hy=>by
  rcases S.par n (xT hy).1 with q | q
  ·exact .inl q
  ·exact .inr ⟨q,PySem.W.cellsFrom_some _ _ _ (.inl q)⟩
 refine codeAny_call_function hr.depth (KX _ _ lk) rfl S.co S.gen rfl (PySem.W.codeRec_of KX hcd) (hb _ _ _ _ ?_);refine wpAny_newFunctionEnv_cells S.kind hkind fun env he s1 x=>?_;subst he;refine⟨lim.keeps x.toInCall.keep,codeAny_func ?_⟩;obtain⟨t,ht,hq⟩:=hbody A outer s H vs Q E (hr.deeper _) hsp;have I:Inv (cxOf CX P w K mg base N qual scope f cdv A outer s H E) [] (start N vs) H s1:=inv_start S hr.hd e0 hl r x;refine wpAny_mono (ht [] s1 (start N vs) H _ I hq) (fun fl s' hs=>?_) fun e s' hs=>hs;have fin:∀ {σ':St} {H':Hp} {v:V} {u:Value},Inv (cxOf CX P w K mg base N qual scope f cdv A outer s H E) [] σ' H' s'->RelV v u->Q v H'->CE outer P w H s Q u s' :=
  fun {σ' H' v u} J rv q=>⟨v,H',J.os,J.bare,J.base,J.hok,rv,q⟩
 cases fl with
 | ret u =>
  obtain⟨v,σ',H',J,rv,q⟩:=hs;exact fin J rv q
 | next =>
  obtain⟨σ',H',J,q⟩:=hs;exact fin (v:=V.non) (u:=Value.none) J rfl q
 | brk =>
  obtain⟨_,_,_,q⟩:=hs;exact False.elim q
 | cont =>
  obtain⟨_,_,_,q⟩:=hs;exact False.elim q
end L2
namespace L2
open PySem PySem.Spec PyProof.Rows
section
variable {X:Cx}{x:Str}{p pos:Pos}{e:Expr}{es:List Expr}{t:TA}{id T:String}{r:List V->Hp->VK->Prop}
def tCB (r:List V->Hp->VK->Prop)(t:TA):TE:=fun σ H Q=>t σ H fun vs H1=>r vs H1 Q
theorem pe_callB (hc:CallR X (.builtin id) r)(hg:Gl X x)(hm:X.mg x=none)(hv:bootBuiltins x=some (.builtin id))(ha:PA X (e::es) t)(hn:x≠"__name__":=by decide)(hdb:(x==("__debug__" : Str))=false:=by decide)
  (he:starEach (e::es) X.env=(false,eval e X.env)::starEach es X.env:=by rfl) (hpl:(backTo pos (starEach es X.env)).any (·.1)=false:=by rfl):PE X (.Call (.Name x p) (e::es) [] pos) (tCB r t):=by
 intro pins s σ H Q I h;refine wpAny_Call_Name_kw (ld_blt I hg hm hv ?_ hn hdb);exact PyProof.Rows.callWith_builtin1 (thn (ha pos pins s σ H _ I h) fun us s1 ⟨vs,H1,I1,r1,q1⟩=>hc pins s1 σ H1 vs us Q I1 r1 q1) he hpl
theorem pe_callTy (hc:CallR X (.type T) r)(hg:Gl X x)(hm:X.mg x=none)(hv:bootBuiltins x=some (.type T))(ha:PA X (e::es) t)(hn:x≠"__name__":=by decide)(hdb:(x==("__debug__" : Str))=false:=by decide)
  (he:starEach (e::es) X.env=(false,eval e X.env)::starEach es X.env:=by rfl) (hpl:(backTo pos (starEach es X.env)).any (·.1)=false:=by rfl):PE X (.Call (.Name x p) (e::es) [] pos) (tCB r t):=by
 intro pins s σ H Q I h;refine wpAny_Call_Name_kw (ld_blt I hg hm hv ?_ hn hdb);exact PyProof.Rows.callWith_type1 (thn (ha pos pins s σ H _ I h) fun us s1 ⟨vs,H1,I1,r1,q1⟩=>hc pins s1 σ H1 vs us Q I1 r1 q1) he hpl
end
end L2
namespace HT
open PySem PyProof.Rows
section
open PySem.SeqAt
open PySem.AutoSeq1 (wpAny_loadPart')
open PySem.MeetsSeq PySem.MeetsSeq2 PySem.MeetsSeq3
end
section
variable {prog:Program}{w:World}{A:Around}{E:Value->Shared->Prop}{s:Shared}
theorem cat_tup {t b:Addr}{vs ws:List Value}{Q:Value->Shared->Prop}(ht:IsTup s.heap t vs.toArray)(hb:IsTup s.heap b ws.toArray)(hv:vs≠[])
  (h1:ws=[]->Q (.ref t) s) (h2:ws≠[]->Q (.ref s.heap.objs.size) { s with heap:=s.heap.push { cls:=.type "tuple",data:=.seq (vs++ws).toArray } })
  (hsz:vs.length + ws.length<=zj):wpAny (model prog w) A (binaryOp .Add (.ref t) (.ref b)) Q E s:=by
 obtain⟨⟨cls,dd,data,sl⟩,ho,hc,n,hd⟩:=id ht;obtain⟨⟨cls2,dd2,data2,sl2⟩,ho2,hc2,n2,hd2⟩:=id hb;simp only at hc hd hc2 hd2;subst hc hd hc2 hd2;have e:vs.toArray++ws.toArray=(vs++ws).toArray:=by simp
 by_cases hw:ws=[]
 ·exact concat_meets ⟨_,ho,rfl⟩ ⟨_,ho2,rfl⟩ noFill_tuple_add seq_tuple_add PySem.F.slot_tuple_add PySem.F.entry_tuple_add (PySem.F.args_tuple_add_2 _ _)
   (tuple_addW1 t b vs.toArray ws.toArray n n2 dd dd2 sl sl2 (by simpa using hv) (by simp[hw])) ⟨ho,ho2,h1 hw⟩
 ·refine concat_meets ⟨_,ho,rfl⟩ ⟨_,ho2,rfl⟩ noFill_tuple_add seq_tuple_add PySem.F.slot_tuple_add PySem.F.entry_tuple_add (PySem.F.args_tuple_add_2 _ _)
   (tuple_addW2 t b vs.toArray ws.toArray n n2 dd dd2 sl sl2 (by simpa using hv) (by simpa using hw) (by rw[zl,zl];exact hsz)) ⟨ho,ho2,?_⟩
  rw[e];exact h2 hw
def sIx (n d:Nat):Option Int->Nat
 | none=>d
 | some v=>if v < 0 then (v + (n:Int)).toNat else min v.toNat n
theorem sIx_le (n d:Nat)(hd:d<=n)(o:Option Int):sIx n d o<=n:=by
 cases o with
 | none=>exact hd
 | some v =>
  show (if v < 0 then (v + (n:Int)).toNat else min v.toNat n)<=n;by_cases hv:v < 0
  ·rw[if_pos hv];omega
  ·rw[if_neg hv];exact Nat.min_le_right _ _
theorem clip_eq (v:Int)(n d:Nat):(if v < 0 then max (v + (n:Int)) 0 else min v (n:Int))=((sIx n d (some v):Nat):Int):=by
 show (if v < 0 then max (v + (n:Int)) 0 else min v (n:Int))=(((if v < 0 then (v + (n:Int)).toNat else min v.toNat n):Nat):Int);by_cases hv:v < 0
 ·simp only[if_pos hv];omega
 ·simp only[if_neg hv];omega
theorem adjust_gen (lo hi:Option Int)(n:Nat):Builtin.Slice.sliceAdjust lo hi 1 (n:Int)=(((sIx n 0 lo:Nat):Int),((sIx n n hi:Nat):Int)):=by
 have h1:¬ ((1:Int) < 0):=by first | lia | omega
 unfold Builtin.Slice.sliceAdjust;simp only[h1,if_false];refine Prod.ext ?_ ?_
 ·cases lo with
  | none=>rfl
  | some v=>exact clip_eq v n 0
 ·cases hi with
  | none=>rfl
  | some v=>exact clip_eq v n n
theorem places_gen (i j:Nat):Builtin.Slice.slicePlaces (i:Int) (j:Int) 1=j - i:=by
 unfold Builtin.Slice.slicePlaces;have h1:(1:Int) > 0:=by first | lia | omega
 simp only[h1,if_true,Int.ediv_one];split <;> omega
theorem slicePart_ {v:Value}{o:Option Int}{Q:Option Int->Shared->Prop}(p:IsPart v o)(h:Q o s):wpAny (model prog w) A (Builtin.Slice.slicePartIndex v) Q E s:=by
 cases p with
 | none=>exact slicePart_none h
 | int i t=>exact slicePart_int h
theorem sliceApplied_gen {sl:Addr}{vl vu:Value}{lo hi:Option Int}{n:Nat}{Q:Int×Int×Nat->Shared->Prop}(hs:s.heap.IsSliceOf sl vl vu .none)(pl:IsPart vl lo)(pu:IsPart vu hi)
  (h:Q (((sIx n 0 lo:Nat):Int),1,sIx n n hi - sIx n 0 lo) s):wpAny (model prog w) A (Builtin.Slice.sliceApplied (.ref sl) (pure (n:Int))) Q E s:=by
 obtain⟨os,hos,hcs,hds⟩:=id hs;unfold Builtin.Slice.sliceApplied Builtin.Slice.sliceFields;refine zy (zy (wpAny_field hos hds (x:=vl) rfl (zy (wpAny_field hos hds (x:=vu) rfl (zy (wpAny_field hos hds (x:=.none) rfl (zq ?_)))))));refine zy (slicePart_none ?_);show wpAny _ _ (if ((1:Int)==0)=true then _ else _) _ _ s;rw[if_neg (by decide)];refine zy (slicePart_ pl (zy (slicePart_ pu (zy (zq ?_)))));show wpAny _ _ (match Builtin.Slice.sliceAdjust lo hi 1 (n:Int) with | (lo,hi)=>pure (lo,(1:Int),Builtin.Slice.slicePlaces lo hi 1)) _ _ s;rw[adjust_gen lo hi n];show wpAny _ _ (pure (((sIx n 0 lo:Nat):Int),(1:Int),Builtin.Slice.slicePlaces ((sIx n 0 lo:Nat):Int) ((sIx n n hi:Nat):Int) 1)) _ _ s;rw[places_gen];exact zq h
theorem pick_gen (xs:Array Value)(i k:Nat):((List.range k).filterMap fun (m:Nat)=>xs[((i:Int) + (m:Int) * 1).toNat]?).toArray=((xs.toList.drop i).take k).toArray:=by
 have e:(fun (m:Nat)=>xs[((i:Int) + (m:Int) * 1).toNat]?)=fun m=>xs[i + m]?:=by
  funext m
  have:((i:Int) + (m:Int) * 1).toNat=i + m:=by first | lia | omega
  rw[this]
 rw[e]
 have:=pick_run xs i k
 rw[xa]at this;have e2:((fun x=>xs[x]?) ∘ fun x=>i + x)=fun m=>xs[i + m]?:=rfl;rw[e2]at this;rw[this]
theorem getItem_tuple_cut {t sl:Addr}{items:Array Value}{vl vu:Value}{lo hi:Option Int}{Q:Value->Shared->Prop}(ht:IsTup s.heap t items)(hs:s.heap.IsSliceOf sl vl vu .none)(pl:IsPart vl lo)(pu:IsPart vu hi)
  (hw:¬ (sIx items.size 0 lo=0/\sIx items.size items.size hi=items.size))
  (h:Q (.ref s.heap.objs.size) { s with heap:=s.heap.push { cls:=.type "tuple",data:=.seq ((items.toList.drop (sIx items.size 0 lo)).take (sIx items.size items.size hi - sIx items.size 0 lo)).toArray } })
  (hsz:items.size<=zj):wpAny (model prog w) A (getItem (.ref t) (.ref sl)) Q E s:=by
 have htake:sizeOk (.seq ((items.toList.drop (sIx items.size 0 lo)).take (sIx items.size items.size hi - sIx items.size 0 lo)).toArray):=by
  show ((items.toList.drop (sIx items.size 0 lo)).take (sIx items.size items.size hi - sIx items.size 0 lo)).toArray.size<=zj;rw[zl,ze,zS,zT];first | lia | omega
 have hj:sIx items.size items.size hi<=items.size:=sIx_le _ _ (zr _) hi;obtain⟨os,hos,hcs,hds⟩:=id hs;have hTs:s.TypeIs (.ref sl) "slice":=⟨os,hos,hcs⟩;unfold getItem
 try with_reducible refine wpAny_holding ?_
 first | refine zy (zq ?_) | skip
 refine zy (wpAny_sequenceKey ht.typeIs (by decide) ?_);refine zy (wpAny_callSpecial?_slot (name:=Str.ofString "__getitem__") ht.typeIs PyProof.Rows.slot_tuple_getitem
  (wpAny_call_entry PyProof.Rows.slot_tuple_getitem ht.typeIs entry_tuple_getitem ?_ (args_tuple_getitem _ _)))
 show wpAny _ _ (Builtin.Tuple.tupleItemsOf (.ref t) >>= _) _ _ s;refine zy (tupleItemsOf_ ht ?_);refine zy (wpAny_typeOf hTs ?_);rw[if_pos (by decide)];refine zy (sliceApplied_gen hs pl pu ?_);have hno:¬ ((((sIx items.size 0 lo:Nat):Int)==0&&(1:Int)==1&&(sIx items.size items.size hi - sIx items.size 0 lo)==items.size)=true):=by
  intro q;rw[zk,zk]at q;have q1:((sIx items.size 0 lo:Nat):Int)=0:=eq_of_beq q.1.1;have q2:sIx items.size items.size hi - sIx items.size 0 lo=items.size:=eq_of_beq q.2;exact hw ⟨by omega,by omega⟩
 show wpAny _ _ (if (((sIx items.size 0 lo:Nat):Int)==0&&(1:Int)==1&&(sIx items.size items.size hi - sIx items.size 0 lo)==items.size)=true then _ else _) _ _ s;rw[if_neg hno,pick_gen]
 first
  | exact zy (m:=Builtin.Tuple.tupleExact _) (wpAny_newObj_type (zq ⟨_,rfl,zq h⟩) htake)
  | exact zy (m:=Builtin.Tuple.tupleExact _) (wpAny_newObj_type (zy (zq (zq ⟨_,rfl,zq h⟩))) htake)
  | exact zy (zy (m:=Builtin.Tuple.tupleExact _) (wpAny_newObj_type (zq (zq ⟨_,rfl,zq h⟩)) htake))
  | exact zy (zy (m:=Builtin.Tuple.tupleExact _) (wpAny_newObj_type (zq ⟨_,rfl,zq h⟩) htake))
end
end HT
namespace L2
open PySem PySem.Spec PyProof.Rows
abbrev TO:=St->Hp->(Option Int->Hp->Prop)->Prop
def PO (X:Cx)(e:Option Expr)(t:TO):Prop :=
 ∀ (pins:List (Addr×Obj)) (s:Shared) (σ:St) (H:Hp) (Q:Option Int->Hp->Prop),Inv X pins σ H s->t σ H Q ->
  wpAny (model X.prog X.w) X.A (evalPart e X.env) (fun u s'=>∃ o H',Inv X pins σ H' s'/\IsPart u o/\Q o H') X.xe s
def tNoPart:TO:=fun _ H Q=>Q none H
def tPart (t:TE):TO:=fun σ H Q=>t σ H fun x H1=>∃ i,x=.int i/\Q (some i) H1
section
variable {X:Cx}{e:Expr}{te:TE}{lo hi:Option Expr}{tl th:TO}{pos p2:Pos}
theorem po_none:PO X none tNoPart:=by
 intro pins s σ H Q I h;rw[evalPart_none];exact zq ⟨none,H,I,.none,h⟩
theorem po_some (h:PE X e te):PO X (some e) (tPart te):=by
 intro pins s σ H Q I hw;rw[evalPart_some];refine thn (h pins s σ H _ I hw) fun u s1 ⟨x,H1,I1,r1,q1⟩=>?_;obtain⟨i,rfl,q⟩:=q1;obtain⟨t,rfl⟩:=r1;exact⟨some i,H1,I1,.int i t,q⟩
def SlR (X:Cx)(r:V->Option Int->Option Int->Hp->VK->Prop):Prop :=
 ∀ (pins:List (Addr×Obj)) (s:Shared) (σ:St) (H:Hp) (x:V) (v vl vu:Value) (lo hi:Option Int) (sl:Addr) (Q:VK),Inv X pins σ H s->RelV x v->s.heap.IsSliceOf sl vl vu .none->IsPart vl lo->IsPart vu hi->r x lo hi H Q ->
  ∃ T id,typeLookup (.type T) "__getitem__" = pure (some (.builtin id))/\s.TypeIs v T/\wpAny (model X.prog X.w) X.A (getItem v (.ref sl)) (EP X pins σ Q) X.xe s
def tSl (r:V->Option Int->Option Int->Hp->VK->Prop)(te:TE)(tl th:TO):TE:=fun σ H Q=>te σ H fun x H1=>tl σ H1 fun l H2=>th σ H2 fun u H3=>r x l u H3 Q
theorem pe_slice {r:V->Option Int->Option Int->Hp->VK->Prop}(hr:SlR X r)(he:PE X e te)(hl:PO X lo tl)(hu:PO X hi th):PE X (.Subscript e (.Slice lo hi none p2) pos) (tSl r te tl th):=by
 intro pins s σ H Q I h;refine Subscript_ (thn (he pins s σ H _ I h) fun v s1 ⟨x,H1,I1,r1,q1⟩=>?_);refine wpAny_Slice (thn (hl pins s1 σ H1 _ I1 q1) fun vl s2 ⟨l,H2,I2,pl,q2⟩=>thn (hu pins s2 σ H2 _ I2 q2) fun vu s3 ⟨u,H3,I3,pu,q3⟩=>?_);rw[evalPart_none];refine zq ?_;have I4:Inv X pins σ H3 { s3 with heap:=s3.heap.push { cls:=.type "slice",data:=.fields #[vl,vu,.none] } }:=I3.kept (t':=s3.toks) fun b ob q=>zo _ q;obtain⟨T,id,hT,ht,hg⟩:=hr pins { s3 with heap:=s3.heap.push { cls:=.type "slice",data:=.fields #[vl,vu,.none] } } σ H3 x v vl vu l u s3.heap.objs.size Q I4 r1 (Heap.IsSliceOf.new ..) pl pu q3;show wpAny (model X.prog X.w) X.A (subscriptTail e (.Slice lo hi none p2) v (.ref s3.heap.objs.size)) (EP X pins σ Q) X.xe { s3 with heap:=s3.heap.push { cls:=.type "slice",data:=.fields #[vl,vu,.none] } };exact tail_any (ops:=[.ref s3.heap.objs.size,v]) ht hT hg (by with_unfolding_all rfl)
def cutV (xs:List V)(lo hi:Option Int):List V:=(xs.drop (HT.sIx xs.length 0 lo)).take (HT.sIx xs.length xs.length hi - HT.sIx xs.length 0 lo)
theorem cutV_length (xs:List V)(lo hi:Option Int):(cutV xs lo hi).length<=xs.length:=by
 unfold cutV;rw[ze,zS];first | lia | omega
def rSlT (K:PySem.W.Frag):V->Option Int->Option Int->Hp->VK->Prop:=fun x lo hi H Q=>∃ a xs,x=.ref a/\SqT K H a xs /\
 ¬ (HT.sIx xs.length 0 lo=0/\HT.sIx xs.length xs.length hi=xs.length)/\∀ p,H p=none->Q (.ref p) (upd H p (.tup (cutV xs lo hi)))
theorem sl_tup:SlR X (rSlT X.K):=by
 intro pins s σ H x v vl vu lo hi sl Q I rx hs pl pu h;obtain⟨a,xs,rfl,hx,hw,q⟩:=h;cases rx;obtain⟨its,r,ht,hz⟩:=I.tuple hx;have hlen:its.toArray.size=xs.length:=by rw[zl];exact r.length.symm
 refine⟨"tuple",_,PyProof.Rows.slot_tuple_getitem.lookup,ht.typeIs,?_⟩;refine HT.getItem_tuple_cut ht hs pl pu (by rw[hlen];exact hw) ?_ (by rw[hlen];exact hz);rw[hlen];refine⟨.ref s.heap.objs.size,_,I.laid (t':=s.toks) (o:=.tup (cutV xs lo hi)) (fun b ob q=>zo _ q) (zr _) ?_,rfl,q _ (I.hok.fresh (zr _))⟩;exact⟨zK (cutV_length xs lo hi) hz,_,(r.drop (HT.sIx xs.length 0 lo)).take (HT.sIx xs.length xs.length hi - HT.sIx xs.length 0 lo),TupN.new _ _⟩
def rCatT (K:PySem.W.Frag):R2:=fun x y H Q=>∃ a b xs ys,x=.ref a/\y=.ref b/\SqT K H a xs/\SqT K H b ys/\xs≠[]/\xs.length + ys.length<=zj /\
 (ys=[]->Q (.ref a) H)/\(ys≠[]->∀ p,H p=none->Q (.ref p) (upd H p (.tup (xs++ys))))
theorem Vals.nil_iff {xs:List V}{us:List Value}(r:Vals xs us):us=[] ↔ xs=[]:=by
 cases r with
 | nil=>simp
 | cons _ _=>simp
theorem op_catT:OpR X (binaryOp .Add) (rCatT X.K):=by
 intro pins s σ H x y v u Q I rx ry h;obtain⟨a,b,xs,ys,rfl,rfl,ha,hb,hx,hz,q1,q2⟩:=h;cases rx;cases ry;obtain⟨its,r1,p1,_⟩:=I.tuple ha;obtain⟨its2,r2,p2,_⟩:=I.tuple hb;refine HT.cat_tup p1 p2 (fun z=>hx (r1.nil_iff.mp z)) (fun z=>⟨.ref a,H,I,rfl,q1 (r2.nil_iff.mp z)⟩) (fun z=>?_) (by rw[<- r1.length,<- r2.length];exact hz);refine⟨.ref s.heap.objs.size,_,I.laid (t':=s.toks) (o:=.tup (xs++ys)) (fun b ob q=>zo _ q) (zr _) ?_,rfl,q2 (fun w=>z (r2.nil_iff.mpr w)) _ (I.hok.fresh (zr _))⟩;exact⟨by rw[zt];exact hz,_,r1.append r2,TupN.new _ _⟩
end
end L2
namespace L2
open PySem PySem.Spec PyProof.Rows
def ixN (n:Nat)(i:Int):Option Nat:=if 0<=i then (if i < n then some i.toNat else none) else if -(n:Int)<=i then some (i + n).toNat else none
def atI {α:Type}(xs:List α)(i:Int):Option α:=(ixN xs.length i).bind fun j=>xs[j]?
theorem ixN_seq {n:Nat}{i:Int}{j:Nat}(h:ixN n i=some j):seqIndex? i n=some j/\j < n/\-(n:Int)<=i/\i < n:=by
 unfold ixN at h;by_cases h0:0<=i
 ·rw[if_pos h0]at h
  by_cases h1:i < n
  ·rw[if_pos h1]at h
   have e:i.toNat=j:=Option.some.inj h;exact⟨by rw[seqIndex_of h0 h1,e],by omega,by omega,h1⟩
  ·rw[if_neg h1]at h;cases h
 ·rw[if_neg h0]at h
  by_cases h1:-(n:Int)<=i
  ·rw[if_pos h1]at h
   have e:(i + n).toNat=j:=Option.some.inj h;exact⟨by rw[seqIndex_neg (by first | lia | omega) h1,e],by omega,h1,by omega⟩
  ·rw[if_neg h1]at h;cases h
theorem atI_get {α:Type}{xs:List α}{i:Int}{v:α}(h:atI xs i=some v):∃ j,seqIndex? i xs.length=some j/\xs[j]?=some v/\j < xs.length/\-(xs.length:Int)<=i/\i < xs.length:=by
 unfold atI at h;cases e:ixN xs.length i with
 | none=>rw[e]at h;cases h
 | some j =>
  rw[e]at h;obtain⟨h1,h2,h3,h4⟩:=ixN_seq e;exact⟨j,h1,h,h2,h3,h4⟩
def PlainIx (b:Expr):Prop:=∀ o i,subscripted b false o i=operate [o,i] (getItem o i)
def IxR (X:Cx)(r:R2):Prop :=
 ∀ (value slice:Expr) (pins:List (Addr×Obj)) (s:Shared) (σ:St) (H:Hp) (x y:V) (v u:Value) (Q:VK),Inv X pins σ H s->RelV x v->RelV y u->r x y H Q ->
  subscripted slice false v u=operate [v,u] (getItem v u)->wpAny (model X.prog X.w) X.A (subscriptTail value slice v u) (EP X pins σ Q) X.xe s
def MtR (X:Cx)(id:String)(r:V->List V->Hp->VK->Prop):Prop :=
 ∀ (pins:List (Addr×Obj)) (s:Shared) (σ:St) (H:Hp) (x:V) (xs:List V) (v:Value) (us:List Value) (Q:VK),Inv X pins σ H s->RelV x v->Vals xs us->r x xs H Q ->
  wpAny (model X.prog X.w) X.A (call (.builtin id) (v::us)) (EP X pins σ Q) X.xe s
section
variable {X:Cx}{a b:Expr}{ta tb:TE}{pos:Pos}
theorem pe_ix {r:R2}(hr:IxR X r)(ha:PE X a ta)(hb:PE X b tb)(hs:PlainIx b):PE X (.Subscript a b pos) (tOp r ta tb):=by
 intro pins s σ H Q I h;exact Subscript_ (binT ha hb I h fun v u s2 x y H2 I2 rx ry q=>hr a b pins s2 σ H2 x y v u Q I2 rx ry q (hs _ _))
def rIxL (K:PySem.W.Frag):R2:=fun x y H Q=>∃ p xs i v,x=.ref p/\y=.int i/\SqL K H p xs/\atI xs i=some v/\Q v H
def rIxT (K:PySem.W.Frag):R2:=fun x y H Q=>∃ p xs i v,x=.ref p/\y=.int i/\SqT K H p xs/\atI xs i=some v/\Q v H
def rIxS:R2:=fun x y H Q=>∃ z i c,x=.str z/\y=.int i/\z.length<=zj/\atI z.cps.toList i=some c/\Q (.str ⟨#[c]⟩) H
theorem ix_list:IxR X (rIxL X.K):=by
 intro value slice pins s σ H x y v u Q I rx ry h hs;obtain⟨p,xs,i,z,rfl,rfl,hq,he,q⟩:=h;cases rx;obtain⟨t,rfl⟩:=ry;obtain⟨its,r,pl,hz⟩:=I.list hq;obtain⟨j,h1,h2,h3,h4,h5⟩:=atI_get he;obtain⟨w,ew,rw'⟩:=r.get h2;have hl:=r.length;have hn:=line63;have fin:EP X pins σ Q w s:=⟨z,H,I,rw',q⟩;by_cases h0:0<=i
 ·have hj:i.toNat=j:=by
   rw[seqIndex_of h0 h5]at h1;exact Option.some.inj h1
  exact item_listR pl.isList h0 (by first | lia | omega) (by rw[hj];simpa using ew) fin hs
 ·have hj:(i + (its.toArray.size:Int)).toNat=j:=by
   rw[seqIndex_neg (by first | lia | omega) h4]at h1
   rw[zl,<- hl];exact Option.some.inj h1
  exact subscriptTail_builtinR (x:=w) pl.isList.typeIs slot_list_getitem.lookup
   (wpAny_getItem_list_neg (Q:=fun r s'=>r=w/\EP X pins σ Q r s') pl.isList (by first | lia | omega) (by rw[zl] <;> omega) (by first | lia | omega) (by rw[hj];simpa using ew) ⟨rfl,fin⟩) hs
theorem ix_tup:IxR X (rIxT X.K):=by
 intro value slice pins s σ H x y v u Q I rx ry h hs;obtain⟨p,xs,i,z,rfl,rfl,hq,he,q⟩:=h;cases rx;obtain⟨t,rfl⟩:=ry;obtain⟨its,r,pl,hz⟩:=I.tuple hq;obtain⟨j,h1,h2,h3,h4,h5⟩:=atI_get he;obtain⟨w,ew,rw'⟩:=r.get h2;have hl:=r.length;have hn:=line63;have fin:EP X pins σ Q w s:=⟨z,H,I,rw',q⟩;exact subscriptTail_builtinR (x:=w) pl.typeIs slot_tuple_getitem.lookup
  (getItem_tuple (j:=j) (Q:=fun r s'=>r=w/\EP X pins σ Q r s') pl (by first | lia | omega) (by first | lia | omega) (by rw[zl,<- hl];exact h1) (by simpa using ew) ⟨rfl,fin⟩) hs
theorem ix_str:IxR X rIxS:=by
 intro value slice pins s σ H x y v u Q I rx ry h hs;obtain⟨z,i,c,rfl,rfl,hz,he,q⟩:=h;obtain⟨t,rfl⟩:=rx;obtain⟨t',rfl⟩:=ry;obtain⟨j,h1,h2,h3,h4,h5⟩:=atI_get he;have hl:z.cps.toList.length=z.length:=by simp[Str.length]
 rw[hl]at h1 h4 h5;have hn:=line63;exact tail_any (typeIs_str s z t) slot_str_getitem.lookup (getItem_str (c:=c) (by
  have e1:decide (i < -(2 ^ 63:Int))=false:=decide_eq_false (by first | lia | omega)
  have e2:decide (i ≥ 2 ^ 63)=false:=decide_eq_false (by first | lia | omega)
  rw[e1,e2,wk]) (by rw[h1];simpa using h2) ⟨.str ⟨#[c]⟩,H,I.tok _,⟨_,rfl⟩,q⟩) hs
theorem mapSeq_set (its:List Value)(n j:Nat)(u:Value):Obj.mapSeq (·.setIfInBounds j u) { cls:=.type "list",data:=.seq its.toArray n } = { cls:=.type "list",data:=.seq (its.set j u).toArray n }:=by
 simp[Obj.mapSeq]
theorem Inv.lst {pins:List (Addr×Obj)}{σ:St}{H:Hp}{s:Shared}{p:Addr}{xs:List V}(I:Inv X pins σ H s)(h:H p=some (.lst xs)) :
  ∃ (its:List Value) (n:Nat),Vals xs its/\s.heap.get? p=some { cls:=.type "list",data:=.seq its.toArray n }/\xs.length<=zj:=by
 obtain⟨z,its,n,r,e⟩:=I.hok p _ h;exact⟨its,n,r,e,z⟩
theorem Inv.lstUpd {pins:List (Addr×Obj)}{σ:St}{H:Hp}{s:Shared}{p:Addr}{xs ys:List V}{its its':List Value}{n n':Nat}{f:Obj->Obj}(I:Inv X pins σ H s)(h:H p=some (.lst xs))
  (ho:s.heap.get? p=some { cls:=.type "list",data:=.seq its.toArray n }) (hf:f { cls:=.type "list",data:=.seq its.toArray n } = { cls:=.type "list",data:=.seq its'.toArray n' }) (r:Vals ys its') (hz:ys.length<=zj) (t:Nat) :
  Inv X pins σ (upd H p (.lst ys)) { s with heap:=s.heap.update p f,toks:=t }:=by
 have e:(s.heap.update p f).get? p=some { cls:=.type "list",data:=.seq its'.toArray n' }:=by
  rw[ym f ho (by rw[hf] <;> rfl),hf]
 refine I.write (x:=p) (e:=p) (by rw[h];trivial) (.inl rfl) (fun b u hb q=>(yi _ _ (Ne.symm hb)).trans q) ⟨_,e⟩ ?_;exact⟨hz,its',n',r,e⟩
def rSetL:V->V->V->Hp->(Hp->Prop)->Prop:=fun o i v H Q=>∃ p xs k j,o=.ref p/\i=.int k/\H p=some (.lst xs)/\ixN xs.length k=some j/\Q (upd H p (.lst (xs.set j v)))
theorem set_list:PSet X rSetL:=by
 intro pins s σ H o i v ov iv u Q I ro ri rv h;obtain⟨p,xs,k,j,rfl,rfl,hp,hj,q⟩:=h;cases ro;obtain⟨t,rfl⟩:=ri;obtain⟨its,n,r,ho,hz⟩:=I.lst hp;obtain⟨h1,h2,h3,h4⟩:=ixN_seq hj;have hl:=r.length;have hn:=line63;have I':Inv X pins σ (upd H p (.lst (xs.set j v))) { s with heap:=s.heap.update p (Obj.mapSeq (·.setIfInBounds j u)) } :=
  I.lstUpd hp ho (mapSeq_set its n j u) (r.set rv j) (by rw[zQ];exact hz) s.toks
 by_cases h0:0<=k
 ·have hk:k.toNat=j:=by
   rw[seqIndex_of h0 h4]at h1;exact Option.some.inj h1
  exact PySem.W.ki_setAt ho h0 (by first | lia | omega) (by rw[zl,<- hl];exact h4) (by rw[hk];exact⟨_,I',q⟩)
 ·have hk:(k + (its.toArray.size:Int)).toNat=j:=by
   rw[seqIndex_neg (by first | lia | omega) h3]at h1
   rw[zl,<- hl];exact Option.some.inj h1
  exact PySem.W.ki_setBack ho (by first | lia | omega) (by rw[zl,<- hl];exact h3) (by first | lia | omega) (by rw[hk];exact⟨_,I',q⟩)
theorem slice_bounds (lo hi:Option Int)(n:Nat):(sliceBounds lo hi none n).1=((HT.sIx n 0 lo:Nat):Int)/\(sliceBounds lo hi none n).2.1=((HT.sIx n n hi:Nat):Int)/\(sliceBounds lo hi none n).2.2=1:=by
 refine⟨?_,?_,rfl⟩
 ·cases lo with
  | none=>simp[sliceBounds,HT.sIx]
  | some i =>
   simp only[sliceBounds,HT.sIx,wL,show (1:Int) > 0 by decide,if_true];by_cases h:i < 0
   ·simp only[h,if_true] <;> omega
   ·simp only[h,if_false] <;> omega
 ·cases hi with
  | none=>simp[sliceBounds,HT.sIx]
  | some i =>
   simp only[sliceBounds,HT.sIx,wL,show (1:Int) > 0 by decide,if_true];by_cases h:i < 0
   ·simp only[h,if_true] <;> omega
   ·simp only[h,if_false] <;> omega
theorem slicePick_cut (its:List Value)(lo hi:Option Int):slicePick its.toArray lo hi none=((its.drop (HT.sIx its.length 0 lo)).take (HT.sIx its.length its.length hi - HT.sIx its.length 0 lo)).toArray:=by
 obtain⟨h1,h2,h3⟩:=slice_bounds lo hi its.toArray.size;unfold slicePick;rw[h1,h2,h3];simp only[sliceRange_one,pick_run,zl] <;> rfl
def rSlL (K:PySem.W.Frag):V->Option Int->Option Int->Hp->VK->Prop:=fun x lo hi H Q=>∃ a xs,x=.ref a/\SqL K H a xs/\∀ p,H p=none->Q (.ref p) (upd H p (.lst (cutV xs lo hi)))
theorem sl_list:SlR X (rSlL X.K):=by
 intro pins s σ H x v vl vu lo hi sl Q I rx hs pl pu h;obtain⟨a,xs,rfl,hx,q⟩:=h;cases rx;obtain⟨its,r,ht,hz⟩:=I.list hx;have hlen:=r.length;refine⟨"list",_,slot_list_getitem.lookup,ht.isList.typeIs,?_⟩;refine wpAny_getItem_list_slice ht.isList hs pl pu .none (by simp) ?_ (by rw[zl] <;> omega);rw[slicePick_cut,<- hlen];refine⟨.ref s.heap.objs.size,_,I.laid (t':=s.toks) (o:=.lst (cutV xs lo hi)) (fun b ob q=>zo _ q) (zr _) ?_,rfl,q _ (I.hok.fresh (zr _))⟩;exact⟨zK (cutV_length xs lo hi) hz,_,0,(r.drop (HT.sIx xs.length 0 lo)).take (HT.sIx xs.length xs.length hi - HT.sIx xs.length 0 lo),zc _ rfl⟩
def flatV:V->Bool
 | .non=>true
 | .bl _=>true
 | .int _=>true
 | .str _=>true
 | _=>false
def eqV:V->V->Bool
 | .non,.non=>true
 | .bl a,.bl b=>a==b
 | .bl a,.int b=>(if a then 1 else 0)==b
 | .int a,.bl b=>a==(if b then 1 else 0)
 | .int a,.int b=>a==b
 | .str a,.str b=>a==b
 | _,_=>false
theorem eqAt_V {A:Around}{s:Shared}{y x:V}{u v:Value}(ry:RelV y u)(rx:RelV x v)(fy:flatV y=true)(fx:flatV x=true):SeqAt.EqAt A s u v (eqV y x):=by
 cases y with
 | non =>
  cases ry;cases x with
  | non=>cases rx;exact SeqAt.EqAt.same _
  | bl b=>cases rx;exact SeqAt.EqAt.none_bool b
  | int b=>obtain⟨t,rfl⟩:=rx;exact SeqAt.EqAt.none_int b t
  | str b=>obtain⟨t,rfl⟩:=rx;exact SeqAt.EqAt.none_str b t
  | _=>exact absurd (show false=true from fx) zh
 | bl a =>
  cases ry;cases x with
  | non=>cases rx;exact SeqAt.EqAt.bool_none a
  | bl b=>cases rx;exact SeqAt.EqAt.bool_bool a b
  | int b=>obtain⟨t,rfl⟩:=rx;exact SeqAt.EqAt.bool_int a b t
  | str b=>obtain⟨t,rfl⟩:=rx;exact SeqAt.EqAt.bool_str a b t
  | _=>exact absurd (show false=true from fx) zh
 | int a =>
  obtain⟨t',rfl⟩:=ry;cases x with
  | non=>cases rx;exact SeqAt.EqAt.int_none a t'
  | bl b=>cases rx;exact SeqAt.EqAt.int_bool a t' b
  | int b=>obtain⟨t,rfl⟩:=rx;exact SeqAt.EqAt.int_int a t' b t
  | str b=>obtain⟨t,rfl⟩:=rx;exact SeqAt.EqAt.int_str a t' b t
  | _=>exact absurd (show false=true from fx) zh
 | str a =>
  obtain⟨t',rfl⟩:=ry;cases x with
  | non=>cases rx;exact SeqAt.EqAt.str_none a t'
  | bl b=>cases rx;exact SeqAt.EqAt.str_bool a t' b
  | int b=>obtain⟨t,rfl⟩:=rx;exact SeqAt.EqAt.str_int a t' b t
  | str b=>obtain⟨t,rfl⟩:=rx;exact SeqAt.EqAt.str_str a t' b t
  | _=>exact absurd (show false=true from fx) zh
 | _=>exact absurd (show false=true from fy) zh
theorem call_len_seq:CallR X (.builtin "len") (fun xs H Q=>∃ p ys,xs=[.ref p]/\(SqL X.K H p ys\/SqT X.K H p ys)/\Q (.int ys.length) H):=by
 intro pins s σ H xs us Q I r h;obtain⟨p,ys,rfl,hq,q⟩:=h;obtain⟨u,rfl,rx⟩:=vals1 r;cases rx;have hn:=line63;rcases hq with hq | hq
 ·obtain⟨its,r',pl,hz⟩:=I.list hq
  have hlen:=r'.length;exact Calls.call_len_list pl.isList (by simp only[zl] <;> omega) ⟨.int ys.length,H,I.tok _,⟨s.toks + 1,by rw[zl,hlen]⟩,q⟩
 ·obtain⟨its,r',pl,hz⟩:=I.tuple hq
  have hlen:=r'.length;exact len_tuple pl (by simp only[zl] <;> omega) ⟨.int ys.length,H,I.tok _,⟨s.toks + 1,by rw[zl,hlen]⟩,q⟩
theorem call_len_str:CallR X (.builtin "len") (fun xs H Q=>∃ z,xs=[.str z]/\z.length<=zj/\Q (.int z.length) H):=by
 intro pins s σ H xs us Q I r h;obtain⟨z,rfl,hz,q⟩:=h;obtain⟨u,rfl,t,rfl⟩:=vals1 r;have hn:=line63;exact len_str (by first | lia | omega) ⟨.int z.length,H,I.tok _,⟨_,rfl⟩,q⟩
theorem call_list_of:CallR X (.type "list") (fun xs H Q=>∃ p ys,xs=[.ref p]/\(SqL X.K H p ys\/SqT X.K H p ys)/\∀ l,H l=none->Q (.ref l) (upd H l (.lst ys))):=by
 intro pins s σ H xs us Q I r h;obtain⟨p,ys,rfl,hq,q⟩:=h;obtain⟨u,rfl,rx⟩:=vals1 r;cases rx;have fin:∀ (its:List Value),Vals ys its->ys.length<=zj->∀ (h':Heap) (c':Nat),(∀ b o',s.heap.get? b=some o'->h'.get? b=some o') ->
   h'.get? s.heap.objs.size=some { cls:=.type "list",dict:=none,data:=.seq its.toArray c',slots:=#[] }->EP X pins σ Q (.ref s.heap.objs.size) { s with heap:=h' }:=fun its r' hz h' c' kp e =>
  ⟨.ref s.heap.objs.size,_,I.laid (t':=s.toks) kp (zr _) (show ObjOk X.prog X.w _ h' _ (.lst ys) from ⟨hz,its,c',r',e⟩),rfl,q _ (I.hok.fresh (zr _))⟩
 rcases hq with hq | hq
 ·obtain⟨its,r',pl,hz⟩:=I.list hq
  have hlen:=r'.length;obtain⟨o,ho,hc,n,hd⟩:=pl.isList;exact call_list_seq p (.inl rfl) ho hc hd (fun h' c' kp e=>fin its r' hz h' c' kp e) (by simp only[zl] <;> omega)
 ·obtain⟨its,r',pl,hz⟩:=I.tuple hq
  have hlen:=r'.length;obtain⟨o,ho,hc,n,hd⟩:=pl;exact call_list_seq p (.inr rfl) ho hc hd (fun h' c' kp e=>fin its r' hz h' c' kp e) (by simp only[zl] <;> omega)
theorem call_tuple_of:CallR X (.type "tuple") (fun xs H Q=>∃ p ys,xs=[.ref p]/\((SqL X.K H p ys/\∀ l,H l=none->Q (.ref l) (upd H l (.tup ys)))\/(SqT X.K H p ys/\Q (.ref p) H))):=by
 intro pins s σ H xs us Q I r h;obtain⟨p,ys,rfl,h⟩:=h;obtain⟨u,rfl,rx⟩:=vals1 r;cases rx;rcases h with ⟨hq,q⟩|⟨hq,q⟩
 ·obtain⟨its,r',pl,hz⟩:=I.list hq
  have hlen:=r'.length;refine call_tuple_list pl.isList (fun h' kp=>?_) (by simp only[zl] <;> omega);have I1:Inv X pins σ H { s with heap:=h' }:=I.kept (t':=s.toks) kp;have I2:Inv X pins σ (upd H h'.objs.size (.tup ys)) { s with heap:=h'.push { cls:=.type "tuple",data:=.seq its.toArray } } :=
   I1.laid (t':=s.toks) (fun b o e=>zo _ e) (zr _) (show ObjOk X.prog X.w _ _ _ (.tup ys) from ⟨hz,its,r',TupN.new _ _⟩)
  exact⟨.ref h'.objs.size,_,I2,rfl,q _ (I1.hok.fresh (zr _))⟩
 ·obtain⟨its,r',pl,hz⟩:=I.tuple hq
  exact call_tuple_same pl ⟨.ref p,H,I,rfl,q⟩
def tyV (K:PySem.W.Frag)(T:String)(x:V)(H:Hp):Prop:=match x with
 | .str _=>T = "str"
 | .int _=>T = "int"
 | .ref p=>(T = "list"/\∃ xs,SqL K H p xs)\/(T = "tuple"/\∃ o,K.lookup p=some o/\o.cls=.type "tuple"/\o.dict=none) \/
   (T = "dict"/\((∃ kvs,H p=some (.dK kvs))\/∃ kvs,H p=some (.dT kvs)))\/(T = "set"/\∃ S n,H p=some (.set S n))
 | _=>False
theorem tyV_is {pins:List (Addr×Obj)}{σ:St}{H:Hp}{s:Shared}{T:String}{x:V}{v:Value}(I:Inv X pins σ H s)(r:RelV x v)(ty:tyV X.K T x H) :
  s.TypeIs v T/\∀ a,v=.ref a->∃ ob,s.heap.get? a=some ob/\ob.dict=none:=by
 cases x with
 | str z =>
  obtain⟨t,rfl⟩:=r;cases (show T = "str" from ty);exact⟨typeIs_str s z t,fun _ e=>nomatch e⟩
 | int i =>
  obtain⟨t,rfl⟩:=r;cases (show T = "int" from ty);exact⟨typeIs_int s i t,fun _ e=>nomatch e⟩
 | ref p =>
  cases r;rcases ty with ⟨rfl,xs,hq⟩|⟨rfl,o,hk,hc,hd⟩|⟨rfl,hk⟩|⟨rfl,S,n,hk⟩
  ·obtain⟨its,_,pl,_⟩:=I.list hq
   refine⟨pl.isList.typeIs,fun a e=>?_⟩;cases e;obtain⟨o,n,e,c,hd,_⟩:=pl;exact⟨o,e,hd⟩
  ·refine⟨⟨o,I.kIn p o hk,hc⟩,fun a e=>?_⟩
   cases e;exact⟨o,I.kIn _ o hk,hd⟩
  ·have z:∃ o,s.heap.get? p=some o/\o.ExactDict:=by
    rcases hk with ⟨kvs,hk⟩|⟨kvs,hk⟩
    ·obtain⟨_,_,_,_,o,_,_,e,ex,_⟩:=I.hok p _ hk
     exact⟨o,e,ex⟩
    ·obtain⟨_,_,_,_,o,_,_,e,ex,_⟩:=I.hok p _ hk
     exact⟨o,e,ex⟩
   obtain⟨o,e,ex⟩:=z;refine⟨⟨o,e,ex.1⟩,fun a e2=>?_⟩;cases e2;exact⟨o,e,ex.2.1⟩
  ·obtain⟨o,_,_,_,e,ex,_⟩:=I.hok p _ hk
   refine⟨⟨o,e,ex.1⟩,fun a e2=>?_⟩;cases e2;exact⟨o,e,ex.2.1⟩
 | _=>exact False.elim ty
def tBM0 (K:PySem.W.Frag)(T:String)(r:V->List V->Hp->VK->Prop)(to:TE):TE:=fun σ H Q=>to σ H fun x H1=>tyV K T x H1/\r x [] H1 Q
variable {o e:Expr}{es:List Expr}{to:TE}{t:TA}{name:Str}{apos cpos:Pos}{T id:String}{r:V->List V->Hp->VK->Prop}
theorem pe_bm0 (pa:PlainAttrs T)(slot:Slot T name id)(hty:typeOf (.builtin id)=pure (.type "method_descriptor"))(hm:MtR X id r)(ho:PE X o to)
  (hbase:attributeBase o name X.env (eval o X.env)=eval o X.env:=by rfl) (hline:(apos.endLine==cpos.line)=true:=by rfl):PE X (.Call (.Attribute o name apos) [] [] cpos) (tBM0 X.K T r to):=by
 intro pins s σ H Q I h;refine wpAny_Call_method0_late hbase hline (thn (ho pins s σ H _ I h) fun v s1 ⟨x,H1,I1,r1,ty,q1⟩=>?_);obtain⟨h1,h2⟩:=tyV_is I1 r1 ty;exact⟨T,id,pa,slot,hty,h1,h2,Calls.callWith_builtin rfl (PySem.evalArgs_none (hm pins s1 σ H1 x [] v [] Q I1 r1 .nil q1))⟩
/- xs.append(e),list.index on a module's tuple .. are MtR facts of 06m -/
end
end L2
namespace L2
open PySem PySem.Spec PyProof.Rows
def MtM (X:Cx)(id:String)(r:V->List V->Hp->VK->Prop):Prop :=
 ∀ (pins:List (Addr×Obj)) (s:Shared) (σ:St) (H:Hp) (x:V) (xs:List V) (v:Value) (us:List Value) (Q:VK),Inv X pins σ H s->RelV x v->Vals xs us->r x xs H Q ->
  wpAny (model X.prog X.w) X.A (call (.builtin id) (v::us)) (EP X pins σ Q) X.xe s
theorem Vals.one:∀ {x:V} {us:List Value},Vals [x] us->∃ u,us=[u]/\RelV x u
 | _,_,.cons r .nil=>⟨_,rfl,r⟩
theorem Vals.two:∀ {x y:V} {us:List Value},Vals [x,y] us->∃ u v,us=[u,v]/\RelV x u/\RelV y v:=by
 intro x y us h;cases h with
 | cons r h =>
 cases h with
 | cons q h =>
 cases h;exact⟨_,_,rfl,r,q⟩
theorem Vals.dropLast {xs:List V}{us:List Value}(h:Vals xs us):Vals xs.dropLast us.dropLast:=by
 induction h with
 | nil=>exact .nil
 | cons r t ih =>
  cases t with
  | nil=>exact .nil
  | cons q t'=>exact .cons r ih
theorem Vals.reverse {xs:List V}{us:List Value}(h:Vals xs us):Vals xs.reverse us.reverse:=by
 induction h with
 | nil=>exact .nil
 | cons r t ih=>rw[xu,xu];exact Vals.append ih (.cons r .nil)
theorem erase_last {α:Type}(l:List α):l.eraseIdx (l.length - 1)=l.dropLast:=by
 induction l with
 | nil=>rfl
 | cons a r ih =>
  cases r with
  | nil=>rfl
  | cons b r =>
   have e:(a::b::r).length - 1=((b::r).length - 1) + 1:=by
    have h1:(a::b::r).length=r.length + 2:=rfl;have h2:(b::r).length=r.length + 1:=rfl;first | lia | omega
   rw[e,List.eraseIdx_cons_succ,ih]
   all_goals rfl
section
variable {X:Cx}{pins:List (Addr×Obj)}{σ:St}{H:Hp}{s:Shared}{l b:Addr}{xs ys zs:List V}
theorem Inv.lset {its its':List Value}{n:Nat}{f:Array Value->Array Value}{t':Nat}(I:Inv X pins σ H s)(hH:H l=some (.lst xs))
  (e:s.heap.get? l=some { cls:=.type "list",data:=.seq its.toArray n }) (hf:f its.toArray=its'.toArray) (hv:Vals ys its') (hz:ys.length<=zj) :
  Inv X pins σ (upd H l (.lst ys)) { s with heap:=s.heap.update l (Obj.mapSeq f),toks:=t' }:=by
 have q:=PySem.IsL.update e f;rw[hf]at q;refine I.write (x:=l) (e:=l) (by rw[hH];exact trivial) (.inl rfl) (fun b' u hb hu=>(yi s.heap (Obj.mapSeq f) (Ne.symm hb)).trans hu) ⟨_,q⟩ ?_;exact⟨hz,its',_,hv,q⟩
theorem Inv.lnew {its:List Value}{t':Nat}(I:Inv X pins σ H s)(hv:Vals ys its)(hz:ys.length<=zj) :
  Inv X pins σ (upd H s.heap.objs.size (.lst ys)) { s with heap:=s.heap.push { cls:=.type "list",data:=.seq its.toArray },toks:=t' } :=
 I.laid (fun _ _ q=>zo _ q) (zr _) ⟨hz,its,0,hv,zc _ rfl⟩
theorem Inv.fresh (I:Inv X pins σ H s):H s.heap.objs.size=none:=I.hok.fresh (zr _)
theorem Inv.lstM (I:Inv X pins σ H s)(hH:H l=some (.lst xs)):xs.length<=zj/\∃ (its:List Value) (n:Nat),Vals xs its/\xs.length=its.length/\s.heap.get? l=some { cls:=.type "list",data:=.seq its.toArray n }:=by
 obtain⟨z,its,n,r,e⟩:=I.hok l _ hH;exact⟨z,its,n,r,r.length,e⟩
theorem notLongL {n:Nat}(h:n<=zj):Builtin.List.listTooLong n=false:=by
 unfold Builtin.List.listTooLong;exact decide_eq_false (by first | lia | omega)
end
section
variable {X:Cx}
def rAppend:V->List V->Hp->VK->Prop:=fun x vs H Q=>∃ l xs y,x=.ref l/\vs=[y]/\H l=some (.lst xs)/\xs.length < zj/\Q .non (upd H l (.lst (xs++[y])))
theorem mt_append:MtM X "list.append" rAppend:=by
 intro pins s σ H x vs v us Q I rx rv h;obtain⟨l,xs,y,rfl,rfl,hH,hz,q⟩:=h;cases rx;obtain⟨u,rfl,ru⟩:=rv.one;obtain⟨z,its,n,r,hl,e⟩:=I.lstM hH;refine call_meets F.slot_list_append ⟨_,e,rfl⟩ F.entry_list_append (F.args_list_append_2 _ _) (PySem.list_append l its.toArray n u (by rw[zl];omega)) ⟨e,?_⟩;refine⟨.non,_,I.lset (its':=its++[u]) hH e (by simp) (r.append (.cons ru .nil)) ?_,rfl,q⟩;rw[zt,xl];first | lia | omega
def rExtend:V->List V->Hp->VK->Prop:=fun x vs H Q=>∃ l b xs zs,x=.ref l/\vs=[.ref b]/\H l=some (.lst xs)/\H b=some (.lst zs)/\xs.length + zs.length<=zj/\Q .non (upd H l (.lst (xs++zs)))
theorem mt_extend:MtM X "list.extend" rExtend:=by
 intro pins s σ H x vs v us Q I rx rv h;obtain⟨l,b,xs,zs,rfl,rfl,hH,hB,hz,q⟩:=h;cases rx;obtain⟨u,rfl,ru⟩:=rv.one;cases ru;obtain⟨z,its,n,r,hl,e⟩:=I.lstM hH;obtain⟨z2,its2,n2,r2,hl2,e2⟩:=I.lstM hB;have hsz:its.toArray.size + its2.toArray.size<=zj:=by rw[zl,zl];omega
 have hlong:¬ (!its.toArray.isEmpty&&Builtin.List.listTooLong (its.toArray.size + its2.toArray.size))=true:=by
  rw[notLongL hsz,xA];exact zh
 refine call_meets F.slot_list_extend ⟨_,e,rfl⟩ F.entry_list_extend (F.args_list_extend_2 _ _)
  (AutoSeq1.list_extend_list_list_0 l its.toArray n b its2.toArray n2 hlong (by rw[zl];omega) (by first | lia | omega)) ⟨e,e2,?_⟩
 refine⟨.non,_,I.lset (its':=its++its2) hH e (by simp) (r.append r2) ?_,rfl,q⟩;rw[zt];first | lia | omega
def rCat:R2:=fun x y H Q=>∃ l b xs zs,x=.ref l/\y=.ref b/\H l=some (.lst xs)/\H b=some (.lst zs)/\xs.length + zs.length<=zj/\∀ p,H p=none->Q (.ref p) (upd H p (.lst (xs++zs)))
theorem op_cat:OpR X (binaryOp .Add) rCat:=by
 intro pins s σ H x y v u Q I rx ry h;obtain⟨l,b,xs,zs,rfl,rfl,hH,hB,hz,q⟩:=h;cases rx;cases ry;obtain⟨z,its,n,r,hl,e⟩:=I.lstM hH;obtain⟨z2,its2,n2,r2,hl2,e2⟩:=I.lstM hB;refine PySem.P.add_list e e2 ?_ (by rw[zl,zl];omega);have ea:its.toArray++its2.toArray=(its++its2).toArray:=by simp
 rw[ea];exact⟨.ref _,_,I.lnew (t':=s.toks) (r.append r2) (by rw[zt];omega),rfl,q _ I.fresh⟩
end
section
variable {prog:Program}{w:World}{A:Around}{E:Value->Shared->Prop}{s:Shared}
set_option maxRecDepth 100000 in
end
section
variable {X:Cx}
end
end L2
namespace L2
open PySem PySem.Spec PyProof.Rows
section
variable {κ:Type}[DecidableEq κ]
def valV (kvs:List (κ×V))(k:κ):Option V:=(kvs.find? fun kv=>decide (kv.1=k)).map (·.2)
def putK (kvs:List (κ×V))(k:κ)(v:V):List (κ×V) :=
 if (kvs.any fun kv=>decide (kv.1=k))=true then kvs.map (fun kv=>if kv.1=k then (kv.1,v) else kv) else kvs++[(k,v)]
theorem valV_pos {p:κ×V}{r:List (κ×V)}{k:κ}(e:p.1=k):valV (p::r) k=some p.2:=by simp[valV,zZ,e]
theorem valV_neg {p:κ×V}{r:List (κ×V)}{k:κ}(e:¬ p.1=k):valV (p::r) k=valV r k:=by simp[valV,zZ,e]
theorem valV_any (k:κ):∀ kvs:List (κ×V),(kvs.any fun kv=>decide (kv.1=k))=(valV kvs k).isSome
 | []=>rfl
 | p::r=>by
  rw[yj];by_cases e:p.1=k
  ·simp only[valV_pos e,decide_eq_true e,Bool.true_or,Option.isSome_some]
  ·rw[valV_neg e,decide_eq_false e,wj];exact valV_any k r
theorem length_putK (kvs:List (κ×V))(k:κ)(v:V):(putK kvs k v).length<=kvs.length + 1:=by
 unfold putK;split
 ·rw[zz];omega
 ·rw[zt,zA,xU];omega
theorem RelO.isSome_eq {o:Option V}{u:Option Value}(r:RelO o u):o.isSome=u.isSome:=by
 cases o with
 | none=>cases u with
  | none=>rfl
  | some _=>exact(show False from r).elim
 | some _=>cases u with
  | none=>exact(show False from r).elim
  | some _=>rfl
theorem RelO.getD {o:Option V}{u:Option Value}{d:V}{d':Value}(r:RelO o u)(rd:RelV d d'):RelV (o.getD d) (u.getD d'):=by
 cases o with
 | none=>cases u with
  | none=>exact rd
  | some _=>exact(show False from r).elim
 | some _=>cases u with
  | none=>exact(show False from r).elim
  | some _=>exact r
theorem KV.val {kvs:List (κ×V)}{vs:List (κ×Value)}(r:KV kvs vs)(k:κ):RelO (valV kvs k) (valueAt vs k):=by
 unfold KV at r;induction r with
 | nil=>exact True.intro
 | @cons p q ps qs h t ih =>
  obtain⟨h1,h2⟩:=h;by_cases e:p.1=k
  ·have e':q.1=k:=h1.symm.trans e
   have b:valueAt (q::qs) k=some q.2:=by simp[valueAt,zZ,e']
   rw[valV_pos e,b];exact h2
  ·have e':¬ q.1=k:=fun z=>e (h1.trans z)
   have b:valueAt (q::qs) k=valueAt qs k:=by simp[valueAt,zZ,e']
   rw[valV_neg e,b];exact ih
theorem KV.any {kvs:List (κ×V)}{vs:List (κ×Value)}(r:KV kvs vs)(k:κ):(kvs.any fun kv=>decide (kv.1=k))=vs.any fun kv=>decide (kv.1=k):=by
 unfold KV at r;induction r with
 | nil=>rfl
 | cons h t ih=>rw[yj,yj,ih,h.1]
theorem KV.repl {kvs:List (κ×V)}{vs:List (κ×Value)}(r:KV kvs vs)(k:κ){y:V}{u:Value}(ry:RelV y u) :
  KV (kvs.map fun kv=>if kv.1=k then (kv.1,y) else kv) (vs.map fun kv=>if kv.1=k then (kv.1,u) else kv):=by
 unfold KV at r ⊢;induction r with
 | nil=>exact .nil
 | @cons p q ps qs h t ih =>
  rw[zD,zD];refine .cons ?_ ih;obtain⟨h1,h2⟩:=h;by_cases e:p.1=k
  ·rw[if_pos e,if_pos (h1.symm.trans e)];exact⟨h1,ry⟩
  ·rw[if_neg e,if_neg (fun z=>e (h1.trans z))];exact⟨h1,h2⟩
theorem KV.put {kvs:List (κ×V)}{vs:List (κ×Value)}(r:KV kvs vs)(k:κ){y:V}{u:Value}(ry:RelV y u):KV (putK kvs k y) (stored vs k u):=by
 unfold putK stored;rw[r.any k];by_cases e:(vs.any fun kv=>decide (kv.1=k))=true
 ·rw[if_pos e,if_pos e];exact r.repl k ry
 ·rw[if_neg e,if_neg e];exact Paired.snoc r ⟨rfl,ry⟩
theorem KV.length {kvs:List (κ×V)}{vs:List (κ×Value)}(r:KV kvs vs):kvs.length=vs.length:=Paired.length r
end
theorem kV_is {P:Program}{w:World}{k:Key}{u:Value}(r:RelV (kV k) u):(mixKind P w).is k u=true:=by
 cases k with
 | inl i=>obtain⟨t,e⟩:=(show ∃ t,u=Value.int i t from r);subst e;exact mixKind_int P w i t
 | inr x=>obtain⟨t,e⟩:=(show ∃ t,u=Value.str x t from r);subst e;exact mixKind_str P w x t
theorem items_are {P:Program}{w:World}:∀ {ks:List Key} {us:List Value},Vals (ks.map kV) us->ItemsAre (mixKind P w) ks us
 | [],_,r=>by rw[wE]at r;cases r;exact .nil
 | k::ks,_,r=>by
  rw[zD]at r;cases r with
  | cons h t=>exact .cons (kV_is h) (items_are t)
abbrev KT (H:Hp):List (List Key×V)->List (List Key×Addr×Value)->Prop:=Paired fun p q=>p.1=q.1/\H q.2.1=some (.tup (p.1.map kV))/\RelV p.2 q.2.2
theorem KT.val {H:Hp}{kvs:List (List Key×V)}{xs:List (List Key×Addr×Value)}(r:KT H kvs xs)(k:List Key):RelO (valV kvs k) ((atKey xs k).map (·.2)):=by
 induction r with
 | nil=>exact True.intro
 | @cons p q ps qs h t ih =>
  obtain⟨h1,_,h2⟩:=h;by_cases e:p.1=k
  ·have e':q.1=k:=h1.symm.trans e
   have b:atKey (q::qs) k=some q.2:=by simp[atKey,zZ,e']
   rw[valV_pos e,b];exact h2
  ·have e':¬ q.1=k:=fun z=>e (h1.trans z)
   have b:atKey (q::qs) k=atKey qs k:=by simp[atKey,zZ,e']
   rw[valV_neg e,b];exact ih
theorem KT.repl {H:Hp}{kvs:List (List Key×V)}{xs:List (List Key×Addr×Value)}(r:KT H kvs xs)(k:List Key){y:V}{u:Value}(ry:RelV y u) :
  KT H (kvs.map fun kv=>if kv.1=k then (kv.1,y) else kv) (xs.map (putAt k u)):=by
 induction r with
 | nil=>exact .nil
 | @cons p q ps qs h t ih =>
  rw[zD,zD];refine .cons ?_ ih;obtain⟨h1,h2,h3⟩:=h;unfold putAt;by_cases e:p.1=k
  ·rw[if_pos e,if_pos (h1.symm.trans e)];exact⟨h1,h2,ry⟩
  ·rw[if_neg e,if_neg (fun z=>e (h1.trans z))];exact⟨h1,h2,h3⟩
theorem KT.put {H:Hp}{kvs:List (List Key×V)}{xs:List (List Key×Addr×Value)}(r:KT H kvs xs)(k:List Key){b:Addr}{y:V}{u:Value}(hb:H b=some (.tup (k.map kV)))(ry:RelV y u) :
  KT H (putK kvs k y) (storedH xs k b u):=by
 have e:(kvs.any fun kv=>decide (kv.1=k))=(atKey xs k).isSome:=by
  rw[valV_any,(r.val k).isSome_eq,xI]
 unfold putK storedH;rw[e];by_cases q:(atKey xs k).isSome=true
 ·rw[if_pos q,if_pos q];exact r.repl k ry
 ·rw[if_neg q,if_neg q];exact Paired.snoc r ⟨rfl,hb,ry⟩
theorem KT.keeps {H H':Hp}{kvs:List (List Key×V)}{xs:List (List Key×Addr×Value)}(r:KT H kvs xs)(ht:∀ b ys,H b=some (.tup ys)->H' b=some (.tup ys)):KT H' kvs xs :=
 Paired.mapP r fun _ _ z=>⟨z.1,ht _ _ z.2.1,z.2.2⟩
section
variable {P:Program}{w:World}{H:Hp}{h:Heap}{a:Addr}
theorem rd_of {u:HO}(ok:HOk P w H h)(e:Rd H a u):ObjOk P w H h a u:=e.ok ok
theorem dk_rd {kvs:List (Key×V)}(ok:HOk P w H h)(e:Rd H a (.dK kvs)):kvs.length<=zj/\(a==sysModules)=false/\∃ vs,KV kvs vs/\h.DictOf (mixKind P w) a vs :=
 show ObjOk P w H h a (.dK kvs) from rd_of ok e
theorem dk_of {kvs:List (Key×V)}(ok:HOk P w H h)(e:H a=some (.dK kvs)):kvs.length<=zj/\(a==sysModules)=false/\∃ vs,KV kvs vs/\h.DictOf (mixKind P w) a vs:=dk_rd ok (.inl e)
theorem key_of {ks:List Key}(ok:HOk P w H h)(e:H a=some (.tup (ks.map kV))):(tupleKind (mixKind P w)).is h ks a:=by
 obtain⟨_,its,r,⟨o,h1,h2,n,h3⟩,_⟩:=(show ObjOk P w H h a (.tup (ks.map kV)) from ok a _ e);exact⟨o,its.toArray,n,h1,h2,h3,by simpa using items_are r⟩
theorem dt_rd {kvs:List (List Key×V)}(ok:HOk P w H h)(e:Rd H a (.dT kvs)):kvs.length<=zj/\(a==sysModules)=false /\
  ∃ xs,KT H kvs xs/\h.DictOfH (tupleKind (mixKind P w)) a xs:=by
 obtain⟨z,y,xs,r,o,es,ep,h1,h2,h3,h4,h5⟩:=(show ObjOk P w H h a (.dT kvs) from rd_of ok e);refine⟨z,y,xs,r,o,es,ep,h1,h2,h3,h4,fun x hx=>?_,h5⟩;have all:∀ {l:List (List Key×V)} {m:List (List Key×Addr×Value)},KT H l m->∀ x∈m,(tupleKind (mixKind P w)).is h x.1 x.2.1:=by
  intro l m q;induction q with
  | nil=>intro x hx;exact nomatch hx
  | @cons p q ps qs hq t ih =>
   intro x hx;rcases zG.mp hx with e | hx
   ·subst e
    exact key_of ok (by rw[<- hq.1];exact hq.2.1)
   ·exact ih x hx
 exact all r x hx
theorem dt_of {kvs:List (List Key×V)}(ok:HOk P w H h)(e:H a=some (.dT kvs)):kvs.length<=zj/\(a==sysModules)=false /\
  ∃ xs,KT H kvs xs/\h.DictOfH (tupleKind (mixKind P w)) a xs:=dt_rd ok (.inl e)
end
def DGet (H:Hp)(a:Addr)(y:V)(r:Option V):Prop :=
 (∃ kvs k,Rd H a (.dK kvs)/\y=kV k/\r=valV kvs k)\/∃ kvs k b,Rd H a (.dT kvs)/\y=.ref b/\H b=some (.tup (k.map kV))/\r=valV kvs k
def DPut (H:Hp)(a:Addr)(y v:V)(H':Hp):Prop :=
 (∃ kvs k,H a=some (.dK kvs)/\y=kV k/\kvs.length < zj/\H'=upd H a (.dK (putK kvs k v))) \/
 ∃ kvs k b,H a=some (.dT kvs)/\y=.ref b/\H b=some (.tup (k.map kV))/\kvs.length < zj/\H'=upd H a (.dT (putK kvs k v))
theorem DGet.k {H:Hp}{a:Addr}{kvs:List (Key×V)}{k:Key}(e:H a=some (.dK kvs)):DGet H a (kV k) (valV kvs k):=.inl ⟨kvs,k,.inl e,rfl,rfl⟩
theorem DPut.k {H:Hp}{a:Addr}{kvs:List (Key×V)}{k:Key}{v:V}(e:H a=some (.dK kvs))(hl:kvs.length < zj):DPut H a (kV k) v (upd H a (.dK (putK kvs k v))):=.inl ⟨kvs,k,e,rfl,hl,rfl⟩
section
variable {X:Cx}{pins:List (Addr×Obj)}{σ:St}{H:Hp}{s:Shared}{a:Addr}{y v:V}{u r:Value}{o:Option V}{A:Around}{E:Value->Shared->Prop}
theorem Inv.big (I:Inv X pins σ H s):sysModules < s.heap.objs.size:=by
 have h:mainGlobals < s.heap.objs.size:=(I.mod.glob.keeps I.bk).lt;exact Nat.lt_trans (by decide) h
theorem d_getItem {Q:Value->Shared->Prop}(hu:A.units + 1 < cLine)(I:Inv X pins σ H s)(g:DGet H a y (some v))(ry:RelV y u)(h:∀ w' s',Inv X pins σ H s'->RelV v w'->Q w' s') :
  wpAny (model X.prog X.w) A (getItem (.ref a) u) Q E s:=by
 rcases g with ⟨kvs,k,e,ey,l⟩|⟨kvs,k,b,e,ey,eb,l⟩
 ·subst ey
  obtain⟨z,hd,vs,rel,dd⟩:=dk_rd I.hok e;obtain⟨w',hw,rw'⟩:=RelO.some_of (v:=v) (o:=valueAt vs k) (by rw[l];exact rel.val k);exact wpAny_getItem_of (kV_is ry) dd.mapOf hw (h w' _ (I.tok _) rw')
 ·subst ey
  cases (show u=Value.ref b from ry);obtain⟨z,hd,xs,rel,dd⟩:=dt_rd I.hok e;obtain⟨w',hw,rw'⟩:=RelO.some_of (v:=v) (o:=(atKey xs k).map (·.2)) (by rw[l];exact rel.val k);obtain⟨p,hp,hp2⟩:=zu.mp hw;refine wpAny_getItem_heap (tupleKind_room_in1 hu) (key_of I.hok eb) dd hp ?_;rw[hp2];exact h w' _ (I.tok _) rw'
theorem d_in {Q:Value->Shared->Prop}(hu:A.units + 1 < cLine)(I:Inv X pins σ H s)(g:DGet H a y o)(ry:RelV y u)(h:∀ s',Inv X pins σ H s'->Q (.bool o.isSome) s') :
  wpAny (model X.prog X.w) A (compareOp .In u (.ref a)) Q E s:=by
 rcases g with ⟨kvs,k,e,ey,l⟩|⟨kvs,k,b,e,ey,eb,l⟩
 ·subst ey
  obtain⟨z,hd,vs,rel,dd⟩:=dk_rd I.hok e;refine wpAny_in_of (kV_is ry) hd dd.mapOf ?_;rw[<- (rel.val k).isSome_eq,<- l];exact h _ (I.tok _)
 ·subst ey
  cases (show u=Value.ref b from ry);obtain⟨z,hd,xs,rel,dd⟩:=dt_rd I.hok e;refine wpAny_in_heap (tupleKind_room_in1 hu) (key_of I.hok eb) hd dd ?_;have q:=(rel.val k).isSome_eq;rw[xI]at q;rw[<- q,<- l];exact h _ (I.tok _)
theorem d_notIn {Q:Value->Shared->Prop}(hu:A.units + 1 < cLine)(I:Inv X pins σ H s)(g:DGet H a y o)(ry:RelV y u)(h:∀ s',Inv X pins σ H s'->Q (.bool (!o.isSome)) s') :
  wpAny (model X.prog X.w) A (compareOp .NotIn u (.ref a)) Q E s:=by
 rcases g with ⟨kvs,k,e,ey,l⟩|⟨kvs,k,b,e,ey,eb,l⟩
 ·subst ey
  obtain⟨z,hd,vs,rel,dd⟩:=dk_rd I.hok e;refine wpAny_notIn_of (kV_is ry) hd dd.mapOf ?_;rw[<- (rel.val k).isSome_eq,<- l];exact h _ (I.tok _)
 ·subst ey
  cases (show u=Value.ref b from ry);obtain⟨z,hd,xs,rel,dd⟩:=dt_rd I.hok e;refine wpAny_notIn_heap (tupleKind_room_in1 hu) (key_of I.hok eb) hd dd ?_;have q:=(rel.val k).isSome_eq;rw[xI]at q;rw[<- q,<- l];exact h _ (I.tok _)
theorem d_write {h':Heap}{t':Nat}{ob:HO}(I:Inv X pins σ H s)(mu:Mut (H a))(hs:Heap.SameBut a s.heap h')(he:∃ q,h'.get? a=some q)(new:ObjOk X.prog X.w (upd H a ob) h' a ob) :
  Inv X pins σ (upd H a ob) { s with heap:=h',toks:=t' } :=
 I.write (x:=a) (e:=a) mu (.inl rfl) (fun b q hb z=>(hs.2 b hb).trans z) he new
theorem dk_new {P:Program}{w:World}{H':Hp}{h':Heap}{kvs:List (Key×V)}{vs:List (Key×Value)}(z:kvs.length<=zj)(hd:(a==sysModules)=false)(rel:KV kvs vs)(dd:h'.DictOf (mixKind P w) a vs) :
  ObjOk P w H' h' a (.dK kvs):=⟨z,hd,vs,rel,dd⟩
theorem d_setItem {H':Hp}{Q:Unit->Shared->Prop}(hu:A.units + 1 < cLine)(I:Inv X pins σ H s)(g:DPut H a y v H')(ry:RelV y u)(rv:RelV v r)(h:∀ s',Inv X pins σ H' s'->Q () s') :
  wpAny (model X.prog X.w) A (setItem (.ref a) u r) Q E s:=by
 rcases g with ⟨kvs,k,e,ey,l,eH⟩|⟨kvs,k,b,e,ey,eb,l,eH⟩
 ·subst ey eH
  obtain⟨z,hd,vs,rel,dd⟩:=dk_of I.hok e;have hz:vs.length<=zj:=by rw[<- rel.length];exact z
  have hl:(putK kvs k v).length<=zj:=by have:=length_putK kvs k v;omega
  refine wpAny_setItem_pairs (hsz:=hz) (kV_is ry) dd fun h' dd' hs=>h _ ?_;have he:∃ q,h'.get? a=some q:=let ⟨q,_,_,hq,_⟩:=dd';⟨q,hq⟩;exact d_write I (by rw[e];exact True.intro) hs he (dk_new hl hd (rel.put k rv) dd')
 ·subst ey eH
  cases (show u=Value.ref b from ry);obtain⟨z,hd,xs,rel,dd⟩:=dt_of I.hok e;have hz:xs.length<=zj:=by rw[<- Paired.length rel];exact z
  have hl:(putK kvs k v).length<=zj:=by have:=length_putK kvs k v;omega
  refine wpAny_setItem_heap (hsz:=hz) (tupleKind_room_in1 hu) (key_of I.hok eb) dd fun h' dd' hs=>h _ ?_;obtain⟨q,es,ep,hq,h2,h3,h4,_,h5⟩:=dd';refine d_write I (by rw[e];exact True.intro) hs ⟨q,hq⟩ ⟨hl,hd,_,(rel.put k eb rv).keeps fun c ys ec=>?_,q,es,ep,hq,h2,h3,h4,h5⟩;rw[upd_ne (ne_of ec e (fun z=>nomatch z))];exact ec
end
section
variable {X:Cx}{pins:List (Addr×Obj)}{σ:St}{H:Hp}{s:Shared}{a:Addr}{kvs:List (Key×V)}{k:Key}{u:Value}{A:Around}{E:Value->Shared->Prop}
theorem d_len {Q:Value->Shared->Prop}(I:Inv X pins σ H s)(e:Rd H a (.dK kvs))(h:∀ t s',Inv X pins σ H s'->Q (.int kvs.length t) s'):wpAny (model X.prog X.w) A (call (.builtin "len") [.ref a]) Q E s:=by
 obtain⟨z,hd,vs,rel,dd⟩:=dk_rd I.hok e;refine call_len_dict hd dd (by rw[<- rel.length];rw[sizeLine_eq]at z;omega) ?_;rw[<- rel.length];exact h _ _ (I.tok _)
end
theorem dict_typeIs {X:Cx}{pins:List (Addr×Obj)}{σ:St}{H:Hp}{s:Shared}{a:Addr}{y:V}{o:Option V}(I:Inv X pins σ H s)(g:DGet H a y o):s.TypeIs (.ref a) "dict":=by
 rcases g with ⟨kvs,k,e,_,_⟩|⟨kvs,k,b,e,_,_,_⟩
 ·obtain⟨_,_,vs,_,dd⟩:=dk_rd I.hok e
  exact dd.typeIs
 ·obtain⟨_,_,xs,_,dd⟩:=dt_rd I.hok e
  exact dd.typeIs
section
variable {X:Cx}{o i e value:Expr}{pos pos' tpos:Pos}{td ty tv:TE}
end
theorem dk_empty {P:Program}{w:World}{H:Hp}(h:Heap)(hb:sysModules < h.objs.size):ObjOk P w H (h.push { cls:=.type "dict",data:=.dict #[] }) h.objs.size (.dK []) :=
 ⟨zI _,beq_eq_false_iff_ne.mpr (Ne.symm (za hb)),[],.nil,Heap.DictOf.new h⟩
def tDNewK:TE:=fun _ H Q=>∀ p,H p=none->Q (.ref p) (upd H p (.dK []))
section
variable {X:Cx}{pos:Pos}
theorem pe_dnewK:PE X (.Dict [] [] pos) tDNewK:=fun pins s σ H Q I h =>
 wpAny_Dict_empty ⟨.ref s.heap.objs.size,_,I.laid (a:=s.heap.objs.size) (o:=.dK []) (t':=s.toks) (fun _ _ q=>zo _ q) (zr _) (dk_empty s.heap I.big),rfl,h _ (I.hok.fresh (zr _))⟩
end
section
variable {X:Cx}{pins:List (Addr×Obj)}{σ:St}{H:Hp}{s:Shared}{a:Addr}{y d:V}{u r:Value}{o:Option V}{A:Around}{E:Value->Shared->Prop}
end
section
variable {X:Cx}{o e f:Expr}{apos cpos:Pos}{td ty tx:TE}
end
section
variable {X:Cx}{pins:List (Addr×Obj)}{σ:St}{H:Hp}{s:Shared}{a:Addr}{kvs:List (Key×V)}{A:Around}{E:Value->Shared->Prop}
end
section
variable {X:Cx}{pins:List (Addr×Obj)}{σ:St}{H:Hp}{s:Shared}{a:Addr}{y:V}{u:Value}{A:Around}{E:Value->Shared->Prop}
end
end L2
namespace Att
open PySem PySem.W PySem.Calls PyProof.Rows
theorem ints_of_wellAll {P:Params}{h:Heap}:∀ (ns:List Int) (vs:List Value),WellAll P h vs (ns.map WData.int)->IntsAre vs ns:=by
 intro ns;induction ns with
 | nil =>
  intro vs w;rw[wE]at w;cases w;exact .nil
 | cons n ns ih =>
  intro vs w;rw[zD]at w;cases w with
  | cons a b =>
   cases a;exact .cons _ _ (ih _ b)
theorem script_of {l:OpenLaw}{n:Nat}(hn:l.most=some n){P:Params}{h:Heap}{args:List WData}{vals:List Value}
  (hpre:l.row.toRowW.claim.pre args=true) (hwl:WellAll P h vals args) :
  ∃ a vs ns,vals=[Value.ref a]/\args=[WData.list (ns.map WData.int)]/\h.get? a=some { cls:=.type "list",data:=.seq vs.toArray }/\IntsAre vs ns/\ns.length<=n:=by
 have hsh:WShape.hasAll [] args [.list .int]=true:=(pre_splitW hpre).1;have hc:l.pre.holds [] { args:=args }=true:=(pre_splitW hpre).2;obtain⟨d,r,rfl,h1,h2⟩:=hasAllW_cons hsh;obtain rfl:=hasAllW_nil h2;obtain⟨xs,rfl,h3⟩:=hasW_list h1;obtain⟨ns,rfl⟩:=items_int h3;have hlen:ns.length<=n:=by
  unfold OpenLaw.pre at hc;have h4:(WTm.not (.lt (.lit (.int (n:Int))) (.len (.arg 0)))).holds [] { args:=[.list (ns.map .int)] }=true:=by
   have h4:=(holds_andW hc).1;rw[hn]at h4;exact h4
  have h5:=condW_of h4 (w_not (w_lt w_lit (w_len_list (w_arg rfl))));rw[zz]at h5;refine wM fun q=>?_;have q':(n:Int) < ((ns.length:Nat):Int):=by first | lia | omega
  first
   | (rw[decide_eq_true q']at h5;exact absurd h5 (by decide))
   | (simp at h5;omega)
 cases hwl with
 | cons w1 w2 =>
  cases w2;cases w1 with
  | list ho hall=>exact⟨_,_,ns,rfl,rfl,ho,ints_of_wellAll ns _ hall,hlen⟩
theorem post_true (l:OpenLaw)(args:List WData):l.row.toRowW.claim.post args (.bool true) args=true :=
 postW_of (r:=l.row.toRowW) (X:=(true==true))
  (show WShape.has [] (.bool true) .bool=true by first | rfl | decide | simp[WShape.has,WShape.arms,WShape.armsAll])
  (show (WTm.eq .res (.lit (.bool true))).value [] { args:=args,res:=some (.bool true),after:=args }=some (.bool (true==true)) from w_eq_bool (w_res rfl) w_lit) rfl
theorem attach_call {l:OpenLaw}{n:Nat}{q:Program}{loose:List Str}{XP:(Str->Option Value)->Heap->Prop}{YP:World->Heap->Prop}{d:DefRec}
  (hn:l.most=some n) (hdf:d.params.defaults=[])
  (call:∀ (w:World) (s₀ s₁:Shared) (mg mb:Str->Option Value) (fa:Addr) (o:Obj) (pm cd doc:Value) (a:Addr) (vs:List Value) (ns:List Int),
   Ground q loose [] XP w s₀ mg mb s₁.heap->YP w s₁.heap ->
   s₁.heap.get? fa=some o->o.data=.func (docDef d.name d.params d.body d.scope pm cd doc)->s₁.heap.CodeRec cd d.name->mg d.name=some (.ref fa) ->
   s₁.heap.get? a=some { cls:=.type "list",data:=.seq vs.toArray }->IntsAre vs ns->ns.length<=n->s₁.gens = #[] ->
   codeAny (model l.prog w) callerA (.call (.ref fa) ⟨[.ref a],[]⟩) (fun r s'=>r=.ok (.ret (.bool true))/\OldK s₁.heap s'.heap/\s'.os=s₁.os/\AllBare s'.gens) s₁) :
  WalkO q loose XP YP l.row.toRowW d [] (fun f vs=>PySem.call f vs):=by
 intro w s₀ s₁ mg mb G Y fa o pm cd doc dV kV ho hd hcd hD hmg hg args vals as hpre hlay hrd hwl hlo;obtain rfl:dV=.none:=Dflts.none hD hdf;obtain rfl:kV=.none:=Dflts.noKw hD;obtain⟨a,vs,ns,rfl,rfl,hobj,hints,hlen⟩:=script_of hn hpre hwl;refine enter_call (codeAny_mono (call w s₀ s₁ mg mb fa o pm cd doc a vs ns G Y ho (fd_plain hd) hcd hmg hobj hints hlen hg) fun r s' hq=>?_);obtain⟨rfl,h2,h3,h4⟩:=hq;exact⟨.inl ⟨.bool true,.bool true,[],rfl,fun _=>rfl,.bool true,post_true l _,fun _=>⟨List.Pairwise.nil,fun _ hm=>(nomatch hm)⟩⟩,h2,h3,h4⟩
section
variable {prog:Program}{w:World}{A:Around}{E:Value->Shared->Prop}{s:Shared}{K:Frag}
end
end Att
namespace L2
open PySem PySem.Spec PyProof.Rows
theorem vals_ints:∀ {vs:List Value} {ns:List Int},IntsAre vs ns->Vals (ns.map V.int) vs
 | _,_,.nil=>.nil
 | _,_,.cons n t h=>.cons ⟨t,rfl⟩ (vals_ints h)
def Only (H:Hp):Prop:=∀ b,H b=none\/∃ o xs,H b=some (.frz o (.lst xs))
theorem law_call {P:Program}{w:World}{K:PySem.W.Frag}{mg mb:Str->Option Value}{CX:CXT}{k:Nat}{fa a:Addr}{fd:FuncData}{x:Str}{sp:Sp}{s₁:Shared}{vs:List Value}{ns:List Int}
  (KX:K.In s₁.heap) (hns:s₁.heap.Ns mainGlobals mg) (hb:s₁.heap.Ns builtinsNs mb) (hbb:∀ x:Str,x≠"__name__"->mb x=bootBuiltins x) (hlim:s₁.heap.NoLimit) (hg:s₁.gens = #[])
  (ha:s₁.heap.get? a=some { cls:=.type "list",data:=.seq vs.toArray }) (hi:IntsAre vs ns) (hl:ns.length<=zj) (hr:Room k callerA)
  (F:∀ base:Heap,K.In base->base.Ns mainGlobals mg->FnOk P w K mg base CX k fa fd [x] sp) (hbind:∀ (s:Shared) (u:Value),BindsTo s fd ⟨[u],[]⟩ [(x,u)])
  (hsp:∀ H:Hp,Only H->SqL K H a (ns.map V.int)->sp [.ref a] H (fun v _=>v=.bl true) fun _ _ _=>False)
  (hCX:∀ H e s',CX [] H s₁ (fun _ _ _=>False) e s'->False) :
  codeAny (model P w) callerA (.call (.ref fa) ⟨[.ref a],[]⟩) (fun r s'=>r=.ok (.ret (.bool true))/\OldK s₁.heap s'.heap/\s'.os=s₁.os/\AllBare s'.gens) s₁:=by
 have rv:=vals_ints hi;have lenV:=hi.length;have core:∀ H:Hp,Only H->SqL K H a (ns.map V.int)->HOk P w H s₁.heap->(∀ b,H b≠none->b=a)->(H a≠none->K.lookup a=none) ->
   codeAny (model P w) callerA (.call (.ref fa) ⟨[.ref a],[]⟩) (fun r s'=>r=.ok (.ret (.bool true))/\OldK s₁.heap s'.heap/\s'.os=s₁.os/\AllBare s'.gens) s₁:=by
  intro H hO hS hok hA hK;have base_of:∀ {b:Addr} {o:Obj},s₁.heap.get? b=some o->H b=none->(hidT s₁.heap H).get? b=some o:=fun e n=>hidT_get e n;have noA:∀ {b:Addr} {o:Obj} {es:Array DictEntry} {ep:Nat},s₁.heap.get? b=some o->o.data=.dict es ep->H b=none:=fun {b o es ep} e d=>by
   cases q:H b with
   | none=>rfl
   | some u =>
    have e':b=a:=hA b (by rw[q];simp);subst e';rw[ha]at e;cases e;have d':Data.seq vs.toArray _=Data.dict es ep:=d;cases d'
  have nsK:∀ {b:Addr} {m:Str->Option Value},s₁.heap.Ns b m->(hidT s₁.heap H).Ns b m:=fun {b m} ⟨o,es,ep,e,d,r⟩=>⟨o,es,ep,base_of e (noA e d),d,r⟩;have hKb:K.In (hidT s₁.heap H):=fun b o e=>base_of (KX b o e) (by
   cases q:H b with
   | none=>rfl
   | some u =>
    have e':b=a:=hA b (by rw[q];simp);subst e';rw[hK (by rw[q];simp)]at e;cases e)
  have hM:Mod K mg (hidT s₁.heap H):=⟨hKb,nsK hns,⟨mb,nsK hb,hbb⟩,let ⟨mc,h1,h2⟩:=hlim;⟨mc,nsK h1,h2⟩⟩;have e0:Env0 P w K mg (hidT s₁.heap H) callerA [] s₁ H:=⟨rfl,hM,fun b o e=>of_hidT e,yc (hidT_size _ _),trivial,fun b hb=>absurd (show b∈([]:List Addr) from hb) (by simp),hok,.of_eq hg⟩;refine codeAny_mono ((F _ hKb (nsK hns)).run callerA [] s₁ H ⟨[.ref a],[]⟩ [.ref a] [.ref a] _ _ hr e0 (hbind s₁ (.ref a)) (.cons rfl .nil) (hsp H hO hS)) fun r s' h=>?_;cases r with
  | error e=>exact(hCX H e s' h).elim
  | ok fl =>
   cases fl with
   | next=>exact False.elim h
   | brk=>exact False.elim h
   | cont=>exact False.elim h
   | ret u =>
    obtain⟨v,H',os,bare,un,hok',r',q⟩:=h;have q':v=.bl true:=q;subst q';obtain rfl:u=Value.bool true:=r';refine⟨rfl,OldK.of_keep fun b o e=>?_,os,bare⟩;cases q:H b with
    | none=>exact un.keep b o e q (by intro z;exact absurd (show b∈([]:List Addr) from z) (by simp)) (by simp)
    | some u =>
     rcases hO b with z | ⟨ob,xs,z⟩
     ·rw[q]at z;cases z
     ·have z2:=un.frzs b ob _ z
      obtain⟨e1,_⟩:=hok b _ z;obtain⟨e2,_⟩:=hok' b _ z2;rw[e]at e1;cases e1;exact e2
 cases hk:K.lookup a with
 | some o =>
  have e:=KX a o hk;rw[ha]at e;cases e;refine core (fun _=>none) (fun _=>.inl rfl) (.inr ⟨_,vs.toArray,_,hk,rfl,rfl,rfl,by rw[zl,lenV];exact hl,by simpa using rv⟩) (fun b u z=>by have z':(none:Option HO)=some u:=z;cases z') (fun b z=>absurd rfl z) fun z=>absurd rfl z
 | none =>
  refine core (fun b=>if b=a then some (.frz { cls:=.type "list",data:=.seq vs.toArray } (.lst (ns.map V.int))) else none) (fun b=>?_) (.inl (.inr ⟨{ cls:=.type "list",data:=.seq vs.toArray },if_pos rfl⟩)) (fun b u z=>?_) (fun b z=>?_) fun _=>hk
  ·by_cases hb:b=a
   ·exact .inr ⟨_,_,if_pos hb⟩
   ·exact .inl (if_neg hb)
  ·by_cases hb:b=a
   ·have z':=(if_pos hb).symm.trans z
    cases z';subst hb;exact⟨ha,by rw[zz];exact hl,vs,_,rv,ha⟩
   ·have z':=(if_neg hb).symm.trans z
    cases z'
  ·by_cases hb:b=a
   ·exact hb
   ·exact absurd (if_neg hb) z
end L2
namespace L2
open PySem PySem.Spec PyProof.Rows
end L2
/- THE LAST THEOREM (shape;LID,My.* are yours):
   My.Adr: a structure of the addresses that your layer names (classes,functions);My.Txt K t: a structure (Prop) of the equations over K;
   My.txt_mk:{K} {implicit addresses ..} (e1:nsIn K mainGlobals "law" = some (some (.ref f))) (e2:K.lookup f=some ⟨oc,od,.func (fnOf "law" "law" params body scope dV kV doc pm an cdv ct),sl⟩) (e3:codeIn K cdv "law" = true) .. : ∃ t,My.Txt K t
set_option maxRecDepth 100000 in
set_option maxHeartbeats 0 in
theorem PySem.Challenge.cw_LID_holds:PySem.Challenge.rw_LID.Holds:=by
 w_on;o_law;k_head;(case hw=>w_witness2)
 k_fill
 refine L2.walk_of (l:=PySem.Challenge.rw_LID) (n:=63) (k:=40) (x:="script") (CX:=fun w=>..) (sp:=fun _=>My.sp_law) rfl (by decide) rfl ⟨rfl,by decide,by decide⟩ (fun w h Y=>PySem.W.kIn_of Y) ?F ?S ?C
 case F =>
  intro w mg fa h KX G hmg;have T:∃ t,My.Txt (L2.KOf KX) t:=by
   dsimp only[L2.KOf]                          -- K must stand as «<heap const> w.params» for k_is
   refine' My.txt_mk ?e1 ?e2 ?e3 ..
   (case e1=>PySem.W.k_is)                    -- in the order: a name -> its address -> its object -> its parts
   (case e2=>PySem.W.k_is)
   ..
  obtain⟨t,T⟩:=T;have e0:=hmg.symm.trans (PySem.W.mg_of KX G T.law);cases e0                                       -- fa is the law's own address
  exact⟨_,fun s u=>.of_eq rfl,fun base kb nb=>My.law_fn T kb nb⟩     -- if «.of_eq rfl» comes too early: refine' ⟨_,?b,fun base kb nb=>My.law_fn T kb nb⟩;exact fun s u=>.of_eq rfl
 case S=>exact fun w H a ns hl hO hS=>..
 case C=>exact ..
(the tactic k_is has no namespace: write k_is) -/
namespace L2
open PySem PySem.Spec PyProof.Rows
def defArgs (s:Stmt):Arguments:=match s with
 | .FunctionDef _ a _ _ _ _ _ _ _ _=>a
 | _=>{ posonlyargs:=[],args:=[],vararg:=none,kwonlyargs:=[],kw_defaults:=[],kwarg:=none,defaults:=[] }
def defBody (s:Stmt):List Stmt:=match s with
 | .FunctionDef _ _ b _ _ _ _ _ _ _=>b
 | _=>[]
def defScope (s:Stmt):Scope:=match s with
 | .FunctionDef _ _ _ _ _ _ sc _ _ _=>sc
 | _=>{ kind:=.function,names:=[],isGenerator:=false,isCoroutine:=false }
abbrev CX0:CXT:=fun _ _ _ _ _ _=>False
abbrev E0:XK:=fun _ _ _=>False
theorem pass0 {X:Cx}:Passes CX0 X E0:=fun _ _ _ _ _ _ _ h=>h.elim
structure Fun (K:PySem.W.Frag) (x qual:Str) (st:Stmt) (f:Addr) (fd:FuncData):Prop where
 ex:∃ (oc:Value) (od:Option Addr) (kV doc pm:Value) (an:Option Addr) (cdv ct:Value) (osl:Array (Option Value)),
  fd=PySem.W.fnOf x qual (defArgs st) (defBody st) (defScope st) .none kV doc pm an cdv ct/\K.lookup f=some ⟨oc,od,.func fd,osl⟩/\PySem.W.codeIn K cdv qual=true
 kp:PySem.W.keepIn K (.ref f)=true
section
variable {P:Program}{w:World}{K:PySem.W.Frag}{mg:Str->Option Value}{base:Heap}
theorem Fun.ok {x qual:Str}{st:Stmt}{f:Addr}{fd:FuncData}{N ps:List Str}{k:Nat}{sp:Sp}(F:Fun K x qual st f fd)(S:FnScope N ps (defScope st))(len:∀ vs H Q E,sp vs H Q E->vs.length=ps.length)
  (hbody:∀ (cdv:Value) (A:Around) (outer:List Env) (s:Shared) (H:Hp) (vs:List V) (Q:VK) (E:XK),Room k (A.deeper (envOfC qual (defScope st) s.heap.objs.size f cdv))->sp vs H Q E ->
   ∃ t,PSs (cxOf CX0 P w K mg base N qual (defScope st) f cdv A outer s H E).nox (defBody st) t/\t { nx:=fun _ H'=>Q .non H',rt:=Q } (start N vs) H):FnOk P w K mg base CX0 (k + 1) f fd ps sp:=by
 obtain⟨oc,od,kV,doc,pm,an,cdv,ct,osl,rfl,lk,hcd⟩:=F.ex;refine fn_of lk hcd S len fun A outer s H vs Q E hr hsp=>?_;obtain⟨t,h,q⟩:=hbody cdv A outer s H vs Q E hr hsp;exact⟨t,h.nox,q⟩
theorem Fun.binds {x qual:Str}{st:Stmt}{f:Addr}{fd:FuncData}{ps:List Str}(F:Fun K x qual st f fd)
  (h:∀ (kV doc pm:Value) (an:Option Addr) (cdv ct:Value) (us:List Value),us.length=ps.length->bindArgs (PySem.W.fnOf x qual (defArgs st) (defBody st) (defScope st) .none kV doc pm an cdv ct) ⟨us,[]⟩=pure (ps.zip us)):Binds K fd ps []:=by
 obtain⟨oc,od,kV,doc,pm,an,cdv,ct,osl,rfl,lk,hcd⟩:=F.ex;exact .all (h kV doc pm an cdv ct)
theorem fun_mk {x qual:Str}{st:Stmt}{f:Addr}{oc:Value}{od an:Option Addr}{osl:Array (Option Value)}{kV doc pm cdv ct:Value}(l:K.lookup f=some ⟨oc,od,.func (PySem.W.fnOf x qual (defArgs st) (defBody st) (defScope st) .none kV doc pm an cdv ct),osl⟩)
  (c:PySem.W.codeIn K cdv qual=true) (k:PySem.W.keepIn K (.ref f)=true):Fun K x qual st f (PySem.W.fnOf x qual (defArgs st) (defBody st) (defScope st) .none kV doc pm an cdv ct):=⟨⟨oc,od,kV,doc,pm,an,cdv,ct,osl,rfl,l,c⟩,k⟩
end
section
variable {X:Cx}
end
end L2
set_option maxHeartbeats 4000000
namespace L3
open PySem
noncomputable abbrev Ky:=Sum Int Str
inductive D where
 | non | bl (b:Bool) | int (i:Int) | str (x:Str) | tup (ds:List D) | fl (ds:List D) | ob (i:Nat)
inductive MO where
 | lst (ds:List D)
 | dic (kvs:List (Ky×D))
noncomputable abbrev MH:=List MO
inductive Out (α:Type) where
 | ok (a:α)
 | ex (c:Str) (ds:List D)
noncomputable def Mo (α:Type):=MH->Option (Out α×MH)
noncomputable def Mo.ret {α:Type}(a:α):Mo α:=fun M=>some (.ok a,M)
noncomputable def Mo.bind {α β:Type}(m:Mo α)(k:α->Mo β):Mo β:=fun M=>match m M with
 | none=>none
 | some (.ok a,M')=>k a M'
 | some (.ex c ds,M')=>some (.ex c ds,M')
noncomputable def Mo.stop {α:Type}:Mo α:=fun _=>none
noncomputable instance:Monad Mo where
 pure:=Mo.ret
 bind:=Mo.bind
theorem run_ret {α:Type}(a:α)(M:MH):(pure a:Mo α) M=some (.ok a,M):=rfl
theorem run_bind {α β:Type}(m:Mo α)(k:α->Mo β)(M:MH):(m >>= k) M=match m M with
 | none=>none
 | some (.ok a,M')=>k a M'
 | some (.ex c ds,M')=>some (.ex c ds,M'):=rfl
theorem bind_ok {α β:Type}{m:Mo α}{k:α->Mo β}{M M':MH}{b:β}(h:(m >>= k) M=some (.ok b,M')):∃ a M1,m M=some (.ok a,M1)/\k a M1=some (.ok b,M'):=by
 rw[run_bind]at h;split at h
 ·cases h
 ·rename_i a M1 e
  exact⟨a,M1,e,h⟩
 ·cases h
theorem ok_bind {α β:Type}{m:Mo α}{k:α->Mo β}{M M1:MH}{a:α}(h:m M=some (.ok a,M1)):(m >>= k) M=k a M1:=by
 rw[run_bind,h]
noncomputable abbrev Ev:=List (Option D)
noncomputable def getM (i:Nat):Mo MO:=fun M=>match M[i]? with
 | some o=>some (.ok o,M)
 | none=>none
noncomputable def newM (o:MO):Mo D:=fun M=>some (.ok (.ob M.length),M++[o])
noncomputable def putM (i:Nat)(o:MO):Mo Unit:=fun M=>if i < M.length then some (.ok (),M.set i o) else none
noncomputable def need (p:Prop)[Decidable p]:Mo Unit:=if p then pure () else Mo.stop
noncomputable def lift {α:Type}(o:Option α):Mo α:=match o with
 | some a=>pure a
 | none=>Mo.stop
noncomputable def getL (i:Nat):Mo (List D):=fun M=>match M[i]? with
 | some (.lst ds)=>some (.ok ds,M)
 | _=>none
noncomputable def getD (i:Nat):Mo (List (Ky×D)):=fun M=>match M[i]? with
 | some (.dic ds)=>some (.ok ds,M)
 | _=>none
noncomputable def kyD:D->Option Ky
 | .int i=>some (.inl i)
 | .str x=>some (.inr x)
 | _=>none
noncomputable def flatD:D->Bool
 | .non=>true | .bl _=>true | .int _=>true | .str _=>true | _=>false
noncomputable def eqF:D->D->Bool
 | .non,.non=>true
 | .bl a,.bl b=>a==b
 | .bl a,.int b=>(if a then 1 else 0)==b
 | .int a,.bl b=>a==(if b then 1 else 0)
 | .int a,.int b=>a==b
 | .str a,.str b=>a==b
 | _,_=>false
noncomputable def eqL (f:D->D->Option Bool):List D->List D->Option Bool
 | [],[]=>some true
 | [],_::_=>some false
 | _::_,[]=>some false
 | x::xs,y::ys=>match f x y with
  | none=>none
  | some b=>match eqL f xs ys with
   | none=>none
   | some c=>some (b&&c)
noncomputable def eqO (M:MH):Nat->D->D->Option Bool
 | 0,_,_=>none
 | n + 1,x,y=>match x,y with
  | .tup xs,.tup ys=>eqL (eqO M n) xs ys
  | .ob i,.ob j=>(match M[i]?,M[j]? with
   | some (.lst xs),some (.lst ys)=>if xs.length=ys.length then eqL (eqO M n) xs ys else some false
   | _,_=>none)
  | .tup _,y=>if flatD y=true then some false else none
  | x,.tup _=>if flatD x=true then some false else none
  | x,y=>if (flatD x&&flatD y)=true then some (eqF x y) else none
noncomputable def eqMo (x y:D):Mo Bool:=fun M=>match eqO M 20 x y with
 | some b=>some (.ok b,M)
 | none=>none
noncomputable def inL (M:MH)(x:D):List D->Option Bool
 | []=>some false
 | d::ds=>match eqO M 8 d x with
  | none=>none
  | some b=>match inL M x ds with
   | none=>none
   | some c=>some (b||c)
noncomputable def inMo (x:D)(ds:List D):Mo Bool:=fun M=>match inL M x ds with
 | some b=>some (.ok b,M)
 | none=>none
noncomputable def kvGet (kvs:List (Ky×D))(k:Ky):Option D:=(kvs.find? fun kv=>decide (kv.1=k)).map (·.2)
noncomputable def kvPut (kvs:List (Ky×D))(k:Ky)(v:D):List (Ky×D) :=
 if (kvs.any fun kv=>decide (kv.1=k))=true then kvs.map (fun kv=>if kv.1=k then (kv.1,v) else kv) else kvs++[(k,v)]
noncomputable def dK:Ky->D
 | .inl i=>.int i
 | .inr x=>.str x
noncomputable def sgn (c:Nat):D:=.str ⟨#[c]⟩
noncomputable def ixD (n:Nat)(i:Int):Option Nat:=if 0<=i then (if i < n then some i.toNat else none) else if -(n:Int)<=i then some (i + n).toNat else none
noncomputable def atD {α:Type}(xs:List α)(i:Int):Option α:=(ixD xs.length i).bind fun j=>xs[j]?
noncomputable def cutIx (n d:Nat):Option Int->Nat
 | none=>d
 | some v=>if v < 0 then (v + (n:Int)).toNat else min v.toNat n
noncomputable def cutD {α:Type}(xs:List α)(lo hi:Option Int):List α:=(xs.drop (cutIx xs.length 0 lo)).take (cutIx xs.length xs.length hi - cutIx xs.length 0 lo)
noncomputable def strOcc (j i:Str):Bool:=!(Builtin.Str.occurrences j i 0 j.length 1).isEmpty
noncomputable def repS (a:Str)(n:Nat):Str:=⟨(ya n a.cps).foldl (·++·) #[]⟩
noncomputable def opD (op:Operator)(x y:D):Mo D:=match op,x,y with
 | .Add,.int i,.int j=>pure (.int (i + j))
 | .Add,.str a,.str b=>do need (a.length + b.length<=zj);pure (.str (a++b))
 | .Add,.ob i,.ob j=>do
  let xs <- getL i
  let ys <- getL j
  need (xs.length + ys.length<=zj)
  newM (.lst (xs++ys))
 | .Add,.tup xs,.tup ys=>do need (xs.length + ys.length<=zj);pure (.tup (xs++ys))
 | .Sub,.int i,.int j=>pure (.int (i - j))
 | .Mult,.int i,.int j=>do need ((-(2 ^ 64) < i/\i < 2 ^ 64)\/(-(2 ^ 64) < j/\j < 2 ^ 64));pure (.int (i * j))
 | .FloorDiv,.int i,.int j=>do need (0 < j/\j < 1073741824);pure (.int (i / j))
 | .Mod,.int i,.int j=>do need (0 < j);pure (.int (i % j))
 | .Pow,.int i,.int j=>do need (0<=j/\j<=1000000/\i.natAbs < 2 ^ 64);pure (.int (i ^ j.toNat))
 | .Mult,.str a,.int j=>do need (2<=j/\j < 1000/\0 < a.length/\a.length < 1000);pure (.str (repS a j.toNat))
 | _,_,_=>Mo.stop
noncomputable def inD (x y:D):Mo Bool:=match y with
 | .str j=>(match x with
  | .str i=>pure (strOcc j i)
  | _=>Mo.stop)
 | .tup ds=>inMo x ds
 | .fl ds=>inMo x ds
 | .ob i=>do
  let o <- getM i
  (match o with
  | .lst ds=>inMo x ds
  | .dic kvs=>do let k <- lift (kyD x);pure (kvGet kvs k).isSome
  )
 | _=>Mo.stop
noncomputable def ltD (x y:D):Option Bool:=match x,y with
 | .int i,.int j=>some (decide (i < j))
 | .str a,.str b=>some (decide (a.cps.toList < b.cps.toList))
 | _,_=>none
noncomputable def leD (x y:D):Option Bool:=match x,y with
 | .int i,.int j=>some (decide (i<=j))
 | .str a,.str b=>some (!decide (b.cps.toList < a.cps.toList))
 | _,_=>none
noncomputable def isN:D->Bool
 | .non=>true
 | _=>false
noncomputable def cmpD (op:CmpOp)(x y:D):Mo Bool:=match op with
 | .Eq=>eqMo x y
 | .NotEq=>do let b <- eqMo x y;pure (!b)
 | .Lt=>lift (ltD x y)
 | .LtE=>lift (leD x y)
 | .Gt=>(match x,y with
  | .int i,.int j=>pure (decide (j < i))
  | _,_=>Mo.stop)
 | .GtE=>(match x,y with
  | .int i,.int j=>pure (decide (j<=i))
  | _,_=>Mo.stop)
 | .In=>inD x y
 | .NotIn=>do let b <- inD x y;pure (!b)
 | .Is=>do need (isN y=true);pure (isN x)
 | .IsNot=>do need (isN y=true);pure (!isN x)
noncomputable def getIx (x y:D):Mo D:=match x,y with
 | .tup ds,.int i=>lift (atD ds i)
 | .fl ds,.int i=>lift (atD ds i)
 | .str s,.int i=>do need (s.length<=zj);let c <- lift (atD s.cps.toList i);pure (sgn c)
 | .ob k,y=>do
  let o <- getM k
  (match o with
  | .lst ds=>(match y with
   | .int i=>lift (atD ds i)
   | _=>Mo.stop)
  | .dic kvs=>do let q <- lift (kyD y);lift (kvGet kvs q)
  )
 | _,_=>Mo.stop
noncomputable def setIx (x y v:D):Mo Unit:=match x with
 | .ob k=>do
  let o <- getM k
  (match o with
  | .lst ds=>(match y with
   | .int i=>do let j <- lift (ixD ds.length i);putM k (.lst (ds.set j v))
   | _=>Mo.stop)
  | .dic kvs=>do let q <- lift (kyD y);need (kvs.length < zj);putM k (.dic (kvPut kvs q v))
  )
 | _=>Mo.stop
noncomputable def sliceD (x:D)(lo hi:Option Int):Mo D:=match x with
 | .str s=>do need (s.length<=zj);pure (.str ⟨(cutD s.cps.toList lo hi).toArray⟩)
 | .tup ds=>pure (.tup (cutD ds lo hi))
 | .ob k=>do let ds <- getL k;newM (.lst (cutD ds lo hi))
 | .fl ds=>newM (.lst (cutD ds lo hi))
 | _=>Mo.stop
noncomputable def truD (x:D):Mo Bool:=match x with
 | .non=>pure false
 | .bl b=>pure b
 | .int i=>pure (i != 0)
 | .str s=>do need (s.length<=zj);pure ((s.length:Int) != 0)
 | .tup ds=>pure (!ds.isEmpty)
 | .fl ds=>pure (!ds.isEmpty)
 | .ob k=>do
  let o <- getM k
  (match o with
  | .lst ds=>pure (!ds.isEmpty)
  | .dic kvs=>pure (!kvs.isEmpty)
  )
noncomputable def itemsD (x:D):Mo (List D):=match x with
 | .tup ds=>pure ds
 | .fl ds=>pure ds
 | .ob k=>getL k
 | _=>Mo.stop
noncomputable def lstD (x:D):Mo (List D):=match x with
 | .fl ds=>pure ds
 | .ob k=>getL k
 | _=>Mo.stop
noncomputable def boolD:D->Option Bool
 | .bl b=>some b
 | _=>none
noncomputable def strO:D->Option Str
 | .str x=>some x
 | _=>none
noncomputable def intD:D->Option Int
 | .int i=>some i
 | _=>none
noncomputable def allS:List D->Option (List Str)
 | []=>some []
 | d::ds=>match strO d,allS ds with
  | some x,some xs=>some (x::xs)
  | _,_=>none
noncomputable def allI:List D->Option (List Int)
 | []=>some []
 | d::ds=>match intD d,allI ds with
  | some x,some xs=>some (x::xs)
  | _,_=>none
inductive Bl where
 | len | tuple | list | repr | all | any | min2 | max2 | abs | dict1 | minL
 deriving DecidableEq
noncomputable def blD (b:Bl)(xs:List D):Mo D:=match b,xs with
 | .len,[.str s]=>do need (s.length<=zj);pure (.int s.length)
 | .len,[.ob k]=>do
  let o <- getM k
  (match o with
  | .lst ds=>pure (.int ds.length)
  | .dic kvs=>pure (.int kvs.length)
  )
 | .len,[.tup ds]=>pure (.int ds.length)
 | .len,[.fl ds]=>pure (.int ds.length)
 | .tuple,[.tup ds]=>pure (.tup ds)
 | .tuple,[.fl ds]=>pure (.tup ds)
 | .tuple,[.ob k]=>do let ds <- getL k;pure (.tup ds)
 | .list,[x]=>do let ds <- itemsD x;newM (.lst ds)
 | .all,[.ob k]=>do let ds <- getL k;let bs <- lift (ds.mapM boolD);pure (.bl (bs.all id))
 | .any,[.ob k]=>do let ds <- getL k;let bs <- lift (ds.mapM boolD);pure (.bl (bs.any id))
 | .dict1,[.ob k]=>do let kvs <- getD k;newM (.dic kvs)
 | _,_=>Mo.stop
inductive Ty where
 | int | str | bool | list | tuple | dict
 deriving DecidableEq
noncomputable def tyD (t:Ty)(x:D):Mo Bool:=match x with
 | .non=>pure false
 | .bl _=>pure (t==.bool||t==.int)
 | .int _=>pure (t==.int)
 | .str _=>pure (t==.str)
 | .tup _=>pure (t==.tuple)
 | .fl _=>pure (t==.list)
 | .ob k=>do
  let o <- getM k
  (match o with
  | .lst _=>pure (t==.list)
  | .dic _=>pure (t==.dict)
  )
inductive Mt where
 | append | insert | join | get
 | extend
 | pop1
 deriving DecidableEq
noncomputable def rcvD (m:Mt)(x:D):Mo Unit:=match m,x with
 | .append,.ob k=>do let _ <- getL k;pure ()
 | .insert,.ob k=>do let _ <- getL k;pure ()
 | .extend,.ob k=>do let _ <- getL k;pure ()
 | .join,.str _=>pure ()
 | .get,.ob k=>do let _ <- getD k;pure ()
 | .pop1,.ob k=>do let _ <- getL k;pure ()
 | _,_=>Mo.stop
noncomputable def insIx (n:Nat)(i:Int):Nat:=if i < 0 then (i + (n:Int)).toNat else min i.toNat n
noncomputable def insD {α:Type}(xs:List α)(i:Int)(v:α):List α:=xs.take (insIx xs.length i)++v::xs.drop (insIx xs.length i)
noncomputable def isOb:D->Nat->Bool
 | .ob j,k=>j==k
 | _,_=>false
noncomputable def strD:D->Option Str
 | .str x=>some x
 | _=>none
noncomputable def glue (sep:List Nat):List (List Nat)->List Nat
 | []=>[]
 | [x]=>x
 | x::y::r=>x++sep++glue sep (y::r)
noncomputable def joinS (sep:Str)(ys:List Str):Str:=⟨(glue sep.cps.toList (ys.map (·.cps.toList))).toArray⟩
noncomputable def extD (x:D):Mo (List D):=match x with
 | .tup ds=>pure ds
 | .ob k=>getL k
 | _=>Mo.stop
noncomputable def mtD (m:Mt)(x:D)(xs:List D):Mo D:=match m,x,xs with
 | .append,.ob k,[v]=>do let ds <- getL k;need (ds.length < zj);putM k (.lst (ds++[v]));pure .non
 | .insert,.ob k,[.int i,v]=>do let ds <- getL k;need (ds.length < zj/\-(2 ^ 62)<=i/\i < 2 ^ 62);putM k (.lst (insD ds i v));pure .non
 | .join,.str t,[.ob k]=>do let ds <- getL k;let ys <- lift (ds.mapM strD);need ((ys.map (·.length)).sum + ys.length * t.length<=16777216);pure (.str (joinS t ys))
 | .get,.ob k,[y,v]=>do let kvs <- getD k;let q <- lift (kyD y);pure ((kvGet kvs q).getD v)
 | .pop1,.ob k,[.int i]=>do let ds <- getL k;need (0<=i/\i < 2 ^ 62);let y <- lift (ds[i.toNat]?);putM k (.lst (ds.eraseIdx i.toNat));pure y
 | .extend,.ob k,[y]=>do let es <- extD y;let ds <- getL k;need (ds.length + es.length<=zj/\isOb y k=false);putM k (.lst (ds++es));pure .non
 | _,_,_=>Mo.stop
inductive M0 where
 | clear | pop | reverse
 deriving DecidableEq
noncomputable def m0G {α:Type}(n:α)(m:M0)(xs:List α):Option (α×List α):=match m with
 | .clear=>some (n,[])
 | .reverse=>some (n,xs.reverse)
 | .pop=>(xs[xs.length - 1]?).map fun y=>(y,xs.dropLast)
noncomputable def clearO (m:M0)(x:D):Mo D:=match x with
 | .ob k=>do let ds <- getL k;let r <- lift (m0G .non m ds);putM k (.lst r.2);pure r.1
 | _=>Mo.stop
set_option genSizeOf false
set_option genInjectivity false
mutual
inductive IE where
 | var (i:Nat) | cint (i:Int) | cbl (b:Bool) | cnon | cstr (x:Str)
 | glb (x:Str)
 | bin (op:Operator) (a b:IE)
 | cmp (op:CmpOp) (a b:IE)
 | cmp2 (op op':CmpOp) (a b c:IE)
 | and (a b:IE) | or (a b:IE) | not (a:IE)
 | ifE (c:IC) (a b:IE)
 | tup (es:IEs) | lst (es:IEs) | dic0
 | idx (a b:IE) | slc (a:IE) (lo hi:IEo)
 | call (f:Str) (es:IEs) | blt (b:Bl) (es:IEs)
 | sortL (a:IE)
 | sset (a:IE)
 | srtK (a:IE)
 | lsk (a:IE)
 | intB (a:IE)
 | clr (m:M0) (a:IE)
 | neg (a:IE)
 | isI (a:IE) (t:Ty)
 | mth (m:Mt) (a:IE) (es:IEs)
 | comp (j:Nat) (it:IT) (c:ICo) (e:IE)
inductive IEs where
 | nil | cons (e:IE) (es:IEs)
inductive IEo where
 | none | some (e:IE)
inductive IT where
 | seq (e:IE) | rng1 (a:IE) | rng2 (a b:IE)
inductive IC where
 | cmp (e:IE) | tru (e:IE) | not (c:IC) | and (a b:IC) | or (a b:IC)
inductive ICo where
 | none | some (c:IC)
end
inductive IP where
 | seq (e:IE) | enum (e:IE)
mutual
inductive IS where
 | set (i:Nat) (e:IE) | setIx (o i e:IE) | expr (e:IE) | ret (e:IE) | retN | pass | brk | cnt
 | halt
 | ifS (c:IC) (a b:ISs) | forS (i:Nat) (it:IT) (b:ISs) | forP (i j:Nat) (it:IP) (b:ISs)
inductive ISs where
 | nil | cons (s:IS) (r:ISs)
end
set_option genSizeOf true
set_option genInjectivity true
noncomputable def leS (a b:Str):Bool:=!decide (b.cps.toList < a.cps.toList)
noncomputable def leI (a b:Int):Bool:=decide (a<=b)
noncomputable def sortS (xs:List Str):List Str:=xs.mergeSort leS
noncomputable def sortI (xs:List Int):List Int:=xs.mergeSort leI
theorem leS_trans (a b c:Str)(h1:leS a b=true)(h2:leS b c=true):leS a c=true:=by
 simp only[leS,xt,decide_eq_false_iff_not,wW]at *;exact List.le_trans h1 h2
theorem leS_total (a b:Str):(leS a b||leS b a)=true:=by
 simp only[leS,yU,xt,decide_eq_false_iff_not,wW];exact List.le_total _ _
theorem leS_anti {a b:Str}(h1:leS a b=true)(h2:leS b a=true):a=b:=by
 simp only[leS,xt,decide_eq_false_iff_not,wW]at *;have e:=List.le_antisymm h1 h2;cases a;cases b;congr 1;exact xi.mp e
theorem sortS_perm (xs:List Str):(sortS xs).Perm xs:=wq _ _
theorem sortS_pw (xs:List Str):(sortS xs).Pairwise fun a b=>leS a b=true:=xK leS_trans leS_total xs
theorem sortS_uniq {xs ys:List Str}(p:ys.Perm xs)(h:ys.Pairwise fun a b=>leS a b=true):ys=sortS xs :=
 List.Perm.eq_of_pairwise (fun _ _ _ _=>leS_anti) h (sortS_pw xs) (p.trans (sortS_perm xs).symm)
theorem sortS_same {xs ys:List Str}(p:ys.Perm xs):sortS ys=sortS xs:=sortS_uniq ((sortS_perm ys).trans p) (sortS_pw ys)
theorem sortI_perm (xs:List Int):(sortI xs).Perm xs:=wq _ _
theorem sortI_pw (xs:List Int):(sortI xs).Pairwise fun a b=>a<=b:=by
 have:=xK (le:=leI) (fun a b c h1 h2=>by simp only[leI,decide_eq_true_eq]at *;omega) (fun a b=>by simp only[leI,yU,decide_eq_true_eq];omega) xs
 exact this.imp fun h=>by simpa [leI] using h
theorem sortI_uniq {xs ys:List Int}(p:ys.Perm xs)(h:ys.Pairwise fun a b=>a<=b):ys=sortI xs :=
 List.Perm.eq_of_pairwise (fun _ _ _ _=>Int.le_antisymm) h (sortI_pw xs) (p.trans (sortI_perm xs).symm)
theorem allS_map (xs:List Str):allS (xs.map .str)=some xs:=by
 induction xs with
 | nil=>rfl
 | cons x r ih=>simp only[zD,allS,strO,ih]
theorem allS_eq:∀ {ds:List D} {xs:List Str},allS ds=some xs->ds=xs.map .str
 | [],xs,h=>by cases h;rfl
 | d::ds,xs,h=>by
  simp only[allS]at h;cases d <;> simp only[strO,reduceCtorEq]at h;cases e:allS ds with
  | none=>rw[e]at h;cases h
  | some ys=>rw[e]at h;cases h;rw[allS_eq e];rfl
theorem allI_eq:∀ {ds:List D} {xs:List Int},allI ds=some xs->ds=xs.map .int
 | [],xs,h=>by cases h;rfl
 | d::ds,xs,h=>by
  simp only[allI]at h;cases d <;> simp only[intD,reduceCtorEq]at h;cases e:allI ds with
  | none=>rw[e]at h;cases h
  | some ys=>rw[e]at h;cases h;rw[allI_eq e];rfl
noncomputable def addS (xs:List Str)(x:Str):List Str:=if x∈xs then xs else xs++[x]
noncomputable def addAll (xs:List Str):List Str->List Str
 | []=>xs
 | x::r=>addAll (addS xs x) r
noncomputable def setS (x:D):Mo D:=do
 let ds <- lstD x
 let xs <- lift (allS ds)
 need ((addAll [] xs).length < 64)
 newM (.lst ((sortS (addAll [] xs)).map .str))
noncomputable def strKeys:List (Ky×D)->Option (List Str)
 | []=>some []
 | kv::r=>match kv.1,strKeys r with
  | .inr x,some xs=>some (x::xs)
  | _,_=>none
noncomputable def keyS (x:D):Mo D:=match x with
 | .ob k=>do
  let kvs <- getD k
  let xs <- lift (strKeys kvs)
  need (xs.length < 64)
  newM (.lst ((sortS xs).map .str))
 | _=>Mo.stop
noncomputable def keysL (x:D):Mo D:=match x with
 | .ob k=>do
  let kvs <- getD k
  newM (.lst (kvs.map fun kv=>dK kv.1))
 | _=>Mo.stop
noncomputable def sortF (ds:List D):Option (List D):=match allS ds with
 | some xs=>some ((sortS xs).map .str)
 | none=>match allI ds with
  | some xs=>some ((sortI xs).map .int)
  | none=>none
end L3
namespace L3
open PySem
structure Ctx where
 fn:Str->List D->Mo D
 gl:Str->Option D
 srt:List D->Option (List D)
 wh:Nat
inductive Fl where
 | nx (ρ:Ev) | rt (d:D) | bk (ρ:Ev) | ct (ρ:Ev)
structure Src where
 ck:Option (Nat×List D)
 ds:List D
noncomputable def okM (ck:Option (Nat×List D))(M:MH):Prop:=match ck with
 | none=>True
 | some (i,all)=>M[i]?=some (.lst all)
noncomputable def srcD (x:D):Mo Src:=match x with
 | .tup ds=>pure ⟨none,ds⟩
 | .fl ds=>pure ⟨none,ds⟩
 | .str s=>do need (s.length<=zj);pure ⟨none,s.cps.toList.map sgn⟩
 | .ob k=>do let ds <- getL k;pure ⟨some (k,ds),ds⟩
 | _=>Mo.stop
noncomputable def small (i:Int):Prop:=-(2 ^ 62)<=i/\i < 2 ^ 62
noncomputable instance (i:Int):Decidable (small i):=by unfold small;infer_instance
noncomputable def rngD (lo hi:Int):List D:=(List.range (hi - lo).toNat).map fun (k:Nat)=>D.int (lo + k)
open Classical in
noncomputable def stand (ck:Option (Nat×List D)):Mo Unit:=fun M=>if okM ck M then some (.ok (),M) else none
noncomputable def loopD (ck:Option (Nat×List D))(i:Nat)(body:Ev->Mo Fl):List D->Ev->Mo Fl
 | [],ρ=>do stand ck;pure (.nx ρ)
 | d::ds,ρ=>do
  stand ck
  let f <- body (ρ.set i (some d))
  (match f with
  | .nx ρ'=>loopD ck i body ds ρ'
  | .ct ρ'=>loopD ck i body ds ρ'
  | .bk ρ'=>pure (.nx ρ')
  | .rt v=>pure (.rt v))
noncomputable def enumD (ds:List D):List D:=ds.mapIdx fun n d=>.tup [.int n,d]
noncomputable def enumS (x:D):Mo Src:=match x with
 | .tup ds=>pure ⟨none,enumD ds⟩
 | .fl ds=>pure ⟨none,enumD ds⟩
 | .ob k=>do let ds <- getL k;pure ⟨some (k,ds),enumD ds⟩
 | _=>Mo.stop
noncomputable def pairD:D->Option (D×D)
 | .tup [x,y]=>some (x,y)
 | _=>none
noncomputable def loopP (ck:Option (Nat×List D))(i j:Nat)(body:Ev->Mo Fl):List D->Ev->Mo Fl
 | [],ρ=>do stand ck;pure (.nx ρ)
 | d::ds,ρ=>do
  stand ck
  let p <- lift (pairD d)
  let f <- body ((ρ.set i (some p.1)).set j (some p.2))
  (match f with
  | .nx ρ'=>loopP ck i j body ds ρ'
  | .ct ρ'=>loopP ck i j body ds ρ'
  | .bk ρ'=>pure (.nx ρ')
  | .rt v=>pure (.rt v))
noncomputable def compD (ck:Option (Nat×List D))(c:Ev->Mo Bool)(e:Ev->Mo D)(ρ:Ev):List D->Mo (List D)
 | []=>do stand ck;pure []
 | d::ds=>do
  stand ck
  let b <- c (some d::ρ)
  if b=true then do
   let y <- e (some d::ρ)
   let ys <- compD ck c e ρ ds
   pure (y::ys)
  else compD ck c e ρ ds
noncomputable def varD (ρ:Ev)(i:Nat):Mo D:=match ρ[i]? with
 | some (some d)=>pure d
 | _=>Mo.stop
mutual
noncomputable def semE (Γ:Ctx):IE->Ev->Mo D
 | .var i,ρ=>varD ρ i
 | .cint i,_=>pure (.int i)
 | .cbl b,_=>pure (.bl b)
 | .cnon,_=>pure .non
 | .cstr x,_=>pure (.str x)
 | .glb x,_=>lift (Γ.gl x)
 | .bin op a b,ρ=>do let x <- semE Γ a ρ;let y <- semE Γ b ρ;opD op x y
 | .cmp op a b,ρ=>do let x <- semE Γ a ρ;let y <- semE Γ b ρ;let k <- cmpD op x y;pure (.bl k)
 | .cmp2 op op' a b c,ρ=>do
  let x <- semE Γ a ρ
  let y <- semE Γ b ρ
  let k <- cmpD op x y
  if k=true then do let z <- semE Γ c ρ;let k' <- cmpD op' y z;pure (.bl k') else pure (.bl false)
 | .and a b,ρ=>do let x <- semE Γ a ρ;let k <- lift (boolD x);if k=true then semE Γ b ρ else pure (.bl false)
 | .or a b,ρ=>do let x <- semE Γ a ρ;let k <- lift (boolD x);if k=true then pure (.bl true) else semE Γ b ρ
 | .not a,ρ=>do let x <- semE Γ a ρ;let k <- lift (boolD x);pure (.bl (!k))
 | .ifE c a b,ρ=>do let k <- semC Γ c ρ;if k=true then semE Γ a ρ else semE Γ b ρ
 | .tup es,ρ=>do let xs <- semEs Γ es ρ;need (xs.length<=zj);pure (.tup xs)
 | .lst es,ρ=>do let xs <- semEs Γ es ρ;need (xs.length<=zj);newM (.lst xs)
 | .dic0,_=>newM (.dic [])
 | .idx a b,ρ=>do let x <- semE Γ a ρ;let y <- semE Γ b ρ;getIx x y
 | .slc a lo hi,ρ=>do let x <- semE Γ a ρ;let l <- semO Γ lo ρ;let h <- semO Γ hi ρ;sliceD x l h
 | .call f es,ρ=>do let xs <- semEs Γ es ρ;Γ.fn f xs
 | .blt b es,ρ=>do let xs <- semEs Γ es ρ;blD b xs
 | .comp j it c e,ρ=>do
  let s <- semT Γ it ρ
  need (s.ds.length<=zj)
  let ys <- compD s.ck (semCo Γ c) (semE Γ e) (ρ.set j none) s.ds
  newM (.lst ys)
 | .sset a,ρ=>do let x <- semE Γ a ρ;setS x
 | .srtK a,ρ=>do let x <- semE Γ a ρ;keyS x
 | .lsk a,ρ=>do let x <- semE Γ a ρ;keysL x
 | .sortL a,ρ=>do
  let x <- semE Γ a ρ
  let ds <- lstD x
  let ys <- lift (Γ.srt ds)
  newM (.lst ys)
 | .intB a,ρ=>do let x <- semE Γ a ρ;let b <- lift (boolD x);pure (.int (if b then 1 else 0))
 | .clr m a,ρ=>do let x <- semE Γ a ρ;clearO m x
 | .neg a,ρ=>do
  let x <- semE Γ a ρ
  (match x with
  | .int i=>pure (.int (-i))
  | _=>Mo.stop)
 | .isI a t,ρ=>do let x <- semE Γ a ρ;let k <- tyD t x;pure (.bl k)
 | .mth m a es,ρ=>do let x <- semE Γ a ρ;rcvD m x;let xs <- semEs Γ es ρ;mtD m x xs
noncomputable def semEs (Γ:Ctx):IEs->Ev->Mo (List D)
 | .nil,_=>pure []
 | .cons e es,ρ=>do let x <- semE Γ e ρ;let xs <- semEs Γ es ρ;pure (x::xs)
noncomputable def semO (Γ:Ctx):IEo->Ev->Mo (Option Int)
 | .none,_=>pure none
 | .some e,ρ=>do
  let x <- semE Γ e ρ
  (match x with
  | .int i=>pure (some i)
  | _=>Mo.stop)
noncomputable def semT (Γ:Ctx):IT->Ev->Mo Src
 | .seq e,ρ=>do let x <- semE Γ e ρ;srcD x
 | .rng1 a,ρ=>do
  let x <- semE Γ a ρ
  (match x with
  | .int i=>do need (small i);pure ⟨none,rngD 0 i⟩
  | _=>Mo.stop)
 | .rng2 a b,ρ=>do
  let x <- semE Γ a ρ
  let y <- semE Γ b ρ
  (match x,y with
  | .int i,.int j=>do need (small i/\small j);pure ⟨none,rngD i j⟩
  | _,_=>Mo.stop)
noncomputable def semC (Γ:Ctx):IC->Ev->Mo Bool
 | .cmp e,ρ=>do let x <- semE Γ e ρ;lift (boolD x)
 | .tru e,ρ=>do let x <- semE Γ e ρ;truD x
 | .not c,ρ=>do let k <- semC Γ c ρ;pure (!k)
 | .and a b,ρ=>do let k <- semC Γ a ρ;if k=true then semC Γ b ρ else pure false
 | .or a b,ρ=>do let k <- semC Γ a ρ;if k=true then pure true else semC Γ b ρ
noncomputable def semCo (Γ:Ctx):ICo->Ev->Mo Bool
 | .none,_=>pure true
 | .some c,ρ=>semC Γ c ρ
end
noncomputable def semP (Γ:Ctx):IP->Ev->Mo Src
 | .seq e,ρ=>do let x <- semE Γ e ρ;srcD x
 | .enum e,ρ=>do let x <- semE Γ e ρ;enumS x
mutual
noncomputable def semS (Γ:Ctx):IS->Ev->Mo Fl
 | .set i e,ρ=>do let x <- semE Γ e ρ;pure (.nx (ρ.set i (some x)))
 | .setIx o i e,ρ=>do let v <- semE Γ e ρ;let x <- semE Γ o ρ;let y <- semE Γ i ρ;setIx x y v;pure (.nx ρ)
 | .expr e,ρ=>do let _ <- semE Γ e ρ;pure (.nx ρ)
 | .ret e,ρ=>do let x <- semE Γ e ρ;pure (.rt x)
 | .retN,_=>pure (.rt .non)
 | .pass,ρ=>pure (.nx ρ)
 | .brk,ρ=>pure (.bk ρ)
 | .cnt,ρ=>pure (.ct ρ)
 | .halt,_=>Mo.stop
 | .ifS c a b,ρ=>do let k <- semC Γ c ρ;if k=true then semSs Γ a ρ else semSs Γ b ρ
 | .forS i it b,ρ=>do let s <- semT Γ it ρ;loopD s.ck i (semSs Γ b) s.ds ρ
 | .forP i j it b,ρ=>do let s <- semP Γ it ρ;loopP s.ck i j (semSs Γ b) s.ds ρ
noncomputable def semSs (Γ:Ctx):ISs->Ev->Mo Fl
 | .nil,ρ=>pure (.nx ρ)
 | .cons s r,ρ=>do
  let f <- semS Γ s ρ
  (match f with
  | .nx ρ'=>semSs Γ r ρ'
  | .rt v=>pure (.rt v)
  | .bk ρ'=>pure (.bk ρ')
  | .ct ρ'=>pure (.ct ρ'))
end
noncomputable def semF (Γ:Ctx)(n:Nat)(b:ISs)(xs:List D):Mo D:=do
 let f <- semSs Γ b (xs.map some++ya (n - xs.length) none)
 (match f with
 | .nx _=>pure .non
 | .rt v=>pure v
 | .bk _=>Mo.stop
 | .ct _=>Mo.stop)
structure Fd where
 n:Nat
 p:Nat
 b:ISs
noncomputable def CtxN (tab:List (Str×Fd))(gl:Str->Option D)(srt:List D->Option (List D))(wh:Nat):Nat->Ctx
 | 0=>⟨fun _ _=>Mo.stop,gl,srt,wh⟩
 | k + 1=>⟨fun f xs=>match tab.lookup f with
  | some d=>do need (xs.length=d.p);semF (CtxN tab gl srt wh k) d.n d.b xs
  | none=>Mo.stop,gl,srt,wh⟩
structure Sc where
 sc:Scope
 N:List Str
 fns:List Str
 gls:List Str
 bls:List Str
noncomputable def Sc.kind (S:Sc)(x:Str):Option NameKind:=S.sc.names.lookup x
noncomputable def Sc.vis (S:Sc)(x:Str):Bool:=S.kind x==some .local||S.kind x==some .cell||S.kind x==some .free
noncomputable def Sc.loc (S:Sc)(x:Str):Bool:=S.kind x==some .local||S.kind x==some .cell
noncomputable def Sc.glo (S:Sc)(x:Str):Bool:=S.kind x==some .globalImplicit
noncomputable def slot (N:List Str)(x:Str):Option Nat:=N.findIdx? (·==x)
noncomputable def blOf (x:Str)(n:Nat):Option Bl :=
 if x==("len" : Str)&&n==1 then some .len else if x==("tuple" : Str)&&n==1 then some .tuple else if x==("list" : Str)&&n==1 then some .list
 else if x==("repr" : Str)&&n==1 then some .repr else if x==("all" : Str)&&n==1 then some .all else if x==("any" : Str)&&n==1 then some .any
 else if x==("min" : Str)&&n==2 then some .min2 else if x==("max" : Str)&&n==2 then some .max2 else if x==("abs" : Str)&&n==1 then some .abs else if x==("dict" : Str)&&n==1 then some .dict1 else if x==("min" : Str)&&n==1 then some .minL else none
noncomputable def plainE:Expr->Bool
 | .Starred _ _=>false
 | _=>true
noncomputable def okName (x:Str):Bool:=x != ("__debug__" : Str)&&x != ("__classdict__" : Str)&&x != ("__name__" : Str)
noncomputable def ixE:Expr->Bool
 | .Name _ _=>true | .Constant _ _ _=>true | .BinOp _ _ _ _=>true | .Compare _ _ _ _=>true | .BoolOp _ _ _=>true | .UnaryOp _ _ _=>true | .IfExp _ _ _ _=>true
 | .List _ _=>true | .Subscript _ _ _=>true | .Call _ _ _ _=>true | _=>false
noncomputable def bsE:Expr->Bool
 | .Name _ _=>true | .Constant _ _ _=>true | .BinOp _ _ _ _=>true | .Subscript _ _ _=>true | .List _ _=>true | .Tuple _ _ _=>true | .Call _ (_::_) _ _=>true | _=>false
noncomputable def noComp:Expr->Bool
 | .ListComp _ _ _ _=>false
 | .SetComp _ _ _ _=>false
 | .DictComp _ _ _ _ _=>false
 | _=>true
noncomputable def blank (N:List Str)(xs:List Str):List Str:=N.map fun y=>if xs.contains y then "" else y
noncomputable def compOk (S:Sc)(sc:Scope)(xs:List Str):Bool :=
 sc.kind==.function&&(xs.all fun x=>sc.names.lookup x==some .local&&(x != (".0" : Str))&&(x != ("" : Str))) &&
 sc.names.all (fun p=>p.2 != .cell&&(p.2 != .local||(xs.contains p.1||p.1==(".0" : Str)))) &&
 sc.names.all (fun p=>p.2 != .free||(S.kind p.1==some .cell||S.kind p.1==some .free)) &&
 sc.names.all (fun p=>sc.names.lookup p.1==some p.2&&p.1 != ("" : Str))&&(S.N.all fun y=>y != (".0" : Str))&&decide (xs++blank S.N xs).Nodup
noncomputable def Sc.comp (S:Sc)(sc:Scope)(xs:List Str):Sc:={ S with sc:=sc,N:=xs++blank S.N xs }
noncomputable def inDomOp (op:Operator):Bool:=op==.Add||op==.Sub||op==.Mult||op==.FloorDiv||op==.Mod||op==.Pow
noncomputable def callK (S:Sc)(f:Str)(len:Nat)(xs:Option IEs):Option IE:=if okName f&&S.glo f then
 (if S.fns.contains f then xs.map (.call f)
 else if S.bls.contains f then (match blOf f len with
  | some b=>xs.map (.blt b)
  | none=>none)
 else none) else none
noncomputable def tyOf (t:Str):Option Ty :=
 if t==("int" : Str) then some .int else if t==("str" : Str) then some .str else if t==("bool" : Str) then some .bool
 else if t==("list" : Str) then some .list else if t==("tuple" : Str) then some .tuple else if t==("dict" : Str) then some .dict else none
noncomputable def mtOf (m:Str)(n:Nat):Option Mt :=
 if m==("append" : Str)&&n==1 then some .append else if m==("insert" : Str)&&n==2 then some .insert else
 if m==("extend" : Str)&&n==1 then some .extend else
 if m==("pop" : Str)&&n==1 then some .pop1 else
 if m==("join" : Str)&&n==1 then some .join else if m==("get" : Str)&&n==2 then some .get else none
noncomputable def isiOk (S:Sc)(f t:Str):Bool:=f==("isinstance" : Str)&&okName f&&S.glo f&&S.bls.contains f&&okName t&&S.glo t&&S.bls.contains t
noncomputable def nameK (S:Sc)(x:Str):Option IE:=if okName x then (if S.vis x then (slot S.N x).map .var else if S.glo x&&S.gls.contains x then some (.glb x) else none) else none
noncomputable def constK:Const->Option IE
 | .int i=>some (.cint i)
 | .bool b=>some (.cbl b)
 | .none=>some .cnon
 | .str x=>some (.cstr x)
 | _=>none
noncomputable def isRng:Expr->Bool
 | .Call (.Name f _) _ _ _=>f==("range" : Str)
 | _=>false
noncomputable def cmpK (r:Expr->Option IE)(a:Expr)(ops:List CmpOp)(bs:List Expr):Option IE:=match ops,bs with
 | [op],[b]=>if behindInMarks op b then none else do let x <- r a;let y <- r b;some (.cmp op x y)
 | [op,op'],[b,c]=>if behindInMarks op' c then none else do let x <- r a;let y <- r b;let z <- r c;some (.cmp2 op op' x y z)
 | _,_=>none
noncomputable def andor:BoolOp->IE->IE->IE
 | .And=>.and
 | .Or=>.or
noncomputable def boolK (r:Expr->Option IE)(op:BoolOp)(es:List Expr)(p:Pos):Option IE:=match es with
 | [a,b]=>do let x <- r a;let y <- r b;some (andor op x y)
 | a::b::c::l=>do let x <- r a;let y <- r (.BoolOp op (b::c::l) p);some (andor op x y)
 | _=>none
noncomputable def unK (r:Expr->Option IE)(op:UnaryOp)(a:Expr):Option IE:=match op with
 | .Not=>do let x <- r a;some (.not x)
 | .USub=>do let x <- r a;some (.neg x)
 | _=>none
noncomputable def dictK (_:Expr->Option IE)(ks:List (Option Expr))(vs:List Expr):Option IE:=match ks,vs with
 | [],[]=>some .dic0
 | _,_=>none
noncomputable def subK (r:Expr->Option IE)(ro:Option Expr->Option IEo)(a b:Expr):Option IE:=match b with
 | .Slice lo hi none _=>do let x <- r a;let l <- ro lo;let h <- ro hi;some (.slc x l h)
 | b=>if ixE b then do let x <- r a;let y <- r b;some (.idx x y) else none
noncomputable def itemsE:Expr->Option (Expr×Str×Pos×Pos)
 | .Call (.Attribute o m p2) [] [] p3=>some (o,m,p2,p3)
 | _=>none
noncomputable def nmE:Expr->Option (Str×Pos)
 | .Name t p=>some (t,p)
 | _=>none
noncomputable def setE:Expr->Option (Pos×Expr×Pos)
 | .Call (.Name g p) [b] [] q=>if g==("set" : Str) then some (p,b,q) else none
 | _=>none
noncomputable def dkName:Expr->Bool
 | .Name x _=>x==("_law_some" : Str)||x==("_law_here" : Str)
 | _=>false
noncomputable def sortK (S:Sc)(r:Expr->Option IE)(f:Str)(as:List Expr):Option IE:=match as with
 | [a]=>(match itemsE a with
  | some _=>none
  | none=>(match setE a with
   | some (_,b,_)=>if plainE b&&(f==("sorted" : Str)&&okName f&&S.glo f&&S.bls.contains f&&(S.glo ("set" : Str)&&S.bls.contains ("set" : Str))) then do let x <- r b;some (.sset x) else none
   | none =>
    if dkName a then (if plainE a&&(f==("sorted" : Str)&&okName f&&S.glo f&&S.bls.contains f) then do let x <- r a;some (.srtK x) else none)
    else
    if plainE a&&(f==("sorted" : Str)&&okName f&&S.glo f&&S.bls.contains f) then do let x <- r a;some (.sortL x) else none))
 | _=>none
noncomputable def rngE:Expr->Option (Str×Pos×List Expr×Pos)
 | .Call (.Name f p) as [] q=>some (f,p,as,q)
 | _=>none
noncomputable def rngOk (S:Sc)(f:Str)(as:List Expr):Bool:=f==("range" : Str)&&okName f&&S.glo f&&S.bls.contains f&&as.all plainE
noncomputable def intK (S:Sc)(r:Expr->Option IE)(f:Str)(as:List Expr)(k:Option IE):Option IE:=match as with
 | [a]=>if (f==("int" : Str)&&okName f&&S.glo f&&S.bls.contains f) then (if plainE a then do let x <- r a;some (.intB x) else none) else k
 | _=>k
noncomputable def isiK (S:Sc)(r:Expr->Option IE)(f:Str)(as:List Expr):Option IE:=match as with
 | [a,t]=>(match nmE t with
  | some (t',_)=>if isiOk S f t'&&plainE a then (match tyOf t' with
   | some k=>do let x <- r a;some (.isI x k)
   | none=>none) else none
  | none=>none)
 | _=>none
noncomputable def m0Of (m:Str):Option M0:=if m==("clear" : Str) then some .clear else if m==("pop" : Str) then some .pop else if m==("reverse" : Str) then some .reverse else none
noncomputable def attrK (r:Expr->Option IE)(rs:List Expr->Option IEs)(o:Expr)(m:Str)(p2 p3:Pos)(as:List Expr):Option IE:=match as with
 | e::es=>if bsE o&&(p2.endLine==p3.line&&decide ((e::es).length < 29)) then (match
   mtOf m (e::es).length with
   | some k=>do let x <- r o;let xs <- rs (e::es);some (.mth k x xs)
   | none=>none) else none
 | []=>if bsE o&&p2.endLine==p3.line then (match m0Of m with
   | some k=>do let x <- r o;some (.clr k x)
   | none=>none) else none
noncomputable def lkName:Expr->Bool
 | .Name x _=>x==("_law_splits_here" : Str)
 | _=>false
noncomputable def lskK (S:Sc)(r:Expr->Option IE)(f:Str)(as:List Expr)(k:Option IE):Option IE:=match as with
 | [a]=>if lkName a&&(f==("list" : Str)&&okName f&&S.glo f&&S.bls.contains f) then (if plainE a then do let x <- r a;some (.lsk x) else none) else k
 | _=>k
noncomputable def fnK (S:Sc)(r:Expr->Option IE)(rs:List Expr->Option IEs)(f:Str)(as:List Expr):Option IE:=match as with
 | e::es=>if f==("sorted" : Str) then sortK S r f (e::es) else if f==("isinstance" : Str) then isiK S r f (e::es) else
  intK S r f (e::es) <|
  lskK S r f (e::es) <|
  callK S f (e::es).length (rs (e::es))
 | _=>none
noncomputable def callE (S:Sc)(r:Expr->Option IE)(rs:List Expr->Option IEs)(f:Expr)(as:List Expr)(p:Pos):Option IE:=match f with
 | .Name g _=>fnK S r rs g as
 | .Attribute o m p2=>attrK r rs o m p2 p as
 | _=>none
noncomputable def rngK (S:Sc)(r:Expr->Option IE)(f:Str)(as:List Expr):Option IT:=if rngOk S f as then (match as with
 | [a]=>do let x <- r a;some (.rng1 x)
 | [a,b]=>do let x <- r a;let y <- r b;some (.rng2 x y)
 | _=>none) else none
noncomputable def itE:Expr->Bool
 | .Name _ _=>true | .Subscript _ _ _=>true | .BinOp _ _ _ _=>true | .Call _ _ _ _=>true | .List _ _=>true | .ListComp _ _ _ _=>true | _=>false
noncomputable def andorC:BoolOp->IC->IC->IC
 | .And=>.and
 | .Or=>.or
noncomputable def condK (r:Expr->Option IC)(op:BoolOp)(es:List Expr):Option IC:=match es with
 | [a,b]=>do let k <- r a;let j <- r b;some (andorC op k j)
 | [a,b,c]=>do let k <- r a;let j <- r b;let l <- r c;some (andorC op k (andorC op j l))
 | _=>none
noncomputable def cmpR (S:Sc)(r:Expr->Option IE)(a:Expr)(ops:List CmpOp)(bs:List Expr):Option IE:=match ops,bs with
 | [op],[b]=>if isRng b then
  none
  else cmpK r a [op] [b]
 | ops,bs=>cmpK r a ops bs
noncomputable def gensK:List Comprehension->Option (Str×Pos×Expr×List Expr)
 | [⟨.Name x p,iter,ifs,0⟩]=>some (x,p,iter,ifs)
 | _=>none
mutual
noncomputable def cE (S:Sc):Nat->Expr->Option IE
 | 0,_=>none
 | n + 1,e=>match e with
  | .Name x _=>nameK S x
  | .Constant c _ _=>constK c
  | .BinOp a op b _=>if inDomOp op then do let x <- cE S n a;let y <- cE S n b;some (.bin op x y) else none
  | .Compare a ops bs _=>cmpR S (cE S n) a ops bs
  | .BoolOp op es p=>boolK (cE S n) op es p
  | .UnaryOp op a _=>unK (cE S n) op a
  | .IfExp c a b _=>do let k <- cC S n c;let x <- cE S n a;let y <- cE S n b;some (.ifE k x y)
  | .Tuple es _ _=>do let xs <- cEs S n es;some (.tup xs)
  | .List es _=>do let xs <- cEs S n es;some (.lst xs)
  | .Dict ks vs _=>dictK (cE S n) ks vs
  | .Subscript a b _=>subK (cE S n) (cO S n) a b
  | .Call f as ks p=>if ks.isEmpty then callE S (cE S n) (cEs S n) f as p else none
  | .ListComp elt gs sc _=>(match gensK gs with
   | some (x,_,iter,ifs)=>if compOk S sc [x] then do
     let it <- cT S n iter
     let c <- cCo (S.comp sc [x]) n ifs
     let e <- cE (S.comp sc [x]) n elt
     some (.comp ((slot S.N x).getD S.N.length) it c e) else none
   | none=>none)
  | _=>none
noncomputable def cEs (S:Sc):Nat->List Expr->Option IEs
 | 0,_=>none
 | _ + 1,[]=>some .nil
 | n + 1,e::es=>if plainE e then do let x <- cE S n e;let xs <- cEs S n es;some (.cons x xs) else none
noncomputable def cO (S:Sc):Nat->Option Expr->Option IEo
 | 0,_=>none
 | _ + 1,none=>some .none
 | n + 1,some e=>do let x <- cE S n e;some (.some x)
noncomputable def cT (S:Sc):Nat->Expr->Option IT
 | 0,_=>none
 | n + 1,e=>match rngE e with
  | some (f,_,as,_)=>if f==("range" : Str) then rngK S (cE S n) f as else (cE S n e).map .seq
  | none=>if itE e then (cE S n e).map .seq else none
noncomputable def cC (S:Sc):Nat->Expr->Option IC
 | 0,_=>none
 | n + 1,e=>match e with
  | .UnaryOp op a _=>if op==.Not then (cC S n a).map .not else none
  | .BoolOp op es _=>condK (cC S n) op es
  | .Compare a ops bs _=>(cmpR S (cE S n) a ops bs).map .cmp
  | .Name x p=>(cE S n (.Name x p)).map .tru
  | .Call f as ks p=>(cE S n (.Call f as ks p)).map .tru
  | .Subscript a b p=>(cE S n (.Subscript a b p)).map .tru
  | _=>none
noncomputable def cCo (S:Sc):Nat->List Expr->Option ICo
 | 0,_=>none
 | _ + 1,[]=>some .none
 | n + 1,[c]=>do let k <- cC S n c;some (.some k)
 | _,_=>none
end
noncomputable def compP:Expr->Option (Expr×List Comprehension×Scope)
 | .ListComp elt gs sc _=>some (elt,gs,sc)
 | _=>none
noncomputable def asgN (S:Sc)(n:Nat)(x:Str)(v:Expr):Option IS:=match compP v with
 | some (elt,gs,sc)=>(match gensK gs with
  | some (y,_,iter,ifs)=>if S.loc x&&compOk S sc [y] then do
   let i <- slot S.N x
   let it <- cT S n iter
   let c <- cCo (S.comp sc [y]) n ifs
   let e <- cE (S.comp sc [y]) n elt
   some (.set i (.comp ((slot S.N y).getD S.N.length) it c e)) else none
  | none=>none)
 | none=>if S.loc x&&noComp v then do let i <- slot S.N x;let y <- cE S n v;some (.set i y) else none
noncomputable def asgT (S:Sc)(n:Nat)(t:Expr)(v:Expr):Option IS:=match t with
 | .Name x _=>asgN S n x v
 | .Subscript o i _=>if ixE i then do let y <- cE S n v;let a <- cE S n o;let b <- cE S n i;some (.setIx a b y) else none
 | _=>none
noncomputable def asgK (S:Sc)(n:Nat)(ts:List Expr)(v:Expr):Option IS:=match ts with
 | []=>none
 | t::r=>(match r with
  | []=>asgT S n t v
  | _::_=>none)
noncomputable def enumK (S:Sc)(r:Expr->Option IE)(f:Str)(as:List Expr):Option IP:=match as with
 | []=>none
 | a::l=>(match l with
  | []=>if okName f&&S.glo f&&S.bls.contains f&&plainE a then (r a).map .enum else none
  | _::_=>none)
noncomputable def cP (S:Sc)(n:Nat)(e:Expr):Option IP:=match rngE e with
 | some (f,_,as,_)=>if f==("enumerate" : Str) then enumK S (cE S n) f as else (cE S n e).map .seq
 | none=>if itE e then (cE S n e).map .seq else none
noncomputable def pair2 (S:Sc)(n:Nat)(a b iter:Expr)(r:Option ISs):Option IS:=match nmE a with
 | none=>none
 | some (x,_)=>(match nmE b with
  | none=>none
  | some (y,_)=>if S.loc x&&S.loc y then do let i <- slot S.N x;let j <- slot S.N y;let it <- cP S n iter;let z <- r;some (.forP i j it z) else none)
noncomputable def pairT (S:Sc)(n:Nat)(ts:List Expr)(iter:Expr)(r:Option ISs):Option IS:=match ts with
 | []=>none
 | a::l=>(match l with
  | []=>none
  | b::l2=>(match l2 with
   | []=>pair2 S n a b iter r
   | _::_=>none))
noncomputable def forT (S:Sc)(n:Nat)(t iter:Expr)(r:Option ISs):Option IS:=match t with
 | .Name x _=>if S.loc x then do let i <- slot S.N x;let it <- cT S n iter;let y <- r;some (.forS i it y) else none
 | .Tuple ts _ _=>pairT S n ts iter r
 | _=>none
noncomputable def noneK (o:List Stmt)(r:Option IS):Option IS:=match o with
 | []=>r
 | _::_=>none
mutual
noncomputable def cS (S:Sc):Nat->Stmt->Option IS
 | 0,_=>none
 | n + 1,s=>match s with
  | .Assign ts v _=>asgK S n ts v
  | .Expr e _=>if noComp e then do let y <- cE S n e;some (.expr y) else none
  | .Return o _=>(match o with
   | some e=>do let y <- cE S n e;some (.ret y)
   | none=>some .retN)
  | .Raise _ _ _=>some .halt
  | .Pass _=>some .pass
  | .Break _=>some .brk
  | .Continue _=>some .cnt
  | .If c a b _=>do let k <- cC S n c;let x <- cSs S n a;let y <- cSs S n b;some (.ifS k x y)
  | .For t iter b o _=>noneK o (forT S n t iter (cSs S n b))
  | _=>none
noncomputable def cSs (S:Sc):Nat->List Stmt->Option ISs
 | 0,_=>none
 | _ + 1,[]=>some .nil
 | n + 1,s::r=>do let x <- cS S n s;let y <- cSs S n r;some (.cons x y)
end
end L3
namespace L2
open PySem PySem.Spec PyProof.Rows
theorem codeAny_compLoop_own {prog:Program}{w:World}{A:Around}{R:Result->Shared->Prop}{s:Shared}{elt target iter:Expr}{ifs:List Expr}{scope:Scope}{pos:Pos}{it acc:Value}{env:Env}(I:Nat->Shared->Prop)
  (turn:∀ n s,I n s->wpAny (model prog w) A (pyNext it) (fun r s₁=>match r with
   | none=>R (.ok .next) s₁
   | some v=>wpAny (model prog w) A (letOwnedTupleGo target it v) (fun _ s₁'=>wpAny (model prog w) A (assign target env v) (fun _ s₂ =>
     wpAny (model prog w) A (forIn ifs true fun c r=>if r=true then do let ok <- isTrue c env (eval c env);pure (ForInStep.yield ok) else pure (ForInStep.yield r)) (fun ok s₃ =>
      if ok=true then wpAny (model prog w) A (eval elt env) (fun x s₄ =>
       wpAny (model prog w) A (call (.builtin "list.append") [acc,x]) (fun _ s₅=>∃ m,m < n/\I m s₅) (fun _ _=>False) s₄) (fun _ _=>False) s₃
      else ∃ m,m < n/\I m s₃) (fun _ _=>False) s₂) (fun _ _=>False) s₁') (fun _ _=>False) s₁) (fun _ _=>False) s)
  (n:Nat) (h:I n s) :
  codeAny (model prog w) A (.compLoop (.ListComp elt [⟨target,iter,ifs,0⟩] scope pos) 0 it acc env) R s:=by
 refine codeAny_loop rfl I (fun n s hI=>?_) n h;show wpAny _ A ((compTurn (.ListComp elt [⟨target,iter,ifs,0⟩] scope pos) 0 it acc env).onRaise (fun x=>do noteFrame x env;theTreesLotGoes x)) _ _ s;refine wpAny_noted ?_;rw[compTurn_list];refine zy (wpAny_standAt (zy (wpAny_mono (turn n s hI) (fun r s₁ h₁=>?_) fun _ _ h'=>h'.elim)));cases r with
 | none=>exact zq h₁
 | some v =>
  refine zy (wpAny_mono h₁ (fun _ s₁' h₁'=>?_) fun _ _ h'=>h'.elim);refine zy (wpAny_mono h₁' (fun _ s₂ h₂=>zy (wpAny_mono h₂ (fun ok s₃ h₃=>?_) fun _ _ h'=>h'.elim)) fun _ _ h'=>h'.elim);cases ok with
  | false=>exact zq ⟨rfl,h₃⟩
  | true =>
   exact zy (zy (wpAny_mono h₃ (fun x s₄ h₄=>zy (wpAny_mono h₄ (fun _ s₅ h₅=>zq (zq ⟨rfl,h₅⟩)) fun _ _ h'=>h'.elim)) fun _ _ h'=>h'.elim))
theorem lookup_relabel {env:Env}{y:Str}:∀ {names:List (Str×NameKind)},
  (names.map fun (n,k)=>if (k==NameKind.free&&env.scope.kind==.function&&env.kindOf n==some .cell) then (n,NameKind.cell) else (n,k)).lookup y =
   (names.lookup y).map fun k=>if (k==NameKind.free&&env.scope.kind==.function&&env.kindOf y==some .cell) then NameKind.cell else k
 | []=>rfl
 | (n,k)::r=>by
  have ih:=@lookup_relabel env y r;rw[zD];by_cases hx:y=n
  ·subst hx
   dsimp only;split <;> simp_all [yS]
  ·have hb:(y==n)=false:=beq_eq_false_iff_ne.mpr hx
   dsimp only;split <;> simp only[yS,hb] <;> exact ih
noncomputable def cxComp (X:Cx)(scope:Scope)(cl:List (Str×Addr))(C:Addr)(N':List Str)(s:Shared)(H:Hp)(fp:List Addr):Cx where
 prog:=X.prog
 w:=X.w
 K:=X.K
 mg:=X.mg
 base:=X.base
 A:=X.A
 N:=N'
 s₀:=s
 H₀:=H
 env:=compEnvC scope cl C X.env
 outer:=X.stack
 stack:=X.stack
 ex:=fp
 fn:=fun _=>false
 calm:=X.calm
 pn:=[]
 xe:=fun _ _=>False
structure CompSc (X:Cx) (scope:Scope) (cl:List (Str×Addr)) (xs:List Str) (N':List Str):Prop where
 kind:scope.kind=.function
 nocell:∀ y∈scope.names,y.2≠.cell
 loc:∀ x∈xs,scope.names.lookup x=some .local
 names:∀ y∈scope.names,y.2=.local->scope.names.lookup y.1=some .local
 only:∀ y,scope.names.lookup y=some .local->y∈xs\/y=(".0" : Str)
 clos:closureFor scope X.env=pure cl
 cls:∀ y c,cl.lookup y=some c->X.env.cells.lookup y=some c
 has:∀ y,scope.names.lookup y=some .free->∃ c,cl.lookup y=some c
 out:∀ y,scope.names.lookup y=some .free->X.env.kindOf y=some .cell\/X.env.kindOf y=some .free
 nd:N'.Nodup
 n0:∀ (i:Nat) (y:Str),xs[i]?=some y->N'[i]?=some y
 ns:∀ (i:Nat) (y:Str),N'[i + xs.length]?=some y->y ∉ xs/\y≠(".0" : Str)/\(X.N[i]?=some y\/¬ Vis scope y)
 len:N'.length=X.N.length + xs.length
theorem kind_relabel {scope:Scope}{env:Env}{y:Str}:(relabel scope env).names.lookup y=(scope.names.lookup y).map fun k=>if (k==NameKind.free&&env.scope.kind==.function&&env.kindOf y==some .cell) then NameKind.cell else k:=lookup_relabel
theorem lookup_mem {y:Str}{k:NameKind}:∀ {names:List (Str×NameKind)},names.lookup y=some k->(y,k)∈names:=fun h=>PySem.mem_of_lookup h
section
variable {X:Cx}{scope:Scope}{cl:List (Str×Addr)}{xs:List Str}{N':List Str}{pins:List (Addr×Obj)}{σ:St}{H:Hp}{s:Shared}{fp:List Addr}
theorem CompSc.cellAt (S:CompSc X scope cl xs N'){C:Addr}{y:Str}(h:(compEnvC scope cl C X.env).kindOf y=some .cell\/(compEnvC scope cl C X.env).kindOf y=some .free):scope.names.lookup y=some .free:=by
 have e:(compEnvC scope cl C X.env).kindOf y=(scope.names.lookup y).map fun k=>if (k==NameKind.free&&X.env.scope.kind==.function&&X.env.kindOf y==some .cell) then NameKind.cell else k:=kind_relabel;rw[e]at h;cases q:scope.names.lookup y with
 | none=>rw[q]at h;simp at h
 | some k =>
  rw[q]at h;cases k with
  | free=>rfl
  | cell=>exact absurd rfl (S.nocell _ (lookup_mem q))
  | _=>simp at h
theorem comp_ok (I:Inv X pins σ H s)(S:CompSc X scope cl xs N')(hf:∀ b∈fp,FpOk X pins H b){C:Addr}(hC:s.heap.objs.size<=C)(hfs:∀ b∈fp,b < s.heap.objs.size) :
  (cxComp X scope cl C N' s H fp).Ok where
 mod:=I.ok.mod
 kind:=S.kind
 glob:=I.ok.glob
 blt:=I.ok.blt
 above:=hC
 inj:=fun y z c h1 h2=>I.ok.inj y z c (S.cls _ _ h1) (S.cls _ _ h2)
 has:=fun y h=>S.has y (S.cellAt h)
 cab:=fun y c h=>by cases h
 hd:=I.ok.hd
 frames:=I.ok.frames
 stk:=.inl rfl
 exf:=fun b hb=>⟨za (zB (hfs b hb) hC),fun y c e=>(hf b hb).2.2.2.2.1 y c (S.cls _ _ e)⟩
 bs:=I.bs
 bsz:=zK I.ok.bsz I.sz
 noex:=fun b o e hb=>by
  rcases (hf b hb).2.2.2.1 with z | z
  ·exact I.ok.noex b o e z
  ·exact absurd (zB (zf e) (zK I.ok.bsz z)) (yk _)
 exfs:=fun b hb z=>by
  rcases zG.mp (I.stkSub b z) with e | e
  ·exact(hf b hb).2.1 e
  ·exact(hf b hb).2.2.1 e
 funs:=I.stack
 frf:=I.stkFree
theorem comp_enter (I:Inv X pins σ H s)(S:CompSc X scope cl xs N')(hf:∀ b∈fp,FpOk X pins H b){C:Addr}{h₁:Heap}{tk:Nat}{m:Str->Option Value}(hC:s.heap.objs.size<=C)(hfs:∀ b∈fp,b < s.heap.objs.size)
  (old:∀ b o,s.heap.get? b=some o->h₁.get? b=some o) (hns:h₁.Ns C m):Inv (cxComp X scope cl C N' s H fp) (X.pn++pins) (ya xs.length none++σ) H { s with heap:=h₁,toks:=tk }:=by
 refine⟨comp_ok I S hf hC hfs,rfl,I.bare,Un.kept old,⟨m,hns,fun i y v e1 e2 e3=>?_⟩,fun y c e=>?_,I.hok.fresh hC,fun y c e=>I.freeC y c (S.cls _ _ e),fun p hp=>?_,I.hok.kept old,?_⟩
 ·by_cases hi:i < xs.length
  ·rw[zd (by rw[yt];exact hi),xx,if_pos hi]at e2
   cases e2
  ·obtain⟨j,rfl⟩:∃ j,i=j + xs.length:=⟨i - xs.length,by omega⟩
   obtain⟨n1,n2,n3⟩:=S.ns j y e1;have e2':σ[j]?=some (some v):=by
    rw[zC (by rw[yt];omega),yt,wc]at e2;exact e2
   have e:(relabel scope X.env).names.lookup y=(scope.names.lookup y).map fun k=>if (k==NameKind.free&&X.env.scope.kind==.function&&X.env.kindOf y==some .cell) then NameKind.cell else k:=kind_relabel;have e3':(relabel scope X.env).names.lookup y=some .local\/(relabel scope X.env).names.lookup y=some .cell\/(relabel scope X.env).names.lookup y=some .free:=e3;have q:scope.names.lookup y=some .free:=by
    cases q:scope.names.lookup y with
    | none=>rw[e,q]at e3';simp at e3'
    | some k =>
     rw[e,q]at e3';cases k with
     | free=>rfl
     | cell=>exact absurd rfl (S.nocell _ (lookup_mem q))
     | «local» =>
      rcases S.only y q with z | z
      ·exact absurd z n1
      ·exact absurd z n2
     | _=>simp at e3'
   have hN:X.N[j]?=some y:=by
    rcases n3 with z | z
    ·exact z
    ·exact absurd (Or.inr (Or.inr q)) z
   obtain⟨m',hn',hl'⟩:=I.loc;have vx:Vis X.env.scope y:=by
    rcases S.out y q with z | z
    ·exact .inr (.inl z)
    ·exact .inr (.inr z)
   obtain⟨u,ru,lk⟩:=hl' j y v hN e2' vx;refine⟨u,ru,?_⟩;rcases lk with ⟨k1,_⟩|⟨_,c,hc,o,ho,hd⟩
   ·rcases S.out y q with z | z
    ·rw[z]at k1;cases k1
    ·rw[z]at k1;cases k1
   ·obtain⟨c',hc'⟩:=S.has y q
    have:=S.cls y c' hc'
    rw[hc]at this;cases this;refine .inr ⟨?_,c,hc',o,old _ _ ho,hd⟩;rw[e,q]at e3';show (relabel scope X.env).names.lookup y=some .cell\/(relabel scope X.env).names.lookup y=some .free;rw[e,q];rcases e3' with z | z
    ·simp only[xz,Option.some.injEq]at z
     split at z <;> cases z
    ·exact z
 ·obtain⟨v,o,ho,hd⟩:=I.cell y c (S.cls _ _ e)
  exact⟨v,o,old _ _ ho,hd⟩
 ·have hp':p∈X.pn++pins:=hp
  obtain⟨e,n,ne,nf,d⟩:=I.pin p hp';refine⟨old _ _ e,n,za (zB (zf e) hC),fun z=>?_,d⟩;rcases zG.mp (I.stkSub _ z) with q | q
  ·exact ne q
  ·exact nf q
 ·show (ya xs.length none++σ).length=N'.length
  rw[S.len,zt,yt,I.len,vf]
end
theorem Un.adopt {fs ex:List Addr}{H H':Hp}{h h':Heap}{D:Addr}{o:HO}(u:Un fs ex H H' h h')(hD:h.get? D=none)(hn:H' D=none):Un fs ex H (upd H' D o) h h' where
 keep:=u.keep
 slot:=u.slot
 free:=fun b ob q n hx=>by
  have:b≠D:=fun z=>by rw[z,hD]at q;cases q
  rw[upd_ne this];exact u.free b ob q n hx
 there:=u.there
 tups:=fun b xs q=>by
  have q':=u.tups b xs q;rw[upd_ne (ne_of_none q' hn)];exact q'
 frzs:=fun b ob v q=>by
  have q':=u.frzs b ob v q;rw[upd_ne (ne_of_none q' hn)];exact q'
 tbls:=fun b ps q=>by
  obtain⟨more,q'⟩:=u.tbls b ps q;exact⟨more,by rw[upd_ne (ne_of_none q' hn)];exact q'⟩
theorem HOk.adopt {P:Program}{w:World}{H:Hp}{h:Heap}{D:Addr}{o:HO}(x:HOk P w H h)(hn:H D=none)(new:ObjOk P w (upd H D o) h D o):HOk P w (upd H D o) h:=fun b u e=>by
 by_cases hb:b=D
 ·subst hb;rw[upd_same]at e;cases e;exact new
 ·rw[upd_ne hb]at e
  exact(x b u e).stay (fun _ _ _ q=>q) (fun c q=>by rw[upd_ne (ne_of_none q hn)];exact q) fun c xs q=>by rw[upd_ne (ne_of_none q hn)];exact q
noncomputable def PTs (X:Cx)(ifs:List Expr)(tc:TT):Prop :=
 ∀ (pins:List (Addr×Obj)) (s:Shared) (σ:St) (H:Hp) (Q:Bool->Hp->Prop),Inv X pins σ H s->tc σ H Q ->
  wpAny (model X.prog X.w) X.A (forIn ifs true fun c r=>if r=true then do let ok <- isTrue c X.env (eval c X.env);pure (ForInStep.yield ok) else pure (ForInStep.yield r)) (TP X pins σ Q) X.xe s
noncomputable def tYes:TT:=fun _ H Q=>Q true H
theorem pts_nil {X:Cx}:PTs X [] tYes:=fun _ _ _ H _ I h=>wpAny_tests_nil ⟨H,I,h⟩
theorem pts_one {X:Cx}{c:Expr}{tc:TT}(hc:PT X c tc):PTs X [c] tc:=fun pins s σ H Q I h=>wpAny_tests_one (hc pins s σ H Q I h)
noncomputable abbrev lobj (its:List Value) (n:Nat):Obj:={ cls:=.type "list",data:=.seq its.toArray n }
noncomputable def CompW (J:It)(g:TG)(kk:Nat)(tc:TT)(te:TE)(σ:St)(Fin:List V->Hp->Prop)(W:Nat->Nat->List V->Hp->Prop):Prop:=∀ i m ys H,W i m ys H ->
 (J.stop i H/\ys.length<=zj/\Fin ys H) \/
 (J.go i H/\ys.length < zj/\∀ v H' (os:St),os.length=kk->J.yld i H v H'->g v (os++σ) H' fun σ1 H1=>∃ os1:St,os1.length=kk/\σ1=os1++σ/\tc σ1 H1 fun b H2=>if b=true then te σ1 H2 fun y H3=>∃ m',m' < m/\W (i + 1) m' (ys++[y]) H3 else ∃ m',m' < m/\W (i + 1) m' ys H2)
section
variable {X:Cx}{scope:Scope}{cl:List (Str×Addr)}{xs:List Str}{tg:Expr}{g:TG}{N':List Str}{pins:List (Addr×Obj)}{σ:St}{H:Hp}{s:Shared}{fp:List Addr}{it:Addr}{J:It}{tn:Nat->Heap->Prop}
 {elt iter:Expr} {ifs:List Expr} {pos:Pos} {tc:TT} {te:TE}
theorem comp_block (hc:X.calm=true)(S:CompSc X scope cl xs N')(hg:∀ C s H fp,PG (cxComp X scope cl C N' s H fp) tg g)(htc:∀ C s H fp,PTs (cxComp X scope cl C N' s H fp) ifs tc)(hte:∀ C s H fp,PE (cxComp X scope cl C N' s H fp) elt te)
  (I:Inv X pins σ H s) (T:Turn X.prog X.w X.K tg J fp it tn) (st:tn 0 s.heap) (hf:∀ b∈fp,FpOk X pins H b)
  {Fin:List V->Hp->Prop} {W:Nat->Nat->List V->Hp->Prop} (hW:CompW J g xs.length tc te σ Fin W) {m0:Nat} (w0:W 0 m0 [] H) {E:Value->Shared->Prop} {RR:Value->Addr->Result->Shared->Prop}
  (fin:∀ (D C:Addr) (s':Shared) (ys:List V) (H':Hp),Inv X pins σ (upd H' D (.lst ys)) s'->H' D=none->upd H' D (.lst ys) C=none->C≠X.env.locals->X.s₀.heap.objs.size<=C->(∀ y c,X.env.cells.lookup y=some c->c≠C)->(∀ p∈X.pn++pins,p.1≠C) ->
   (∃ m,s'.heap.Ns C m)->Fin ys H'->RR (.ref D) C (.ok .next) s') :
  wpAny (model X.prog X.w) X.A (newList []) (fun acc s₃=>wpAny (model X.prog X.w) X.A (newFunctionEnv scope X.env.globals cl [] X.env.qual none .none (some X.env)) (fun cenv s₄ =>
   codeAny (model X.prog X.w) X.A (.compStart (.ListComp elt [⟨tg,iter,ifs,0⟩] scope pos) 0 (.ref it) acc { cenv with scope:=relabel scope X.env }) (RR acc cenv.locals) s₄) E s₃) E s:=by
 have hfs:∀ b∈fp,b < s.heap.objs.size:=fun b hb=>by
  obtain⟨o,e,_⟩:=T.obj _ _ st b hb;exact zf e
 refine wpAny_newObj_type (wpAny_newFunctionEnv S.nocell (by intro y hy;simp at hy) (fun h₁ hns₁ hsb₁=>?_) S.kind);dsimp only at hns₁ hsb₁ ⊢;generalize hH2:s.heap.push { cls:=.type "list",dict:=none,data:=.seq ([]:List Value).toArray }=H2 at hns₁ hsb₁ ⊢;generalize hDe:s.heap.objs.size=D at *;generalize hCe:H2.objs.size=C at *;have hC:C=D + 1:=by rw[<- hCe,<- hH2,xq,hDe]
 have hDC:D≠C:=by rw[hC];exact za (xL _)
 have hDle:D<=C:=by rw[hC];exact xw _
 have old:∀ b o,s.heap.get? b=some o->h₁.get? b=some o:=fun b o e=>by
  have hb:b < D:=hDe ▸ zf e;exact hsb₁.extBut b o (za (zB hb hDle)) (zo _ (hH2 ▸ zo _ e))
 have hacc:h₁.get? D=some (lobj [] 0):=hsb₁.extBut _ _ hDC (zo _ (hH2 ▸ hDe ▸ zc _ rfl));have hsD:s.heap.get? D=none:=xh (yc hDe);have ptD:∀ p∈X.pn++pins,p.1 < D:=fun p hp=>hDe ▸ zf (I.pin p hp).1;have clD:∀ y c,X.env.cells.lookup y=some c->c < D:=fun y c e=>by
  obtain⟨v,o,ho,_⟩:=I.cell y c e;exact hDe ▸ zf ho
 have fsD:∀ b∈frs X.stack,b < D:=fun b hb=>by
  obtain⟨_,o,ho,_⟩:=I.stack.mem hb;exact hDe ▸ zf ho
 have loop:∀ s₃:Shared,s₃ = { s with heap:=h₁,toks:=s.toks + ([]:List (Str×Value)).length } ->
   codeAny (model X.prog X.w) X.A (.compLoop (.ListComp elt [⟨tg,iter,ifs,0⟩] scope pos) 0 (.ref it) (.ref D) (compEnvC scope cl C X.env)) (RR (.ref D) C) s₃:=by
  rintro s₃ rfl;have I₁:Inv (cxComp X scope cl C N' s H fp) (X.pn++pins) (ya xs.length none++σ) H { s with heap:=h₁,toks:=s.toks + ([]:List (Str×Value)).length } :=
   comp_enter I S hf (by rw[hDe];exact hDle) (fun b hb=>by rw[hDe];exact hfs b hb) old hns₁
  have pinD:∀ {its:List Value} {n:Nat} {σ':St} {H':Hp} {s':Shared},Inv (cxComp X scope cl C N' s H fp) (X.pn++pins) σ' H' s'->s'.heap.get? D=some (lobj its n)->H' D=none ->
    Inv (cxComp X scope cl C N' s H fp) ((X.pn++pins)++[(D,lobj its n)]) σ' H' s':=fun {its n σ' H' s'} J' e n=>J'.pins_of fun p hp=>by
   rcases zN.mp hp with hp | hp
   ·exact J'.pin p (zP _ hp)
   ·rw[zb.mp hp]
    exact⟨e,n,hDC,fun z=>yk _ (fsD D z),fun v z=>by cases z⟩
  refine codeAny_compLoop_own (fun k s'=>∃ (i:Nat) (ys:List V) (its:List Value) (n:Nat) (os:St) (H':Hp),os.length=xs.length/\Inv (cxComp X scope cl C N' s H fp) ((X.pn++pins)++[(D,lobj its n)]) (os++σ) H' s'/\Vals ys its/\tn i s'.heap/\(∀ b∈fp,H' b=none)/\W i k ys H') ?_ m0
   ⟨0,[],[],0,ya xs.length none,H,yt ..,pinD I₁ hacc (I.hok.fresh (yc hDe)),.nil,T.keep _ _ _ st fun b _ o e=>old b o e,fun b hb=>(hf b hb).1,w0⟩
  rintro k s4 ⟨i,ys,its,n,os,H4,ho4,I4,rv,st4,fr4,w4⟩;have pD:∀ {its:List Value} {n:Nat} {pl:List (Addr×Obj)} {σ':St} {H':Hp} {s':Shared},Inv (cxComp X scope cl C N' s H fp) (((X.pn++pins)++[(D,lobj its n)])++pl) σ' H' s'->s'.heap.get? D=some (lobj its n)/\H' D=none:=fun J' =>
   let q:=J'.pin (D,lobj _ _) (zP _ (yM _ (zP _ zJ)))
   ⟨q.1,q.2.1⟩
  have stat:∀ {its:List Value} {n:Nat} {H':Hp},(∀ b∈fp,H' b=none)->∀ b∈fp,FpOk (cxComp X scope cl C N' s H fp) ((X.pn++pins)++[(D,lobj its n)]) H' b:=fun {its n H'} hn b hb=>by
   obtain⟨f0,f1,f2,f3,f4,f5⟩:=hf b hb;refine⟨hn b hb,za (zB (hfs b hb) hDle),fun z=>?_,.inl hb,fun y c e=>f4 y c (S.cls _ _ e),fun p hp=>?_⟩
   ·rcases zG.mp (I.stkSub b z) with q | q
    ·exact f1 q
    ·exact f2 q
   ·have hp:p∈(X.pn++pins)++[(D,lobj its n)]:=hp
    rcases zN.mp hp with hp | hp
    ·exact f5 p hp
    ·rw[zb.mp hp]
     exact Ne.symm (za (hfs b hb))
  rcases hW i k ys H4 w4 with ⟨stop,hz,q⟩|⟨go,hz,step⟩
  ·refine thn (T.done (cxComp X scope cl C N' s H fp) rfl rfl rfl hc i _ s4 _ H4 _ I4 (stat fr4) st4 stop) fun r s5 ⟨hr,I5⟩=>?_
   subst hr;obtain⟨gD,nD⟩:=pD (pl:=[]) (by rw[zO];exact I5);have un:Un (frs X.stack) fp H (upd H4 D (.lst ys)) s.heap s5.heap:=Un.adopt I5.base hsD nD;have hok:HOk X.prog X.w (upd H4 D (.lst ys)) s5.heap:=HOk.adopt I5.hok nD ⟨hz,its,n,rv,gD⟩;have I6:Inv X pins σ (upd H4 D (.lst ys)) s5:=I.call' (ch:=fp) I5.os un hok I5.bare fun b hb=>by
    obtain⟨f0,f1,f2,f3,f4,f5⟩:=hf b hb;exact⟨f3,f1,f4,f5⟩
   have cn:H4 C=none:=I5.free;have lo:X.s₀.heap.objs.size<=C:=zK I.sz (by rw[hDe];exact hDle);exact fin D C s5 ys H4 I6 nD (by rw[upd_ne (Ne.symm hDC)];exact cn) (yT (zB (hDe ▸ I.lt) hDle)) lo (fun y c e=>za (zB (clD y c e) hDle)) (fun p hp=>za (zB (ptD p hp) hDle))
    (let ⟨m,hm,_⟩:=I5.loc;⟨m,hm⟩) q
  ·refine thn (T.item (cxComp X scope cl C N' s H fp) rfl rfl rfl hc i _ s4 _ H4 _ I4 (stat fr4) st4 go) fun r s5 ⟨u,hr,h5⟩=>?_
   subst hr;refine thn h5 fun _ s6 ⟨v,H6,I6,r6,y6,st6,fr6⟩=>?_;have I6':=I6.pinned (stat fr6) (T.obj _ _ st6);refine thn (hg C s H fp _ s6 _ H6 v u _ I6' r6 (step v H6 os ho4 y6)) fun _ s7 ⟨σ7,H7,I7,os7,ho7,e7,q7⟩=>?_;subst e7;have fpK:∀ {σ':St} {H':Hp} {s':Shared},Inv (cxComp X scope cl C N' s H fp) (((X.pn++pins)++[(D,lobj its n)])++pinsAt fp s6.heap) σ' H' s'->tn (i + 1) s'.heap/\∀ b∈fp,H' b=none:=fun {σ' H' s'} J' =>
    ⟨T.keep _ _ _ st6 fun b hb ob e=>(J'.pin (b,ob) (zP _ (zP _ (mem_pinsAt hb e)))).1,fun b hb=>by
     obtain⟨ob,e,d⟩:=T.obj _ _ st6 b hb;exact(J'.pin (b,ob) (zP _ (zP _ (mem_pinsAt hb e)))).2.1⟩
   refine thn (htc C s H fp _ s7 _ H7 _ I7 q7) fun b s8 ⟨H8,I8,q8⟩=>?_;cases b with
   | false =>
    rw[if_neg zh]at q8 ⊢;obtain⟨m',hm,w8⟩:=q8;obtain⟨t8,f8⟩:=fpK I8;exact⟨m',hm,i + 1,ys,its,n,os7,H8,ho7,I8.unpinned,rv,t8,f8,w8⟩
   | true =>
    rw[if_pos rfl]at q8 ⊢;refine thn (hte C s H fp _ s8 _ H8 _ I8 q8) fun u9 s9 ⟨y,H9,I9,r9,m',hm,w9⟩=>?_;obtain⟨gD,nD⟩:=pD I9;obtain⟨t9,f9⟩:=fpK I9;refine append_at (its:=its.toArray) (n:=n) gD (fun h' sb hD'=>?_) (by have:=rv.length;simp;omega);have I10:Inv (cxComp X scope cl C N' s H fp) (X.pn++pins) (os7++σ) H9 s9:=I9.unpinned.unpinned;have I11:Inv (cxComp X scope cl C N' s H fp) (X.pn++pins) (os7++σ) H9 { s9 with heap:=h' }:=I10.turned (t':=s9.toks) (it:=D) (fun b ob hb e=>sb.extBut b ob hb e) nD hDC (.inr (yc hDe))
     (fun z c e=>za (clD z c (S.cls _ _ e))) fun p hp=>za (ptD p hp)
    refine⟨m',hm,i + 1,ys++[y],its++[u9],n + 1,os7,H9,ho7,pinD I11 (by rw[hD'];simp) nD,rv.append (.cons r9 .nil),T.keep _ _ _ t9 fun b hb ob e=>sb.extBut b ob (za (hfs b hb)) e,f9,w9⟩
 exact codeAny_compStart_list (loop _ rfl) (T.self X.A 0 _ _ _ (T.keep _ _ _ st fun b _ o e=>old b o e) (loop _ rfl))
end
noncomputable def tComp (wi:TI)(g:TG)(kk:Nat)(tc:TT)(te:TE):TE:=fun σ H Q=>wi σ H fun J H1=>∃ W:Nat->Nat->List V->Hp->Prop,(∃ m,W 0 m [] H1) /\
 CompW J g kk tc te σ (fun ys H'=>∀ p,H' p=none->Q (.ref p) (upd H' p (.lst ys))) W
section
variable {X:Cx}{scope:Scope}{cl:List (Str×Addr)}{xs:List Str}{tg:Expr}{g:TG}{N':List Str}{elt iter:Expr}{ifs:List Expr}{pos:Pos}{tc:TT}{te:TE}{wi:TI}
theorem ns_gone {pins:List (Addr×Obj)}{σ:St}{H:Hp}{s:Shared}{C:Addr}{h':Heap}(I:Inv X pins σ H s)(sb:Heap.SameBut C s.heap h')(h0:H C=none)(h1:C≠X.env.locals)(h2:X.s₀.heap.objs.size<=C)(h3:∀ y c,X.env.cells.lookup y=some c->c≠C)(h4:∀ p∈X.pn++pins,p.1≠C) :
  Inv X pins σ H { s with heap:=h' }:=I.turned (t':=s.toks) (it:=C) (fun b ob hb e=>sb.extBut b ob hb e) h0 h1 (.inr h2) h3 h4
theorem pe_comp (hc:X.calm=true)(S:CompSc X scope cl xs N')(hg:∀ C s H fp,PG (cxComp X scope cl C N' s H fp) tg g)(hi:PI X tg iter wi)(htc:∀ C s H fp,PTs (cxComp X scope cl C N' s H fp) ifs tc)(hte:∀ C s H fp,PE (cxComp X scope cl C N' s H fp) elt te)
  (hs:∀ x,foldedSetIterable iter X.env x=pure x):PE X (.ListComp elt [⟨tg,iter,ifs,0⟩] scope pos) (tComp wi g xs.length tc te):=by
 intro pins s σ H Q I h;rw[eval_ListComp];refine wpAny_comprehension_free (use:=none) rfl hs S.clos S.kind S.names (thn (hi pins s σ H _ I h) fun v s1 h1=>thn h1 fun itv s2 h2=>?_);obtain⟨it,fp,tn,J,H2,e,I2,T,st2,f2,W,⟨m0,w0⟩,hW⟩:=h2;subst e;refine comp_block (RR:=fun acc C=>compPost (model X.prog X.w) X.A X.xe none (EP X pins σ Q) acc C) hc S hg htc hte I2 T st2 f2 hW w0 ?_;intro D C s' ys H' I' nD cn c1 c2 c3 c4 ns q;obtain⟨m,hm⟩:=ns;exact⟨m,hm,fun h' sb=>⟨.ref D,_,ns_gone I' sb cn c1 c2 c3 c4,rfl,q D nD⟩⟩
theorem ps_comp {x:Str}{px:Pos}{i:Nat}{y:Str}{py spos:Pos}(hc:X.calm=true)(S:CompSc X scope cl xs N')(hg:∀ C s H fp,PG (cxComp X scope cl C N' s H fp) (.Name x px) g)(hi:PI X (.Name x px) iter wi)(htc:∀ C s H fp,PTs (cxComp X scope cl C N' s H fp) ifs tc)(hte:∀ C s H fp,PE (cxComp X scope cl C N' s H fp) elt te)
  (hs:∀ x,foldedSetIterable iter X.env x=pure x) (hN:X.N.Nodup) (hy:X.N[i]?=some y) (hx:Loc X.env.scope y) (hf:X.fn y=true\/X.env.scope.names.lookup y=some .local) :
  PS X (.Assign [.Name y py] (.ListComp elt [⟨.Name x px,iter,ifs,0⟩] scope pos) spos) (tAsg (tComp wi g xs.length tc te) (gName i)):=by
 have hsw:∃ b:Bool,swapsWith (.ListComp elt [⟨.Name x px,iter,ifs,0⟩] scope pos) (some (.Name y py)) spos.line X.env=pure b:=⟨_,rfl⟩;obtain⟨b,hsw⟩:=hsw;cases b with
 | false=>exact ps_set hN hy hx (pe_comp hc S hg hi htc hte hs) hsw hf
 | true =>
  intro pins s σ H D I h;rw[exec_Assign_Name_used _ _ _ _ hsw];refine zy (wpAny_standAt (zy ?_));show wpAny _ X.A (do let _ <- comprehension (.ListComp elt [⟨.Name x px,iter,ifs,0⟩] scope pos) scope X.env _ (newList []) false (eval iter X.env) (some (assign (.Name y py) X.env))) _ _ s;refine zy (thn (wpAny_comprehension_free (use:=some (assign (.Name y py) X.env)) (Q:=fun _ s'=>SP X pins D .next s') rfl hs S.clos S.kind S.names
   (thn (hi pins s σ H _ I h) fun v s1 h1=>thn h1 fun itv s2 h2=>?_)) fun _ s' hq=>zq (zq hq))
  obtain⟨it,fp,tn,J,H2,e,I2,T,st2,f2,W,⟨m0,w0⟩,hW⟩:=h2;subst e;refine comp_block (RR:=fun acc C=>compPost (model X.prog X.w) X.A X.xe (some (assign (.Name y py) X.env)) (fun _ s'=>SP X pins D .next s') acc C) hc S hg htc hte I2 T st2 f2 hW w0 ?_;intro Dl C s' ys H' I' nD cn c1 c2 c3 c4 ns q;obtain⟨m,hm⟩:=ns;show wpAny _ X.A (assign (.Name y py) X.env (.ref Dl)) _ _ _;refine wpAny_assign_Name (store_ok2 I' hN hy hx (v:=.ref Dl) rfl (fun s2 I2' ⟨a,sb,ha⟩=>?_) hf);have hCa:C≠a:=by
   rcases ha with z | z
   ·rw[z];exact c1
   ·exact fun e=>c3 _ _ z e.symm
  refine⟨m,hm.sameBut sb hCa,fun h' sb'=>?_⟩;exact⟨_,_,ns_gone I2' sb' cn c1 c2 c3 c4,q Dl nD⟩
end
end L2
namespace L3
open PySem PySem.Spec PyProof.Rows L2
noncomputable abbrev St:=L2.St
noncomputable def FzL (K:PySem.W.Frag)(H:Hp)(a:Addr)(xs:List V):Prop :=
 (∃ o,H a=some (.frz o (.lst xs))) \/
  ∃ (o:Obj) (its:Array Value) (n:Nat),K.lookup a=some o/\o.cls=.type "list"/\o.dict=none/\o.data=.seq its n/\its.size<=zj/\Vals xs its.toList
theorem FzL.seq {K:PySem.W.Frag}{H:Hp}{a:Addr}{xs:List V}(h:FzL K H a xs):SqL K H a xs:=by
 rcases h with ⟨o,h⟩ | h
 ·exact .inl (.inr ⟨o,h⟩)
 ·exact .inr h
mutual
inductive Rep (K:PySem.W.Frag) (ι:List Addr) (H:Hp):D->V->Prop where
 | non:Rep K ι H .non .non
 | bl (b:Bool):Rep K ι H (.bl b) (.bl b)
 | int (i:Int):Rep K ι H (.int i) (.int i)
 | str (x:Str):Rep K ι H (.str x) (.str x)
 | tup {a:Addr} {vs:List V} {ds:List D}:H a=some (.tup vs)->Reps K ι H ds vs->Rep K ι H (.tup ds) (.ref a)
 | fl {a:Addr} {vs:List V} {ds:List D}:FzL K H a vs->Reps K ι H ds vs->Rep K ι H (.fl ds) (.ref a)
 | ob {i:Nat} {a:Addr}:ι[i]?=some a->Rep K ι H (.ob i) (.ref a)
inductive Reps (K:PySem.W.Frag) (ι:List Addr) (H:Hp):List D->List V->Prop where
 | nil:Reps K ι H [] []
 | cons {d:D} {v:V} {ds:List D} {vs:List V}:Rep K ι H d v->Reps K ι H ds vs->Reps K ι H (d::ds) (v::vs)
end
structure Ext (K:PySem.W.Frag) (ι:List Addr) (H:Hp) (ι':List Addr) (H':Hp):Prop where
 pre:∀ (i:Nat) (a:Addr),ι[i]?=some a->ι'[i]?=some a
 tup:∀ a xs,H a=some (.tup xs)->H' a=some (.tup xs)
 fz:∀ a xs,FzL K H a xs->FzL K H' a xs
section
variable {K:PySem.W.Frag}{ι ι' ι'':List Addr}{H H' H'':Hp}
theorem Ext.refl:Ext K ι H ι H where
 pre:=fun _ _ e=>e
 tup:=fun _ _ e=>e
 fz:=fun _ _ e=>e
theorem Ext.trans (a:Ext K ι H ι' H')(b:Ext K ι' H' ι'' H''):Ext K ι H ι'' H'' where
 pre:=fun i c e=>b.pre i c (a.pre i c e)
 tup:=fun c xs e=>b.tup c xs (a.tup c xs e)
 fz:=fun c xs e=>b.fz c xs (a.fz c xs e)
mutual
theorem Rep.mono (x:Ext K ι H ι' H'):∀ {d:D} {v:V},Rep K ι H d v->Rep K ι' H' d v
 | _,_,.non=>.non
 | _,_,.bl b=>.bl b
 | _,_,.int i=>.int i
 | _,_,.str y=>.str y
 | _,_,.tup a r=>.tup (x.tup _ _ a) (Reps.mono x r)
 | _,_,.fl a r=>.fl (x.fz _ _ a) (Reps.mono x r)
 | _,_,.ob e=>.ob (x.pre _ _ e)
theorem Reps.mono (x:Ext K ι H ι' H'):∀ {ds:List D} {vs:List V},Reps K ι H ds vs->Reps K ι' H' ds vs
 | _,_,.nil=>.nil
 | _,_,.cons r t=>.cons (Rep.mono x r) (Reps.mono x t)
end
theorem Reps.length:∀ {ds:List D} {vs:List V},Reps K ι H ds vs->ds.length=vs.length
 | _,_,.nil=>rfl
 | _,_,.cons _ t=>by rw[zA,zA,Reps.length t]
theorem Reps.get:∀ {ds:List D} {vs:List V} {i:Nat} {d:D},Reps K ι H ds vs->ds[i]?=some d->∃ v,vs[i]?=some v/\Rep K ι H d v
 | _,_,_,_,.nil,e=>by simp at e
 | _,_,0,_,.cons r _,e=>by simp at e;subst e;exact⟨_,rfl,r⟩
 | _,_,i + 1,d,.cons _ t,e=>by
  obtain⟨v,h1,h2⟩:=Reps.get (i:=i) (d:=d) t (by simpa using e);exact⟨v,by simpa using h1,h2⟩
theorem Reps.append:∀ {ds es:List D} {vs us:List V},Reps K ι H ds vs->Reps K ι H es us->Reps K ι H (ds++es) (vs++us)
 | _,_,_,_,.nil,s=>s
 | _,_,_,_,.cons r t,s=>.cons r (Reps.append t s)
theorem Reps.take:∀ {ds:List D} {vs:List V} (n:Nat),Reps K ι H ds vs->Reps K ι H (ds.take n) (vs.take n)
 | _,_,0,_=>.nil
 | _,_,_ + 1,.nil=>.nil
 | _,_,n + 1,.cons r t=>.cons r (Reps.take n t)
theorem Reps.drop:∀ {ds:List D} {vs:List V} (n:Nat),Reps K ι H ds vs->Reps K ι H (ds.drop n) (vs.drop n)
 | _,_,0,r=>r
 | _,_,_ + 1,.nil=>.nil
 | _,_,n + 1,.cons _ t=>Reps.drop n t
theorem Reps.set {d:D}{v:V}(r:Rep K ι H d v):∀ {ds:List D} {vs:List V} (i:Nat),Reps K ι H ds vs->Reps K ι H (ds.set i d) (vs.set i v)
 | _,_,_,.nil=>.nil
 | _,_,0,.cons _ t=>.cons r t
 | _,_,i + 1,.cons q t=>.cons q (Reps.set r i t)
noncomputable def KR (K:PySem.W.Frag)(ι:List Addr)(H:Hp):List (Ky×D)->List (Key×V)->Prop:=Paired fun p q=>p.1=q.1/\Rep K ι H p.2 q.2
noncomputable def ORep (K:PySem.W.Frag)(ι:List Addr)(H:Hp):MO->Option HO->Prop
 | .lst ds,x=>∃ vs,x=some (.lst vs)/\Reps K ι H ds vs
 | .dic kvs,x=>∃ ws,x=some (.dK ws)/\KR K ι H kvs ws
theorem KR.mono (x:Ext K ι H ι' H'){a:List (Ky×D)}{b:List (Key×V)}(r:KR K ι H a b):KR K ι' H' a b:=Paired.mapP r fun _ _ z=>⟨z.1,z.2.mono x⟩
theorem ORep.mono (x:Ext K ι H ι' H'){o:MO}{h:Option HO}(r:ORep K ι H o h):ORep K ι' H' o h:=by
 cases o with
 | lst ds=>obtain⟨vs,e,q⟩:=r;exact⟨vs,e,q.mono x⟩
 | dic kvs=>obtain⟨ws,e,q⟩:=r;exact⟨ws,e,q.mono x⟩
noncomputable def MutO (u:HO):Prop:=(∀ xs,u≠.tup xs)/\∀ o v,u≠.frz o v
theorem mut_l (vs:List V):MutO (.lst vs):=⟨fun _ z=>(nomatch z),fun _ _ z=>(nomatch z)⟩
theorem mut_d (vs:List (Key×V)):MutO (.dK vs):=⟨fun _ z=>(nomatch z),fun _ _ z=>(nomatch z)⟩
theorem ORep.some {o:MO}{h:Option HO}(r:ORep K ι H o h):∃ u,h=.some u/\MutO u:=by
 cases o with
 | lst ds=>obtain⟨vs,e,q⟩:=r;exact⟨_,e,mut_l _⟩
 | dic kvs=>obtain⟨ws,e,q⟩:=r;exact⟨_,e,mut_d _⟩
structure Sim (K:PySem.W.Frag) (ι:List Addr) (M:MH) (H:Hp):Prop where
 len:ι.length=M.length
 inj:∀ (i j:Nat) (a:Addr),ι[i]?=some a->ι[j]?=some a->i=j
 obj:∀ (i:Nat) (a:Addr) (o:MO),ι[i]?=some a->M[i]?=some o->ORep K ι H o (H a)
theorem sqt {a:Addr}{xs:List V}(h:H a=some (.tup xs)):SqT K H a xs:=.inl (.inl h)
theorem Ext.new {p:Addr}{ho:HO}(hp:H p=none):Ext K ι H (ι++[p]) (upd H p ho) where
 pre:=fun i a e=>by
  have hi:i < ι.length:=(zp.mp e).1;rw[zd hi];exact e
 tup:=fun a xs h=>by rw[upd_ne (ne_of_none h hp)];exact h
 fz:=fun a xs h=>by
  rcases h with ⟨o,h⟩ | h
  ·exact .inl ⟨o,by rw[upd_ne (ne_of_none h hp)];exact h⟩
  ·exact .inr h
theorem Ext.tupN {p:Addr}{ho:HO}(hp:H p=none):Ext K ι H ι (upd H p ho) where
 pre:=fun i a e=>e
 tup:=fun a xs h=>by rw[upd_ne (ne_of_none h hp)];exact h
 fz:=fun a xs h=>by
  rcases h with ⟨o,h⟩ | h
  ·exact .inl ⟨o,by rw[upd_ne (ne_of_none h hp)];exact h⟩
  ·exact .inr h
theorem Ext.write {p:Addr}{u ho:HO}(hp:H p=some u)(hu:MutO u):Ext K ι H ι (upd H p ho) where
 pre:=fun i a e=>e
 tup:=fun a xs h=>by rw[upd_ne (ne_of h hp fun z=>hu.1 _ z.symm)];exact h
 fz:=fun a xs h=>by
  rcases h with ⟨o,h⟩ | h
  ·exact .inl ⟨o,by rw[upd_ne (ne_of h hp fun z=>hu.2 _ _ z.symm)];exact h⟩
  ·exact .inr h
variable {M M':MH}
theorem Sim.tracked (S:Sim K ι M H){i:Nat}{a:Addr}(e:ι[i]?=some a):∃ u,H a=some u/\MutO u:=by
 have hi:i < M.length:=by rw[<- S.len];exact(zp.mp e).1
 exact(S.obj i a _ e (zx hi)).some
theorem Sim.new (S:Sim K ι M H){p:Addr}{o:MO}{ho:HO}(hp:H p=none)(r:ORep K (ι++[p]) (upd H p ho) o (some ho)):Sim K (ι++[p]) (M++[o]) (upd H p ho) where
 len:=by rw[zt,zt,S.len];rfl
 inj:=fun i j a h1 h2=>by
  have np:∀ (k:Nat),ι[k]?=some p->False:=fun k e=>by
   obtain⟨u,hu,_⟩:=S.tracked e;rw[hp]at hu;cases hu
  by_cases hi:i < ι.length
  ·rw[zd hi]at h1
   by_cases hj:j < ι.length
   ·rw[zd hj]at h2
    exact S.inj i j a h1 h2
   ·rw[zC (by first | lia | omega)]at h2
    have e:a=p:=by
     have:=zw h2
     simpa using this
    subst e;exact(np i h1).elim
  ·rw[zC (by first | lia | omega)]at h1
   have e:a=p:=by
    have:=zw h1
    simpa using this
   subst e;by_cases hj:j < ι.length
   ·rw[zd hj]at h2
    exact(np j h2).elim
   ·have l1:=(zp.mp h1).1
    rw[zC (by first | lia | omega)]at h2
    have l2:=(zp.mp h2).1;simp at l1 l2;first | lia | omega
 obj:=fun i a q h1 h2=>by
  by_cases hi:i < ι.length
  ·rw[zd hi]at h1
   rw[zd (by rw[<- S.len];exact hi)]at h2;have z:=S.obj i a q h1 h2;obtain⟨u,hu,_⟩:=S.tracked h1;rw[upd_ne (ne_of_none hu hp)];exact z.mono (Ext.new hp)
  ·rw[zC (by first | lia | omega)]at h1
   rw[zC (by rw[<- S.len];omega)]at h2;have e:a=p:=by
    have:=zw h1
    simpa using this
   have e':q=o:=by
    have:=zw h2
    simpa using this
   subst e e';rw[upd_same];exact r
theorem Sim.tupN (S:Sim K ι M H){p:Addr}{ho:HO}(hp:H p=none):Sim K ι M (upd H p ho) where
 len:=S.len
 inj:=S.inj
 obj:=fun i a o h1 h2=>by
  obtain⟨u,hu,_⟩:=S.tracked h1;rw[upd_ne (ne_of_none hu hp)];exact(S.obj i a o h1 h2).mono (Ext.tupN hp)
theorem Sim.put (S:Sim K ι M H){i:Nat}{a:Addr}{o:MO}{ho:HO}(e:ι[i]?=some a)(r:ORep K ι (upd H a ho) o (some ho)):Sim K ι (M.set i o) (upd H a ho):=by
 obtain⟨u,hu,mu⟩:=S.tracked e;refine⟨by rw[zQ];exact S.len,S.inj,fun j b q h1 h2=>?_⟩;by_cases hij:j=i
 ·subst hij
  rw[e]at h1;cases h1;have hj:j < M.length:=by rw[<- S.len];exact(zp.mp e).1
  rw[zL hj]at h2;cases h2;rw[upd_same];exact r
 ·rw[zi (Ne.symm hij)]at h2
  have hb:b≠a:=fun z=>by subst z;exact hij (S.inj j i b h1 e)
  rw[upd_ne hb];exact(S.obj j b q h1 h2).mono (Ext.write hu mu)
structure EnvR (K:PySem.W.Frag) (ι:List Addr) (H:Hp) (ρ:Ev) (σ:St):Prop where
 len:ρ.length=σ.length
 val:∀ (i:Nat) (d:D),ρ[i]?=some (some d)->∃ v,σ[i]?=some (some v)/\Rep K ι H d v
theorem EnvR.mono (x:Ext K ι H ι' H'){ρ:Ev}{σ:St}(r:EnvR K ι H ρ σ):EnvR K ι' H' ρ σ:=⟨r.len,fun i d e=>let ⟨v,h1,h2⟩:=r.val i d e;⟨v,h1,h2.mono x⟩⟩
theorem EnvR.set {ρ:Ev}{σ:St}{d:D}{v:V}(r:EnvR K ι H ρ σ)(q:Rep K ι H d v)(i:Nat):EnvR K ι H (ρ.set i (some d)) (σ.set i (some v)) where
 len:=by rw[zQ,zQ];exact r.len
 val:=fun j c e=>by
  by_cases hij:j=i
  ·subst hij
   by_cases hj:j < ρ.length
   ·rw[zL hj]at e
    cases e;exact⟨v,by rw[zL (by rw[<- r.len];exact hj)],q⟩
   ·rw[xk (by rw[zQ];omega)]at e;cases e
  ·rw[zi (Ne.symm hij)]at e
   obtain⟨u,h1,h2⟩:=r.val j c e;exact⟨u,by rw[zi (Ne.symm hij)];exact h1,h2⟩
theorem EnvR.comp {ρ:Ev}{σ:St}{d:D}{v:V}(r:EnvR K ι H ρ σ)(q:Rep K ι H d v)(j:Nat):EnvR K ι H (some d::ρ.set j none) (some v::σ) where
 len:=by rw[zA,zA,zQ,r.len]
 val:=fun i c e=>by
  cases i with
  | zero=>simp at e;subst e;exact⟨v,rfl,q⟩
  | succ i =>
   rw[xM]at e;by_cases hij:i=j
   ·subst hij
    by_cases hj:i < ρ.length
    ·rw[zL hj]at e;cases e
    ·rw[xk (by rw[zQ];omega)]at e;cases e
   ·rw[zi (Ne.symm hij)]at e
    obtain⟨u,h1,h2⟩:=r.val i c e;exact⟨u,by rw[xM];exact h1,h2⟩
end
noncomputable abbrev DE:=Ev->Mo D
noncomputable def LE (K:PySem.W.Frag)(f:DE):TE:=fun σ H Q=>∃ ι ρ M d M',Sim K ι M H/\EnvR K ι H ρ σ/\f ρ M=some (.ok d,M') /\
 ∀ v H' ι',Rep K ι' H' d v->Sim K ι' M' H'->Ext K ι H ι' H'->Q v H'
noncomputable def LT (K:PySem.W.Frag)(f:Ev->Mo Bool):TT:=fun σ H Q=>∃ ι ρ M b M',Sim K ι M H/\EnvR K ι H ρ σ/\f ρ M=some (.ok b,M') /\
 ∀ H' ι',Sim K ι' M' H'->Ext K ι H ι' H'->Q b H'
noncomputable def LA (K:PySem.W.Frag)(f:Ev->Mo (List D)):TA:=fun σ H Q=>∃ ι ρ M ds M',Sim K ι M H/\EnvR K ι H ρ σ/\f ρ M=some (.ok ds,M') /\
 ∀ vs H' ι',Reps K ι' H' ds vs->Sim K ι' M' H'->Ext K ι H ι' H'->Q vs H'
noncomputable def LO (K:PySem.W.Frag)(f:Ev->Mo (Option Int)):TO:=fun σ H Q=>∃ ι ρ M o M',Sim K ι M H/\EnvR K ι H ρ σ/\f ρ M=some (.ok o,M') /\
 ∀ H' ι',Sim K ι' M' H'->Ext K ι H ι' H'->Q o H'
noncomputable def FlP (K:PySem.W.Frag)(D:Ends)(ι:List Addr)(H:Hp):Fl->Prop
 | .nx ρ=>∀ σ,EnvR K ι H ρ σ->D.nx σ H
 | .rt d=>∀ v,Rep K ι H d v->D.rt v H
 | .bk ρ=>∀ σ,EnvR K ι H ρ σ->D.bk σ H
 | .ct ρ=>∀ σ,EnvR K ι H ρ σ->D.ct σ H
noncomputable def LS (K:PySem.W.Frag)(f:Ev->Mo Fl):TS:=fun D σ H=>∃ ι ρ M fl M',Sim K ι M H/\EnvR K ι H ρ σ/\f ρ M=some (.ok fl,M') /\
 ∀ H' ι',Sim K ι' M' H'->Ext K ι H ι' H'->FlP K D ι' H' fl
theorem PE.imp {X:Cx}{e:Expr}{t t':TE}(h:PE X e t)(k:∀ σ H Q,t' σ H Q->t σ H Q):PE X e t':=fun pins s σ H Q I q=>h pins s σ H Q I (k σ H Q q)
theorem PT.imp {X:Cx}{e:Expr}{t t':TT}(h:PT X e t)(k:∀ σ H Q,t' σ H Q->t σ H Q):PT X e t':=fun pins s σ H Q I q=>h pins s σ H Q I (k σ H Q q)
theorem PTs.imp {X:Cx}{e:List Expr}{t t':TT}(h:PTs X e t)(k:∀ σ H Q,t' σ H Q->t σ H Q):PTs X e t':=fun pins s σ H Q I q=>h pins s σ H Q I (k σ H Q q)
theorem PA.imp {X:Cx}{e:List Expr}{t t':TA}(h:PA X e t)(k:∀ σ H Q,t' σ H Q->t σ H Q):PA X e t':=fun pos pins s σ H Q I q=>h pos pins s σ H Q I (k σ H Q q)
theorem PO.imp {X:Cx}{e:Option Expr}{t t':TO}(h:PO X e t)(k:∀ σ H Q,t' σ H Q->t σ H Q):PO X e t':=fun pins s σ H Q I q=>h pins s σ H Q I (k σ H Q q)
theorem PS.imp {X:Cx}{e:Stmt}{t t':TS}(h:PS X e t)(k:∀ D σ H,t' D σ H->t D σ H):PS X e t':=fun pins s σ H D I q=>h pins s σ H D I (k D σ H q)
theorem PSs.imp {X:Cx}{e:List Stmt}{t t':TS}(h:PSs X e t)(k:∀ D σ H,t' D σ H->t D σ H):PSs X e t':=fun pins s σ H D I q=>h pins s σ H D I (k D σ H q)
noncomputable def OpS (K:PySem.W.Frag)(r:R2)(g:D->D->Mo D):Prop:=∀ (ι:List Addr) (M M':MH) (H:Hp) (x y d:D) (vx vy:V) (Q:VK),Sim K ι M H->Rep K ι H x vx->Rep K ι H y vy->g x y M=some (.ok d,M') ->
 (∀ v H' ι',Rep K ι' H' d v->Sim K ι' M' H'->Ext K ι H ι' H'->Q v H')->r vx vy H Q
section
variable {K:PySem.W.Frag}
theorem LE.bin {fa fb:DE}{g:D->D->Mo D}{r:R2}(ho:OpS K r g)(σ:St)(H:Hp)(Q:VK)(h:LE K (fun ρ=>do let x <- fa ρ;let y <- fb ρ;g x y) σ H Q):tOp r (LE K fa) (LE K fb) σ H Q:=by
 obtain⟨ι,ρ,M,d,M',S,R,e,k⟩:=h;obtain⟨x,M1,e1,e⟩:=bind_ok e;obtain⟨y,M2,e2,e⟩:=bind_ok e;refine⟨ι,ρ,M,x,M1,S,R,e1,fun v1 H1 ι1 r1 S1 X1=>?_⟩;refine⟨ι1,ρ,M1,y,M2,S1,R.mono X1,e2,fun v2 H2 ι2 r2 S2 X2=>?_⟩;exact ho ι2 M2 M' H2 x y d v1 v2 Q S2 (r1.mono X2) r2 e fun v H' ι' r' S' X'=>k v H' ι' r' S' ((X1.trans X2).trans X')
end
theorem need_ok {p:Prop}[Decidable p]{M M':MH}{u:Unit}(h:need p M=some (.ok u,M')):p/\M'=M:=by
 unfold need at h;split at h
 ·rename_i hp
  cases h;exact⟨hp,rfl⟩
 ·cases h
theorem lift_ok {α:Type}{o:Option α}{a:α}{M M':MH}(h:lift o M=some (.ok a,M')):o=some a/\M'=M:=by
 cases o with
 | none=>cases h
 | some b=>cases h;exact⟨rfl,rfl⟩
theorem pure_ok {α:Type}{a b:α}{M M':MH}(h:(pure a:Mo α) M=some (.ok b,M')):b=a/\M'=M:=by
 cases h;exact⟨rfl,rfl⟩
theorem getM_ok {i:Nat}{o:MO}{M M':MH}(h:getM i M=some (.ok o,M')):M[i]?=some o/\M'=M:=by
 unfold getM at h;split at h
 ·rename_i e;cases h;exact⟨e,rfl⟩
 ·cases h
theorem getL_ok {i:Nat}{ds:List D}{M M':MH}(h:getL i M=some (.ok ds,M')):M[i]?=some (.lst ds)/\M'=M:=by
 unfold getL at h;split at h
 ·rename_i e;cases h;exact⟨e,rfl⟩
 ·cases h
theorem getD_ok {i:Nat}{ds:List (Ky×D)}{M M':MH}(h:getD i M=some (.ok ds,M')):M[i]?=some (.dic ds)/\M'=M:=by
 unfold getD at h;split at h
 ·rename_i e;cases h;exact⟨e,rfl⟩
 ·cases h
theorem newM_ok {o:MO}{d:D}{M M':MH}(h:newM o M=some (.ok d,M')):d=.ob M.length/\M'=M++[o]:=by
 cases h;exact⟨rfl,rfl⟩
theorem putM_ok {i:Nat}{o:MO}{u:Unit}{M M':MH}(h:putM i o M=some (.ok u,M')):i < M.length/\M'=M.set i o:=by
 unfold putM at h;split at h
 ·rename_i e;cases h;exact⟨e,rfl⟩
 ·cases h
theorem stop_ok {α:Type}{a:α}{M':MH}(h:(none:Option (Out α×MH))=some (.ok a,M')):False:=by cases h
end L3
namespace L3
open PySem PySem.Spec PyProof.Rows L2
section
variable {K:PySem.W.Frag}{ι:List Addr}{M:MH}{H:Hp}
end
end L3
namespace L3
open PySem PySem.Spec PyProof.Rows L2
noncomputable def strOf:Value->Str
 | .str y _=>y
 | _=>""
theorem or_led (t:SetTable)(n:Nat):(t.orStandIn n).led=t.led:=by
 unfold SetTable.orStandIn;split <;> rfl
theorem lay_led (t:SetTable)(es:Array (Int×Value))(h:Int)(x:Value):(layNew t es h x).2.1.led=t.led:=by
 unfold layNew;split
 ·exact or_led _ _
 ·rfl
theorem relay_led (t:SetTable)(es:Array (Int×Value))(n:Nat):(relayAll t es n).2.1.led=t.led/\(t.plain=false->(relayAll t es n).2.1.plain=false):=by
 unfold relayAll;split
 ·rename_i t' order e
  have z:t'.led=t.led/\t'.plain=t.plain:=by
   unfold SetTable.relaid SetTable.laid at e;cases hl:SetTable.layClean (SetTable.sizeAbove n - 1) (es.map (·.1)) with
   | none=>rw[hl]at e;cases e
   | some ow=>rw[hl]at e;cases e;exact⟨rfl,rfl⟩
  dsimp only;split
  ·exact⟨z.1,fun q=>z.2.trans q⟩
  ·exact⟨rfl,fun _=>rfl⟩
 ·exact⟨rfl,fun _=>rfl⟩
section
variable {prog:Program}{w:World}{A:Around}{E:Value->Shared->Prop}{s:Shared}
noncomputable def SSet (prog:Program)(w:World)(h:Heap)(a:Addr)(xs:List Str)(led:Bool):Prop :=
 ∃ o es ep t,h.get? a=some o/\o.ExactSet/\o.data=.set es ep t/\ElemsOf (mixKind prog w) es.toList/\(∀ e∈es.toList,∃ y u,e.2=.str y u)/\(es.toList.map fun e=>strOf e.2).Perm xs/\es.size < scanBound/\t.fits es.size=true/\t.led=led/\(t.plain=false\/es.size=0)
theorem SSet.at {h h':Heap}{a:Addr}{xs:List Str}{led:Bool}(x:SSet prog w h a xs led)(k:∀ o,h.get? a=some o->h'.get? a=some o):SSet prog w h' a xs led :=
 let ⟨o,es,ep,t,e,r⟩:=x;⟨o,es,ep,t,k o e,r⟩
theorem sset_add {a:Addr}{xs:List Str}{led:Bool}{x:Str}{u:Tok}{Q:Bool->Shared->Prop}(hS:SSet prog w s.heap a xs led)(hr:xs.length + 1 < scanBound)
  (q:∀ r h',Heap.SameBut a s.heap h'->SSet prog w h' a (addS xs x) led->Q r { s with heap:=h' }):wpAny (model prog w) A (setAddHashed a (.str x u) ((mixKind prog w).hash (.inr x))) Q E s:=by
 obtain⟨o,es,ep,t,g1,gx,g2,el,hst,hp,hb,hf,hl,hpl⟩:=hS;have key:(mixKind prog w).is (.inr x) (.str x u)=true:=mixKind_str prog w x u;have hn:es.size=xs.length:=by rw[<- hp.length_eq,zz,zT]
 have isx:∀ e∈es.toList,(mixKind prog w).is (.inr x) e.2=decide (x=strOf e.2):=fun e he=>by
  obtain⟨y,v,ey⟩:=hst e he;rw[ey,KeyKind.is_eq_decide (mixKind_str prog w y v) (.inr x)];show decide ((Sum.inr x:Key)=.inr y)=decide (x=y);by_cases z:x=y
  ·rw[decide_eq_true z,decide_eq_true (by rw[z])]
  ·rw[decide_eq_false z,decide_eq_false fun z'=>z (by injection z')]
 unfold setAddHashed setAddHashedIn;refine wpAny_holding (zy (wpAny_setState_of g1 g2 hf ?_));dsimp only;rw[byScan_of (show (Value.str x u).scannable=true from rfl) hb el];simp only[↓reduceIte];unfold setAddByScan;refine zy (zy (wpAny_rule (zy (wpAny_setScan_of key g1 g2 hf el ?_))));cases hi:List.findIdx? (fun e=>(mixKind prog w).is (.inr x) e.2) es.toList with
 | some j =>
  dsimp only;obtain⟨hj,hpj,_⟩:=xv.mp hi;have hm:=yG hj;rw[isx _ hm]at hpj;have hx:x∈xs:=hp.mem_iff.mp (zU.mpr ⟨_,hm,(of_decide_eq_true hpj).symm⟩);refine zq (zq ?_)
  have:=q false s.heap (Heap.SameBut.refl a s.heap) (by unfold addS;rw[if_pos hx];exact⟨o,es,ep,t,g1,gx,g2,el,hst,hp,hb,hf,hl,hpl⟩)
  exact this
 | none =>
  dsimp only;have hx:¬ x∈xs:=fun z=>by
   obtain⟨e,he,ez⟩:=zU.mp (hp.mem_iff.mpr z)
   have:=List.findIdx?_eq_none_iff.mp hi e he
   rw[isx e he,ez,decide_eq_true rfl]at this;cases this
  have lperm:=layNew_perm t es ((mixKind prog w).hash (.inr x)) (.str x u);have lfits:=layNew_fits t es ((mixKind prog w).hash (.inr x)) (.str x u);have lled:=lay_led t es ((mixKind prog w).hash (.inr x)) (.str x u);generalize layNew t es ((mixKind prog w).hash (.inr x)) (.str x u)=L at lperm lfits lled ⊢;obtain⟨e1,t1,dm,gv⟩:=L;dsimp only at lperm lfits lled ⊢;rw[wF]at lperm;have el1:ElemsOf (mixKind prog w) e1.toList:=(el.push key rfl).perm lperm;have st1:∀ e∈e1.toList,∃ y u,e.2=.str y u:=fun e he=>by
   rcases zN.mp (lperm.mem_iff.mp he) with he | he
   ·exact hst e he
   ·rw[zb.mp he];exact⟨x,u,rfl⟩
  have p1:(e1.toList.map fun e=>strOf e.2).Perm (xs++[x]):=by
   refine(lperm.map _).trans ?_;rw[zm];exact hp.append_right _
  have z1:e1.size=xs.length + 1:=by rw[<- zT,<- zz (f:=fun e:Int×Value=>strOf e.2),p1.length_eq,zt];rfl
  have b1:e1.size < scanBound:=by rw[z1];exact hr
  have gw:∀ (b:Bool) {s1:Shared} {Q':Unit->Shared->Prop},Q' () s1->wpAny (model prog w) A (match b with | true=>rule "set.scan.the-table-gave-way" | false=>pure ()) Q' E s1:=fun b s1 Q' h=>by
   cases b
   ·exact zq h
   ·exact wpAny_rule h
  refine zy (gw _ ?_);have fin:∀ t2:SetTable,t2.fits e1.size=true->t2.led=led->t2.plain=false->∀ {R:Option Bool->Shared->Prop},(∀ h',Heap.SameBut a s.heap h'->SSet prog w h' a (addS xs x) led->R (some true) { s with heap:=h' }) ->
    wpAny (model prog w) A (do
     storeSet a e1 t2
     if (!dm&&t2.tooFull)=true then do
      (match (relayAll t2 e1 (SetTable.grown e1.size)).2.2 with | true=>rule "set.scan.the-table-gave-way" | false=>pure ())
      storeSet a (relayAll t2 e1 (SetTable.grown e1.size)).1 (relayAll t2 e1 (SetTable.grown e1.size)).2.1
      pure (some true)
     else pure (some true)) R E s:=fun t2 f2 l2 pl2 {R} h=>by
   refine zy (wpAny_storeSet_of g1 g2 ?_ (fits_of_scanBound b1));have ho1:(s.heap.update a (Obj.putSet e1 t2)).get? a=some { o with data:=.set e1 (ep + 1) t2 }:=by
    have:=ym (Obj.putSet e1 t2) g1 (by rw[putSet_of e1 t2 g2];rfl)
    rw[putSet_of e1 t2 g2]at this;exact this
   have hadd:addS xs x=xs++[x]:=if_neg hx;split
   ·have rp:=relayAll_perm t2 e1 (SetTable.grown e1.size)
    have rf:=relayAll_fits t2 e1 (SetTable.grown e1.size);have rl:=relay_led t2 e1 (SetTable.grown e1.size);generalize relayAll t2 e1 (SetTable.grown e1.size)=Rl at rp rf rl ⊢;obtain⟨e2,t3,g3⟩:=Rl;dsimp only at rp rf rl ⊢;have z2:e2.size=e1.size:=by rw[<- zT,rp.length_eq,zT]
    have b2:e2.size < scanBound:=by rw[z2];exact b1
    refine zy (gw _ (zy (wpAny_storeSet_of ho1 rfl ?_ (fits_of_scanBound b2))));have ho2:((s.heap.update a (Obj.putSet e1 t2)).update a (Obj.putSet e2 t3)).get? a=some { o with data:=.set e2 (ep + 1 + 1) t3 }:=by
     have:=ym (Obj.putSet e2 t3) ho1 (by rw[putSet_of e2 t3 rfl];rfl)
     rw[putSet_of e2 t3 rfl]at this;exact this
    exact zq (h _ ((Heap.SameBut.update ..).trans (Heap.SameBut.update ..)) ⟨_,e2,_,t3,ho2,gx,rfl,el1.perm rp,fun e he=>st1 e (rp.mem_iff.mp he),by rw[hadd];exact(rp.map _).trans p1,b2,rf,rl.1.trans l2,.inl (rl.2 pl2)⟩)
   ·exact zq (h _ (Heap.SameBut.update ..) ⟨_,e1,_,t2,ho1,gx,rfl,el1,st1,by rw[hadd];exact p1,b1,f2,l2,.inl pl2⟩)
  split
  ·refine zy ?_
   rw[hashByValue_scannable 8 (show (Value.str x u).scannable=true from rfl)];refine zq ?_;simp only[plainKind,yH,↓reduceIte];exact fin { t1 with plain:=false } (SetTable.fits_plain_off lfits) (lled.trans hl) rfl fun h' sb z=>zq (q true h' sb z)
  ·rename_i hnp
   refine zy (zq ?_);simp only[↓reduceIte];exact fin t1 lfits (lled.trans hl) (by simpa using hnp) fun h' sb z=>zq (q true h' sb z)
end
end L3
namespace L3
open PySem PySem.Spec PyProof.Rows L2
section
variable {prog:Program}{w:World}{A:Around}{E:Value->Shared->Prop}{s:Shared}
theorem addAll_len:∀ (ys xs:List Str),xs.length<=(addAll xs ys).length
 | [],_=>zr _
 | y::ys,xs=>by
  refine zK ?_ (addAll_len ys (addS xs y));unfold addS;split
  ·exact zr _
  ·rw[zt];exact wN _ _
theorem set_loop {led:Bool}{R:Result->Shared->Prop}{s₀:Shared}{S it a:Addr}{items:List Value}(hA:A.handled=none)(ha:s₀.heap.IsList a items.toArray)(nS:S≠it)(na:a≠S)(ni:a≠it) :
  ∀ (us:List Value) (ys xs:List Str) (i:Nat) (s:Shared),items.drop i=us->StrsAre us ys->s.heap.IsListIter it a i->SSet prog w s.heap S xs led->(addAll xs ys).length + 1 < scanBound ->
   s.gens=s₀.gens->s.drawn=s₀.drawn->s.os=s₀.os->(∀ b o,b≠S->b≠it->s₀.heap.get? b=some o->s.heap.get? b=some o) ->
   (∀ h' tk,SSet prog w h' S (addAll xs ys) led->(∀ b o,b≠S->b≠it->s₀.heap.get? b=some o->h'.get? b=some o)->R (.ok (.ret .none)) { s₀ with heap:=h',toks:=tk }) ->
   codeAny (model prog w) A (.builtin "set.update.loop" ⟨[.ref S,.ref it],[]⟩) R s
 | [],_,xs,i,s,e0,hst,hi,hS,hz,e1,e2,e3,kk,fin=>by
  cases hst;refine codeAny_builtin PyProof.Rows.F.entry_set_update_loop ?_;unfold Builtin.«set.update.loop»;have ha':s.heap.IsList a items.toArray:=ha.at fun o e=>kk a o na ni e;refine zy (wpAny_pyNext_list_end hA hi ha' (by simpa using e0) fun h' eb=>?_);refine zq ?_
  have:=fin h' s.toks (hS.at fun o e=>eb S o nS e) fun b o n1 n2 e=>eb b o n2 (kk b o n1 n2 e)
  rw[<- e1,<- e2,<- e3]at this;exact this
 | _::us,_,xs,i,s,e0,hst,hi,hS,hz,e1,e2,e3,kk,fin=>by
  cases hst with | @cons x u _ ys hr =>
  refine codeAny_builtin PyProof.Rows.F.entry_set_update_loop ?_;unfold Builtin.«set.update.loop»;have ha':s.heap.IsList a items.toArray:=ha.at fun o e=>kk a o na ni e;have hget:items[i]?=some (.str x u):=by
   have:=congrArg (fun l=>l[0]?) e0
   simpa using this
  refine zy (wpAny_pyNext_list_item hi ha' (by simpa using hget) fun h' hi' sb=>?_);have hS1:SSet prog w h' S xs led:=hS.at fun o e=>(sb.2 S nS).trans e;have hz':=addAll_len (x::ys) xs;show wpAny _ _ (holding [Value.str x u] (setAdd S (.str x u)) >>= _) _ _ _;refine zy (wpAny_holding ?_);unfold setAdd;refine wpAny_holding (zy ((mixKind prog w).pyHash (k:=.inr x) (mixKind_str prog w x u) ?_));refine sset_add (s:={ s with heap:=h',toks:=s.toks + 1 }) hS1 (by omega) fun r h2 sb2 hS2=>?_;have sb2:Heap.SameBut S h' h2:=sb2;refine zq ⟨Code.quiet_builtin _ (by decide +kernel),?_⟩;refine set_loop hA ha nS na ni us ys (addS xs x) (i + 1) _ ?_ hr ?_ hS2 ?_ e1 e2 e3 (fun b o n1 n2 e=>?_) fin
  ·rw[<- List.drop_drop,e0];rfl
  ·exact hi'.extBut sb2.extBut (Ne.symm nS)
  ·exact hz
  ·exact(sb2.2 b n1).trans ((sb.2 b n2).trans (kk b o n1 n2 e))
noncomputable def ledOf (w:World):Bool:=!(w.params.followText "set-order")
theorem new_set (a:Value){Q₁:Value->Shared->Prop}(q:Q₁ (.ref s.heap.objs.size) { s with heap:=s.heap.push { cls:=.type "set",dict:=none,data:=.set #[] 0 (.fresh 0 0 (ledOf w)) } }) :
  codeAny (model prog w) A (.call (.builtin "set.__new__") ⟨[.type "set",a],[]⟩) (wants Q₁ E) s:=by
 refine codeAny_of_tree ?_;show wpAny _ A.in1 (do checkBuiltinCall "set.__new__" ⟨[.type "set",a],[]⟩;again (.builtin "set.__new__" ⟨[.type "set",a],[]⟩)) _ _ s;refine zy (wpAny_of_eq (PySem.F.newCall_set_1 a) (zq ⟨plainId_quiet PySem.F.plain_set_new _,codeAny_builtin PySem.F.entry_set_new ?_⟩));rw[Around.under_plainId PySem.F.plain_set_new _];unfold Builtin.«set.__new__» Builtin.Frozenset.newClass;have sub1:=sub_set_self;obtain⟨hp,g,d,tk,os⟩:=s;dsimp only;wp_walk;refine wpAny_askSetting (zq ?_);dsimp only;simp only[newObj];exact zy (wpAny_alloc (zq (zq q)))
set_option maxRecDepth 100000 in
theorem call_set_strs {l:Addr}{items:List Value}{ys:List Str}{Q:Value->Shared->Prop}(hh:A.handled=none)(hl:s.heap.IsList l items.toArray)(hi:StrsAre items ys)(hb:(addAll [] ys).length + 1 < scanBound)
  (q:∀ (h':Heap) (tk:Nat),SSet prog w h' s.heap.objs.size (addAll [] ys) (ledOf w)->(∀ b o,s.heap.get? b=some o->h'.get? b=some o)->Q (.ref s.heap.objs.size) { s with heap:=h',toks:=tk }) :
  wpAny (model prog w) A (call (.type "set") [.ref l]) Q E s:=by
 obtain⟨c,tl,hmro⟩:=PySem.F.called_set.mro;have hmade:=PySem.F.called_set.made;have hsub:=PySem.F.called_set.sub;refine wpAny_call (codeAny_of_tree ?_);show wpAny _ _ (callAny (.type "set") _) _ _ _;refine zq ⟨Code.quiet_builtin _ (by decide +kernel),codeAny_builtin PySem.F.entry_type_call ?_⟩;rw[Around.under_plain (weight_type_call_type "set" [.ref l] []) rfl];have h1:=PySem.F.called_set.notType;have h2:=PySem.F.called_set.canCreate;have hct:=PySem.F.typeCall_set_1 (.ref l)
 repeat (any_goals (first | assumption | wp_step))
 refine codeAny_mono (new_set (.ref l) (E:=E) (Q₁:=fun obj s₁=>obj=.ref s.heap.objs.size/\s₁ = { s with heap:=s.heap.push { cls:=.type "set",dict:=none,data:=.set #[] 0 (.fresh 0 0 (ledOf w)) } }) ⟨rfl,rfl⟩) fun r s₁ hr=>?_;cases r with
 | error e=>exact hr
 | ok fl =>
  cases fl with
  | ret obj =>
   obtain⟨rfl,rfl⟩:=hr;have gS:(s.heap.push { cls:=.type "set",dict:=none,data:=.set #[] 0 (.fresh 0 0 (ledOf w)) }).get? s.heap.objs.size=some { cls:=.type "set",dict:=none,data:=.set #[] 0 (.fresh 0 0 (ledOf w)) }:=zc _ rfl;have ty:Shared.TypeIs { s with heap:=s.heap.push { cls:=.type "set",dict:=none,data:=.set #[] 0 (.fresh 0 0 (ledOf w)) } } (.ref s.heap.objs.size) "set":=⟨_,gS,rfl⟩;have hli:=PySem.F.called_set.init.lookup;have hbi:=PySem.F.called_set.init.bind (.ref s.heap.objs.size)
   repeat (any_goals (first | assumption | wp_step))
   refine codeAny_mono (codeAny_call_builtin (R:=wants (fun r s₂=>r=.none/\∃ h' tk,s₂ = { s with heap:=h',toks:=tk }/\SSet prog w h' s.heap.objs.size (addAll [] ys) (ledOf w)/\(∀ b o,s.heap.get? b=some o->h'.get? b=some o)) E) PySem.F.called_set.init.plain PySem.F.entry_set_init (check_set_init_1 ty ?_)) fun r₂ s₂ hr₂=>?_
   ·obtain⟨ol,hol,hcl,nl,hdl⟩:=id hl
    obtain⟨oc,od,odt,osl⟩:=ol;simp only at hcl hdl;subst hcl hdl;have hol':(s.heap.push { cls:=.type "set",dict:=none,data:=.set #[] 0 (.fresh 0 0 (ledOf w)) }).get? l=some { cls:=.type "list",dict:=od,data:=.seq items.toArray nl,slots:=osl }:=zo _ hol;have f1:=PySem.F.sub_list_set;have f2:=PySem.F.sub_list_frozenset;have f3:(Value.type "list"==Value.type "dict")=false:=by decide
    have hl1:(s.heap.push { cls:=.type "set",dict:=none,data:=.set #[] 0 (.fresh 0 0 (ledOf w)) }).IsList l items.toArray:=⟨_,hol',rfl,nl,rfl⟩;unfold Builtin.«set.__init__» noKeywords Builtin.Frozenset.updateFrom;generalize hPI:pyIter=PI;wp_walk;subst hPI;refine wpAny_pyIter_list hl1 ?_;refine zy (wpAny_runValue ?_);have lt:l < s.heap.objs.size:=zf hol;have sz:(s.heap.push { cls:=.type "set",dict:=none,data:=.set #[] 0 (.fresh 0 0 (ledOf w)) }).objs.size=s.heap.objs.size + 1:=xq ..;have S0:SSet prog w ((s.heap.push { cls:=.type "set",dict:=none,data:=.set #[] 0 (.fresh 0 0 (ledOf w)) }).push { cls:=.type "list_iterator",data:=.fields #[.ref l,.int 0 0] }) s.heap.objs.size [] (ledOf w) :=
     ⟨_,#[],0,_,zo _ gS,⟨rfl,rfl,rfl⟩,rfl,(fun e he=>by simp at he),(fun e he=>by simp at he),.nil,(by unfold scanBound;decide),rfl,rfl,.inr rfl⟩
    refine set_loop (led:=ledOf w) (s₀:={ s with heap:=(s.heap.push { cls:=.type "set",dict:=none,data:=.set #[] 0 (.fresh 0 0 (ledOf w)) }).push { cls:=.type "list_iterator",data:=.fields #[.ref l,.int 0 0] } }) (S:=s.heap.objs.size) (it:=(s.heap.push { cls:=.type "set",dict:=none,data:=.set #[] 0 (.fresh 0 0 (ledOf w)) }).objs.size) (a:=l) (items:=items) (by simp[hh]) (hl1.push _) (by rw[sz];exact za (xL _)) (za lt) (by rw[sz];exact za (yB lt)) items ys [] 0 _ rfl hi ⟨_,zc _ rfl,rfl,rfl⟩ S0 hb rfl rfl rfl (fun b o _ _ e=>e) fun h' tk hS' kk=>?_;show wpAny _ _ _ _ _ _;refine zq ?_;show wpAny _ _ (ret Value.none) _ _ _;refine zq ⟨rfl,h',tk,rfl,hS',fun b o e=>?_⟩;have hb:=zf e;exact kk b o (za hb) (by rw[sz];exact za (yB hb)) (zo _ (zo _ e))
   ·cases r₂ with
    | error e=>exact hr₂
    | ok fl₂ =>
     cases fl₂ with
     | ret r =>
      obtain⟨rfl,h',tk,rfl,hS',hk'⟩:=hr₂
      repeat (any_goals (first | assumption | wp_step))
      exact q _ _ hS' hk'
     | _=>exact hr₂
  | _=>exact hr
end
end L3
namespace L3
open PySem PySem.Spec PyProof.Rows L2
theorem slot_si:Slot "set_iterator" "__next__" "set_iterator.__next__" :=
 Slot.of (owner:="set_iterator") (n:="__next__") (by rw[typeLookup_type,builtinLookup_eq_fast];kernel_rfl) (by decide +kernel) (by decide +kernel) (by decide +kernel) (by first | exact .inl (by decide +kernel) | exact .inr (by decide +kernel)) (by rw[isSubtype_type];kernel_rfl)
theorem entry_si:entryFor table "set_iterator.__next__" = some Builtin.«set_iterator.__next__»:=entryFor_of_tree (by kernel_rfl)
theorem args_si (a:Value):argsOk "set_iterator.__next__" ⟨[a],[]⟩:=by unfold argsOk;kernel_rfl
theorem entry_sit:entryFor table "set.__iter__" = some Builtin.«frozenset.__iter__»:=entryFor_alias (id':="frozenset.__iter__") (by kernel_rfl) (by decide +kernel) (by decide +kernel) (by kernel_rfl)
theorem er_perm {α:Type}:∀ {l:List α} {i:Nat} (h:i < l.length),(l[i]::l.eraseIdx i).Perm l
 | _::_,0,_=>.refl _
 | x::l,i + 1,h=>by
  have h':i < l.length:=by simpa using h
  exact(List.Perm.swap x l[i] _).trans ((er_perm h').cons x)
section
variable {prog:Program}{w:World}{A:Around}{E:Value->Shared->Prop}{s:Shared}
theorem wp_draw {src:Source}{n:Nat}{Q:Nat->Shared->Prop}(hn:n≠0)(q:∀ i d,i < n->Q i { s with drawn:=d }):wpAny (model prog w) A (choose src n) Q E s:=fun Γ p _=>by
 show Sem.wp _ _ (.choose src n .pure) _ _ _ _;rw[Sem.wp_choose];exact⟨hn,q _ _ (vm _ (wb hn))⟩
theorem wp_order {α:Type}:∀ (n:Nat) (xs:List α) (s:Shared) {Q:List α->Shared->Prop},xs.length=n->(∀ ys d,ys.Perm xs->Q ys { s with drawn:=d })->wpAny (model prog w) A (drawOrder n xs) Q E s
 | 0,xs,s,Q,h,q=>by
  obtain rfl:=yA h;exact zq (q [] s.drawn .nil)
 | n + 1,[],s,Q,h,q=>by cases h
 | n + 1,x::xs,s,Q,h,q=>by
  unfold drawOrder;refine zy (wp_draw (by simp) fun i d hi=>?_);rw[zx hi];dsimp only;refine zy (wp_order n ((x::xs).eraseIdx i) _ (by rw[xB hi,h];rfl) fun ys d' p=>?_);exact zq (q _ _ ((p.cons _).trans (er_perm hi)))
theorem pick_go {α:Type}(f:Nat->Nat):∀ (n k:Nat) (l:List α) (out:Array α),l.length=n->(pickOrder.go f n k l out).toList.Perm (out.toList++l)
 | 0,_,l,out,h=>by
  obtain rfl:=yA h;unfold pickOrder.go;rw[zO]
 | n + 1,k,l,out,h=>by
  unfold pickOrder.go;have hlt:f k % l.length < l.length:=vm _ (by omega);rw[zx hlt];dsimp only;refine(pick_go f n (k + 1) _ _ (by rw[xB hlt,h];rfl)).trans ?_;rw[wF,yq];exact(er_perm hlt).append_left _
theorem pick_perm {α:Type}(f:Nat->Nat)(xs:Array α):(pickOrder f xs).toList.Perm xs.toList:=by
 have:=pick_go f xs.size 0 xs.toList #[] (by simp)
 simpa [pickOrder] using this
noncomputable def SIt (h:Heap)(I a:Addr)(first:Value)(i n ep:Nat):Prop:=∃ o,h.get? I=some o/\o.cls=.type "set_iterator"/\o.data=.fields #[first,.int i 0,.ref a,.int n 0,.int ep 0]
theorem SIt.ty {I a:Addr}{first:Value}{i n ep:Nat}(x:SIt s.heap I a first i n ep):s.TypeIs (.ref I) "set_iterator":=let ⟨o,h,c,_⟩:=x;⟨o,h,c⟩
theorem SIt.at {h h':Heap}{I a:Addr}{first:Value}{i n ep:Nat}(x:SIt h I a first i n ep)(k:∀ o,h.get? I=some o->h'.get? I=some o):SIt h' I a first i n ep:=let ⟨o,e,r⟩:=x;⟨o,k o e,r⟩
variable {I a:Addr}{so:Obj}{es:Array (Int×Value)}{ep:Nat}{t:SetTable}
structure SAt (h:Heap) (a:Addr) (so:Obj) (es:Array (Int×Value)) (ep:Nat) (t:SetTable):Prop where
 g:h.get? a=some so
 d:so.data=.set es ep t
 f:t.fits es.size=true
theorem wp_ent {Q:Array (Int×Value)->Shared->Prop}(S:SAt s.heap a so es ep t)(q:Q es s):wpAny (model prog w) A (setEntries a) Q E s:=by
 unfold setEntries;exact zy (wpAny_setState_of S.g S.d S.f (zq q))
theorem wp_txt {Q:Bool->Shared->Prop}(q:Q (w.params.followText "set-order") s):wpAny (model prog w) A setsByText Q E s:=by
 unfold setsByText;exact zy (wpAny_askSetting (zq q))
theorem si_put {vs:Array Value}{o:Obj}{i:Nat}{x:Value}{Q:Unit->Shared->Prop}(k1:s.heap.get? I=some o)(k2:o.cls=.type "set_iterator")(k3:o.data=.fields vs)(hi:i < vs.size)
  (q:∀ h' o',h'.get? I=some o'->o'.cls=.type "set_iterator"->o'.data=.fields (vs.setIfInBounds i x)->Heap.SameBut I s.heap h'->Q () { s with heap:=h' }):wpAny (model prog w) A (setField (.ref I) i x) Q E s :=
 wpAny_setField k1 k3 hi (q _ _ (ym _ k1 (Obj.isFreed_of_fields (Obj.data_mapFields k3 _))) ((Obj.cls_mapFields ..).trans k2) (Obj.data_mapFields k3 _) (Heap.SameBut.update ..))
theorem si_stop {o:Obj}{vs:Array Value}{Q:Option Value->Shared->Prop}{P:PySem.Fin->Shared->Prop}(hh:A.handled=none)(k1:s.heap.get? I=some o)(k2:o.cls=.type "set_iterator")(k3:o.data=.fields vs)(hi:2 < vs.size)(q:∀ h',Heap.ExtBut I s.heap h'->Q none { s with heap:=h' }) :
  wpAny (model prog w) A.in1 (do setField (.ref I) 2 .none;let e <- newExc (.type "StopIteration") [];raiseNew e:Sem PySem.Fin) P (fun e s'=>wpAny (model prog w) A (do let b <- isInstance e (.type "StopIteration");if b=true then pure none else throw e) Q E s') s:=by
 refine zy (si_put k1 k2 k3 hi fun h1 o1 _ _ _ sb=>?_);refine zy ?_;simp only[newExc,newTuple];refine zy (wpAny_newObj_type (zy (m:=firstArgMember _ _) (wpAny_of_eq (a:=Value.none) (by first | rfl | (simp only[firstArgMember];rfl)) ?_)) (by size_fits))
 refine wpAny_newObj_type ?_ (by size_fits);simp only[raiseNew];refine zy (wpAny_handled ?_);rw[show A.in1.handled=none from hh];refine zy (zq (wpAny_throw ?_));exact zy (wpAny_isInstance (T:="StopIteration") (b:=true) ⟨_,zc _ rfl,rfl⟩ isSubtype_stop (zq (q _ ((sb.extBut.push _).push _))))
theorem siA_next {i:Nat}{Q:Option (Value×Nat)->Shared->Prop}(hb:w.params.followText "set-order" = true)(S:SAt s.heap a so es ep t)(q:Q (((pickOrder (w.params.setOrder a ep) es)[i]?).map fun e=>(e.2,0)) s):wpAny (model prog w) A (setNext a 0 i ep) Q E s:=by
 unfold setNext;refine zy (wpAny_setState_of S.g S.d S.f ?_);dsimp only;refine zy (wp_txt ?_);rw[hb,if_pos rfl,if_neg (by simp)];refine zy ?_;unfold setWalk;refine zy (wpAny_setState_of S.g S.d S.f ?_);dsimp only;refine zy (wp_txt ?_);rw[hb,if_pos rfl];exact zy (wpAny_askSetting (zq (zq q)))
theorem siA_item {i:Nat}{e:Int×Value}{Q:Option Value->Shared->Prop}(hb:w.params.followText "set-order" = true)(st:SIt s.heap I a (.int 0 0) i es.size ep)(S:SAt s.heap a so es ep t)(hx:(pickOrder (w.params.setOrder a ep) es)[i]?=some e)
  (q:∀ h',SIt h' I a (.int 0 0) (i + 1) es.size ep->Heap.SameBut I s.heap h'->Q (some e.2) { s with heap:=h' }):wpAny (model prog w) A (pyNext (.ref I)) Q E s:=by
 obtain⟨o,k1,k2,k3⟩:=id st;unfold pyNext;refine zy (wpAny_attempt (wpAny_callSpecial?_slot (name:=Str.ofString "__next__") st.ty slot_si (wpAny_call_entry slot_si st.ty entry_si ?_ (args_si _))));unfold Builtin.«set_iterator.__next__»;refine zy (zq ?_);refine zy (wpAny_fieldsOf k1 k3 ?_);dsimp only;refine zy (wp_ent S ?_);rw[if_neg (by simp)];simp only[zE];refine zy (siA_next hb S ?_);rw[hx];dsimp only[Option.map];refine zy (si_put k1 k2 k3 (by simp) fun h1 o1 j1 j2 j3 sb1=>zy (si_put (s:={ s with heap:=h1 }) j1 j2 j3 (by simp) fun h2 o2 l1 l2 l3 sb2=>?_));exact zq ⟨_,rfl,zq (q h2 ⟨o2,l1,l2,by rw[l3];simp[rawInt]⟩ (sb1.trans sb2))⟩
theorem siA_end {i:Nat}{Q:Option Value->Shared->Prop}(hh:A.handled=none)(hb:w.params.followText "set-order" = true)(st:SIt s.heap I a (.int 0 0) i es.size ep)(S:SAt s.heap a so es ep t)(hx:(pickOrder (w.params.setOrder a ep) es)[i]?=none)
  (q:∀ h',Heap.ExtBut I s.heap h'->Q none { s with heap:=h' }):wpAny (model prog w) A (pyNext (.ref I)) Q E s:=by
 obtain⟨o,k1,k2,k3⟩:=id st;unfold pyNext;refine zy (wpAny_attempt (wpAny_callSpecial?_slot (name:=Str.ofString "__next__") st.ty slot_si (wpAny_call_entry slot_si st.ty entry_si ?_ (args_si _))));unfold Builtin.«set_iterator.__next__»;refine zy (zq ?_);refine zy (wpAny_fieldsOf k1 k3 ?_);dsimp only;refine zy (wp_ent S ?_);rw[if_neg (by simp)];simp only[zE];refine zy (siA_next hb S ?_);rw[hx];exact si_stop hh k1 k2 k3 (by simp) q
theorem siB_item {i p:Nat}{pt:Addr}{po:Obj}{ps:List Nat}{c:Nat}{e:Int×Value}{Q:Option Value->Shared->Prop}(st:SIt s.heap I a (.ref pt) i es.size ep)(S:SAt s.heap a so es ep t)(g1:s.heap.get? pt=some po)(g2:po.data=.seq (ps.map fun (i:Nat)=>rawInt i).toArray c)(hp:ps[i]?=some p)(hx:es[p]?=some e)
  (q:∀ h',SIt h' I a (.ref pt) (i + 1) es.size ep->Heap.SameBut I s.heap h'->Q (some e.2) { s with heap:=h' }):wpAny (model prog w) A (pyNext (.ref I)) Q E s:=by
 obtain⟨o,k1,k2,k3⟩:=id st;unfold pyNext;refine zy (wpAny_attempt (wpAny_callSpecial?_slot (name:=Str.ofString "__next__") st.ty slot_si (wpAny_call_entry slot_si st.ty entry_si ?_ (args_si _))));unfold Builtin.«set_iterator.__next__»;refine zy (zq ?_);refine zy (wpAny_fieldsOf k1 k3 ?_);dsimp only;refine zy (wp_ent S ?_);rw[if_neg (by simp)];simp only[zE];refine zy (wpAny_seqItems g1 g2 ?_);have hpl:((ps.map fun (i:Nat)=>rawInt i).toArray)[i]?=some (.int p 0):=by simp[hp,rawInt]
 dsimp only;rw[hpl];dsimp only;refine zy ?_;unfold setNextDrawn;refine zy (wpAny_setState_of S.g S.d S.f ?_);dsimp only;rw[if_neg (by simp),zE,hx];refine zq ?_;refine zy (si_put k1 k2 k3 (by simp) fun h1 o1 j1 j2 j3 sb1=>?_);exact zq ⟨_,rfl,zq (q h1 ⟨o1,j1,j2,by rw[j3];simp[rawInt]⟩ sb1)⟩
theorem siB_end {i:Nat}{pt:Addr}{po:Obj}{ps:List Nat}{c:Nat}{Q:Option Value->Shared->Prop}(hh:A.handled=none)(st:SIt s.heap I a (.ref pt) i es.size ep)(S:SAt s.heap a so es ep t)(g1:s.heap.get? pt=some po)(g2:po.data=.seq (ps.map fun (i:Nat)=>rawInt i).toArray c)(hp:ps[i]?=none)
  (q:∀ h',Heap.ExtBut I s.heap h'->Q none { s with heap:=h' }):wpAny (model prog w) A (pyNext (.ref I)) Q E s:=by
 obtain⟨o,k1,k2,k3⟩:=id st;unfold pyNext;refine zy (wpAny_attempt (wpAny_callSpecial?_slot (name:=Str.ofString "__next__") st.ty slot_si (wpAny_call_entry slot_si st.ty entry_si ?_ (args_si _))));unfold Builtin.«set_iterator.__next__»;refine zy (zq ?_);refine zy (wpAny_fieldsOf k1 k3 ?_);dsimp only;refine zy (wp_ent S ?_);rw[if_neg (by simp)];simp only[zE];refine zy (wpAny_seqItems g1 g2 ?_);have hpl:((ps.map fun (i:Nat)=>rawInt i).toArray)[i]?=none:=by simpa using hp
 dsimp only;rw[hpl];dsimp only;refine zy (si_put k1 k2 k3 (by simp) fun h1 o1 j1 j2 j3 sb1=>?_);exact si_stop (s:={ s with heap:=h1 }) hh j1 j2 j3 (by simp) fun h' eb=>q h' (sb1.extBut.trans eb)
end
end L3
namespace L3
open PySem PySem.Spec PyProof.Rows L2
section
variable {prog:Program}{w:World}{A:Around}{E:Value->Shared->Prop}{s:Shared}{I a:Addr}{so:Obj}{es:Array (Int×Value)}{ep:Nat}{t:SetTable}
theorem siC_next {slot i:Nat}{Q:Option (Value×Nat)->Shared->Prop}(hb:w.params.followText "set-order" = false)(hl:t.led=true)(h1:es.size<=1)(S:SAt s.heap a so es ep t)
  (q:Q (match es[SetTable.below t.place slot]?,t.place[SetTable.below t.place slot]? with
   | some (_,x),some j=>some (x,j + 1)
   | _,_=>none) s):wpAny (model prog w) A (setNext a slot i ep) Q E s:=by
 unfold setNext;refine zy (wpAny_setState_of S.g S.d S.f ?_);dsimp only;refine zy (wp_txt ?_);rw[hb,if_neg zh];split
 ·rename_i z
  have z:(!t.plain&&decide (es.size > 1))=true:=z;rw[decide_eq_false (by omega),xA]at z;cases z
 ·refine zy (m:=if (!t.led&&!es.isEmpty)=true then unsupported "set:maker-not-led" else pure ()) ?_
  rw[hl,if_neg (by simp)];exact zq (zq q)
theorem siC_run {slot i:Nat}{r:Option (Value×Nat)}{Q:Option Value->Shared->Prop}(hh:A.handled=none)(hb:w.params.followText "set-order" = false)(hl:t.led=true)(h1:es.size<=1)(st:SIt s.heap I a (.int slot 0) i es.size ep)(S:SAt s.heap a so es ep t)
  (hr:(match es[SetTable.below t.place slot]?,t.place[SetTable.below t.place slot]? with
   | some (_,x),some j=>some (x,j + 1)
   | _,_=>none)=r)
  (q1:∀ x k h',r=some (x,k)->SIt h' I a (.int k 0) (i + 1) es.size ep->Heap.SameBut I s.heap h'->Q (some x) { s with heap:=h' }) (q2:∀ h',r=none->Heap.ExtBut I s.heap h'->Q none { s with heap:=h' }):wpAny (model prog w) A (pyNext (.ref I)) Q E s:=by
 obtain⟨o,k1,k2,k3⟩:=id st;unfold pyNext;refine zy (wpAny_attempt (wpAny_callSpecial?_slot (name:=Str.ofString "__next__") st.ty slot_si (wpAny_call_entry slot_si st.ty entry_si ?_ (args_si _))));unfold Builtin.«set_iterator.__next__»;refine zy (zq ?_);refine zy (wpAny_fieldsOf k1 k3 ?_);dsimp only;refine zy (wp_ent S ?_);rw[if_neg (by simp)];simp only[zE];refine zy (siC_next hb hl h1 S ?_);rw[hr];cases r with
 | none=>exact si_stop hh k1 k2 k3 (by simp) fun h' eb=>q2 h' rfl eb
 | some p =>
  obtain⟨x,k⟩:=p;dsimp only;refine zy (si_put k1 k2 k3 (by simp) fun h1 o1 j1 j2 j3 sb1=>zy (si_put (s:={ s with heap:=h1 }) j1 j2 j3 (by simp) fun h2 o2 l1 l2 l3 sb2=>?_));exact zq ⟨_,rfl,zq (q1 x k h2 rfl ⟨o2,l1,l2,by rw[l3];simp[rawInt]⟩ (sb1.trans sb2))⟩
theorem below_0 (j:Nat):SetTable.below #[j] 0=0:=by
 unfold SetTable.below;simp[SetTable.below.go]
theorem below_1 (j:Nat):SetTable.below #[j] (j + 1)=1:=by
 unfold SetTable.below;simp[SetTable.below.go]
theorem SAt.at {h h':Heap}(S:SAt h a so es ep t)(k:∀ o,h.get? a=some o->h'.get? a=some o):SAt h' a so es ep t:=⟨k _ S.g,S.d,S.f⟩
theorem slot_sii:Slot "set_iterator" "__iter__" "set_iterator.__iter__" :=
 Slot.of (owner:="set_iterator") (n:="__iter__") (by rw[typeLookup_type,builtinLookup_eq_fast];kernel_rfl) (by decide +kernel) (by decide +kernel) (by decide +kernel) (by first | exact .inl (by decide +kernel) | exact .inr (by decide +kernel)) (by rw[isSubtype_type];kernel_rfl)
theorem entry_sii:entryFor table "set_iterator.__iter__" = some Builtin.«dict_keyiterator.__iter__»:=entryFor_alias (id':="dict_keyiterator.__iter__") (by kernel_rfl) (by decide +kernel) (by decide +kernel) (by kernel_rfl)
theorem args_sii (a:Value):argsOk "set_iterator.__iter__" ⟨[a],[]⟩:=by unfold argsOk;kernel_rfl
theorem pyIter_si {first:Value}{i n:Nat}{Q:Value->Shared->Prop}(st:SIt s.heap I a first i n ep)(q:Q (.ref I) s):wpAny (model prog w) A (pyIter (.ref I)) Q E s:=by
 refine wpAny_pyIter_slot st.ty slot_sii (wpAny_call_entry slot_sii st.ty entry_sii ?_ (args_sii _));show wpAny _ _ (ret (.ref I)) _ _ s;exact zq ⟨_,rfl,"set_iterator",_,st.ty,slot_si.lookup,q⟩
theorem wkA (hh:A.handled=none)(hb:w.params.followText "set-order" = true)(nI:a≠I):Walks prog w A I [I,a] [I] ((pickOrder (w.params.setOrder a ep) es).toList.map (·.2)).length (fun i v=>((pickOrder (w.params.setOrder a ep) es).toList.map (·.2))[i]?=some v) (fun i h=>SIt h I a (.int 0 0) i es.size ep/\SAt h a so es ep t) where
 sub:=fun b hb=>zG.mpr (.inl (zb.mp hb))
 frame:=fun i h h' st k=>⟨st.1.at fun o e=>k I (by simp) o e,st.2.at fun o e=>k a (by simp) o e⟩
 item:=fun i s Q E hi st q=>by
  have hi':i < (pickOrder (w.params.setOrder a ep) es).size:=by simpa using hi
  have hx:=yp hi';refine siA_item hb st.1 st.2 hx fun h' st' sb=>?_
  have:=q ((pickOrder (w.params.setOrder a ep) es)[i]).2 h' s.toks (by simp[hx]) ⟨st',st.2.at fun o e=>(sb.2 a nI).trans e⟩ fun b o hb e=>(sb.2 b (by simpa using hb)).trans e
  exact this
 done:=fun s Q E st q=>by
  refine siA_end hh hb st.1 st.2 (by simp) fun h' eb=>?_;exact q h' s.toks fun b o hb e=>eb b o (by simpa using hb) e
 self:=fun i s Q E st q=>pyIter_si st.1 q
noncomputable def PlAt (h:Heap)(pt:Addr)(ps:List Nat):Prop:=h.get? pt=some { cls:=.type "tuple",data:=.seq (ps.map fun (i:Nat)=>rawInt i).toArray }
theorem wkB {pt:Addr}{ps:List Nat}(hh:A.handled=none)(nI:a≠I)(nP:pt≠I)(hps:ps.Perm (List.range es.size)):Walks prog w A I [I,a,pt] [I] (ps.map fun p=>(es.getD p default).2).length (fun i v=>(ps.map fun p=>(es.getD p default).2)[i]?=some v) (fun i h=>SIt h I a (.ref pt) i es.size ep/\SAt h a so es ep t/\PlAt h pt ps) where
 sub:=fun b hb=>zG.mpr (.inl (zb.mp hb))
 frame:=fun i h h' st k=>⟨st.1.at fun o e=>k I (by simp) o e,st.2.1.at fun o e=>k a (by simp) o e,k pt (by simp) _ st.2.2⟩
 item:=fun i s Q E hi st q=>by
  have hi':i < ps.length:=by simpa using hi
  have hp:=zx hi';have hlt:ps[i] < es.size:=yx.mp (hps.mem_iff.mp (yG hi'));refine siB_item st.1 st.2.1 st.2.2 rfl hp (yp hlt) fun h' st' sb=>?_;exact q _ h' s.toks (by simp[hp,xQ,hlt]) ⟨st',st.2.1.at fun o e=>(sb.2 a nI).trans e,(sb.2 pt nP).trans st.2.2⟩ fun b o hb e=>(sb.2 b (by simpa using hb)).trans e
 done:=fun s Q E st q=>by
  refine siB_end hh st.1 st.2.1 st.2.2 rfl (by simp) fun h' eb=>?_;exact q h' s.toks fun b o hb e=>eb b o (by simpa using hb) e
 self:=fun i s Q E st q=>pyIter_si st.1 q
noncomputable def slotC (t:SetTable):Nat->Nat
 | 0=>0
 | _ + 1=>t.place.getD 0 0 + 1
theorem wkC (hh:A.handled=none)(hb:w.params.followText "set-order" = false)(hl:t.led=true)(h1:es.size<=1)(nI:a≠I)(hf:t.fits es.size=true):Walks prog w A I [I,a] [I] (es.toList.map (·.2)).length (fun i v=>(es.toList.map (·.2))[i]?=some v) (fun i h=>i<=es.size/\SIt h I a (.int (slotC t i:Nat) 0) i es.size ep/\SAt h a so es ep t) where
 sub:=fun b hb=>zG.mpr (.inl (zb.mp hb))
 frame:=fun i h h' st k=>⟨st.1,st.2.1.at fun o e=>k I (by simp) o e,st.2.2.at fun o e=>k a (by simp) o e⟩
 item:=fun i s Q E hi st q=>by
  have hi':i < es.size:=by simpa using hi
  obtain rfl:i=0:=by omega
  have hs:es.size=1:=by omega
  simp only[SetTable.fits,zk,beq_iff_eq]at hf;have hp:t.place = #[t.place.getD 0 0]:=by
   have z:=hf.1;rw[hs]at z;apply va
   ·simp[z]
   ·intro k hk1 hk2
    obtain rfl:k=0:=by omega
    simp[xQ,z]
  have e0:SetTable.below t.place (slotC t 0)=0:=by rw[hp];exact below_0 _
  refine siC_run hh hb hl h1 st.2.1 st.2.2 rfl (fun x k h' hr st' sb=>?_) fun h' hr eb=>?_
  ·rw[e0,yp hi',yp (by rw[hf.1,hs];decide)]at hr
   cases hr;refine q _ h' s.toks (by simp[hi']) ⟨by omega,?_,st.2.2.at fun o e=>(sb.2 a nI).trans e⟩ fun b o hb e=>(sb.2 b (by simpa using hb)).trans e
   have:slotC t (0 + 1)=t.place[0]'(by rw[hf.1,hs];decide) + 1:=by
    show t.place.getD 0 0 + 1=_;simp[xQ,hf.1,hs]
   rw[this];exact st'
  ·rw[e0,yp hi',yp (by rw[hf.1,hs];decide)]at hr
   cases hr
 done:=fun s Q E st q=>by
  have hn:(es.toList.map (·.2)).length=es.size:=by simp
  rw[hn]at st;simp only[SetTable.fits,zk,beq_iff_eq]at hf;refine siC_run hh hb hl h1 st.2.1 st.2.2 rfl (fun x k h' hr st' sb=>?_) fun h' hr eb=>q h' s.toks fun b o hb e=>eb b o (by simpa using hb) e;exfalso;have hs:es.size=0\/es.size=1:=by omega
  rcases hs with hs | hs
  ·rw[xp (by omega)]at hr
   cases hr
  ·have hp:t.place = #[t.place.getD 0 0]:=by
    have z:=hf.1;rw[hs]at z;apply va
    ·simp[z]
    ·intro k hk1 hk2
     obtain rfl:k=0:=by omega
     simp[xQ,z]
   have e1:SetTable.below t.place (slotC t es.size)=1:=by rw[hs,hp];exact below_1 _
   rw[e1,xp (by omega)]at hr;cases hr
 self:=fun i s Q E st q=>pyIter_si st.2.1 q
theorem iter_set {xs:List Str}{Q:Value->Shared->Prop}(hh:A.handled=none)(hS:SSet prog w s.heap a xs (ledOf w))
  (q:∀ I h' d fp vs St,(∀ b o,s.heap.get? b=some o->h'.get? b=some o)->s.heap.objs.size<=I->(∀ b∈fp,b=a\/s.heap.objs.size<=b)->Walks prog w A I fp [I] vs.length (fun i v=>vs[i]?=some v) St->St 0 h'->(∃ ys,StrsAre vs ys/\ys.Perm xs)->Q (.ref I) { s with heap:=h',drawn:=d }) :
  wpAny (model prog w) A (pyIter (.ref a)) Q E s:=by
 obtain⟨so,es,ep,t,g1,gx,g2,el,hst,hp,hbd,hf,hl,hpl⟩:=hS;have S:SAt s.heap a so es ep t:=⟨g1,g2,hf⟩;have lta:a < s.heap.objs.size:=zf g1;have ty:s.TypeIs (.ref a) "set":=⟨so,g1,gx.1⟩;have sts:∀ l:List (Int×Value),l.Perm es.toList->∃ ys,StrsAre (l.map (·.2)) ys/\ys.Perm xs:=fun l pl=>by
  refine⟨l.map fun e=>strOf e.2,?_,(pl.map _).trans hp⟩;have hl':∀ e∈l,∃ y u,e.2=.str y u:=fun e he=>hst e (pl.mem_iff.mp he);clear pl;induction l with
  | nil=>exact .nil
  | cons e l ih =>
   obtain⟨y,u,ey⟩:=hl' e zJ;rw[zD,zD,ey];exact .cons y u (ih fun e' h=>hl' e' (zF _ h))
 refine wpAny_pyIter_slot ty PySem.F.slot_set_iter (wpAny_call_entry PySem.F.slot_set_iter ty entry_sit ?_ (PySem.F.args_set_iter_1 _));unfold Builtin.«frozenset.__iter__»;refine zy (zq ?_);refine zy (zy (wp_ent S (zq ?_)));refine zy ?_;unfold setDrawn;refine zy (wpAny_setState_of g1 g2 hf ?_);dsimp only;refine zy (wp_txt (zq ?_));have nI:a≠s.heap.objs.size:=za lta;cases hb:w.params.followText "set-order" with
 | true =>
  refine zy (zq ?_);refine zy (wpAny_setEpoch_of g1 g2 hf ?_);refine zy (wpAny_newObj_type (zq ⟨_,rfl,"set_iterator",_,⟨_,zc _ rfl,rfl⟩,slot_si.lookup,?_⟩));refine q s.heap.objs.size _ s.drawn [s.heap.objs.size,a] _ _ (fun b o e=>zo _ e) (zr _) (fun b hm=>?_) (wkA (ep:=ep) (es:=es) (so:=so) (t:=t) hh hb nI) ⟨⟨_,zc _ rfl,rfl,rfl⟩,S.at fun o e=>zo _ e⟩ (sts _ (pick_perm _ es));rcases zG.mp hm with e | hm
  ·exact .inr (yc e.symm)
  ·exact .inl (zb.mp hm)
 | false =>
  have hled:t.led=true:=by rw[hl];unfold ledOf;rw[hb];rfl
  by_cases h1:es.size<=1
  ·have hc:(!false&&(!t.plain&&decide (es.size > 1)))=false:=by rw[decide_eq_false (by omega),xA];rfl
   show wpAny _ _ (if (!false&&(!t.plain&&decide (es.size > 1)))=true then _ else _) _ _ _;rw[hc,if_neg zh];refine zy (zq ?_);refine zy (wpAny_setEpoch_of g1 g2 hf ?_);refine zy (wpAny_newObj_type (zq ⟨_,rfl,"set_iterator",_,⟨_,zc _ rfl,rfl⟩,slot_si.lookup,?_⟩));refine q s.heap.objs.size _ s.drawn [s.heap.objs.size,a] _ _ (fun b o e=>zo _ e) (zr _) (fun b hm=>?_) (wkC (ep:=ep) (es:=es) (so:=so) (t:=t) hh hb hled h1 nI hf) ⟨zI _,⟨_,zc _ rfl,rfl,rfl⟩,S.at fun o e=>zo _ e⟩ (sts _ (.refl _));rcases zG.mp hm with e | hm
   ·exact .inr (yc e.symm)
   ·exact .inl (zb.mp hm)
  ·have hpf:t.plain=false:=hpl.elim id fun z=>by omega
   have hc:(!false&&(!t.plain&&decide (es.size > 1)))=true:=by rw[hpf,decide_eq_true (by omega)];rfl
   show wpAny _ _ (if (!false&&(!t.plain&&decide (es.size > 1)))=true then _ else _) _ _ _;rw[hc,if_pos rfl];refine zy (wp_order es.size (List.range es.size) s (by simp) fun ps d pp=>?_);have lps:ps.length=es.size:=by rw[pp.length_eq,zR]
   refine zy (wpAny_newTuple ?_ (by rw[zz,lps];exact fits_of_scanBound hbd));have k1:∀ b o,s.heap.get? b=some o->(s.heap.push { cls:=.type "tuple",data:=.seq (ps.map fun (i:Nat)=>rawInt i).toArray }).get? b=some o:=fun b o e=>zo _ e;have z1:(s.heap.push { cls:=.type "tuple",data:=.seq (ps.map fun (i:Nat)=>rawInt i).toArray }).objs.size=s.heap.objs.size + 1:=xq ..;refine zy (wpAny_setEpoch_of (k1 _ _ g1) g2 hf ?_);refine zy (wpAny_newObj_type (zq ⟨_,rfl,"set_iterator",_,⟨_,zc _ rfl,rfl⟩,slot_si.lookup,?_⟩));have sq:∃ ys,StrsAre (ps.map fun p=>(es.getD p default).2) ys/\ys.Perm xs:=by
    have e1:(ps.map fun p=>(es.getD p default).2)=(ps.map fun p=>es.getD p default).map (·.2):=by rw[yw];rfl
    rw[e1];refine sts _ ((pp.map _).trans ?_);have e2:(List.range es.size).map (fun p=>es.getD p default)=es.toList:=by
     apply List.ext_getElem
     ·simp
     ·intro k hk1 hk2
      have:k < es.size:=by simpa using hk2
      simp[xQ,this]
    rw[e2]
   dsimp only;rw[z1];refine q (s.heap.objs.size + 1) _ d [s.heap.objs.size + 1,a,s.heap.objs.size] _ _ (fun b o e=>zo _ (k1 b o e)) (xw _) (fun b hm=>?_) (wkB (ep:=ep) (es:=es) (so:=so) (t:=t) (pt:=s.heap.objs.size) (ps:=ps) hh (za (yB lta)) (za (xL _)) pp) ⟨⟨{ cls:=.type "set_iterator",data:=.fields #[.ref s.heap.objs.size,.int 0 0,.ref a,.int es.size 0,.int ep 0] },by rw[<- z1];exact zc _ rfl,rfl,rfl⟩,S.at fun o e=>zo _ (k1 a o e),zo _ (zc _ rfl)⟩ sq;simp only[zG,List.not_mem_nil,or_false]at hm;rcases hm with e | e | e
   ·exact .inr (by rw[e];exact xw _)
   ·exact .inl e
   ·exact .inr (yc e.symm)
end
end L3
namespace L3
open PySem PySem.Spec PyProof.Rows L2
section
variable {prog:Program}{w:World}{A:Around}{E:Value->Shared->Prop}{s:Shared}{a:Addr}
theorem hint_set {Q:Bool->Shared->Prop}(ty:s.TypeIs (.ref a) "set")(q:Q false s):wpAny (model prog w) A (Builtin.List.listLengthHint (.ref a)) Q E s:=by
 unfold Builtin.List.listLengthHint;refine zy (wpAny_specialOf ty PySem.F.slot_set_len.lookup ?_);generalize hid:("set.__len__" : String)=id0
 wp_delta
 rw[show splitId id0=some ("set","__len__") from by subst hid;decide +kernel];subst hid;refine zy (wpAny_isInstance (T:="set") (b:=true) ty (by rw[isSubtype_type];kernel_rfl) ?_);refine wpAny_ite_split (fun z=>absurd z (by decide)) (fun _=>wpAny_ite_split (fun _=>?_) (fun z=>absurd (by decide +kernel) z));exact zy (wpAny_typeOf ty (zq q))
theorem acc_items {vs:List Value}{acc:Array Value}(h:ItemsOf (fun i v=>vs[i]?=some v) acc vs.length):acc.toList=vs:=by
 apply List.ext_getElem?;intro i;rw[yI];cases e:acc[i]? with
 | some v=>exact(h.2 i v e).symm
 | none =>
  have:acc.size<=i:=by simpa using e
  rw[h.1]at this;exact(xk this).symm
theorem ext_set {xs:List Str}{R:Result->Shared->Prop}(hh:A.handled=none)(hS:SSet prog w s.heap a xs (ledOf w)){S:Addr}(nS:S≠a)(res:Value){c₀:Nat}(gS:s.heap.get? S=some { cls:=.type "list",data:=.seq #[] c₀ })
  (hR:∀ h' tk d acc c ys,(∀ b o,b≠S->s.heap.get? b=some o->h'.get? b=some o)->h'.get? S=some { cls:=.type "list",dict:=none,data:=.seq acc c,slots:=#[] }->StrsAre acc.toList ys->ys.Perm xs->R (.ok (.ret res)) { s with heap:=h',toks:=tk,drawn:=d }) :
  wpAny (model prog w) A.in1 (Builtin.List.listExtendWith (.ref S) (.ref a) res) (fun fin s'=>match fin with | .done f=>R (.ok f) s' | .again c'=>c'.quiet=true/\codeAny (model prog w) A c' R s') (fun e s'=>R (.error e) s') s:=by
 have ltS:=zf gS;obtain⟨so,es,ep,t,g1,gx,rest⟩:=id hS;have ty:s.TypeIs (.ref a) "set":=⟨so,g1,gx.1⟩;have lx:xs.length<=zj:=by
  obtain⟨_,_,_,hp,hb,_⟩:=rest;rw[<- hp.length_eq,zz,zT];exact fits_of_scanBound hb
 unfold Builtin.List.listExtendWith;refine zy (wpAny_typeOf (T:="set") ty ?_);have h1:Builtin.List.listSameRef (.ref S) (.ref a)=false:=by simp[Builtin.List.listSameRef,nS]
 have n1:(Value.type "set"==Value.type "list")=false:=by decide
 have n2:(Value.type "set"==Value.type "tuple")=false:=by decide
 simp only[h1,n1,n2,wk,yH,if_false];refine zy (iter_set (A:=A.in1) hh hS fun I h1 d fp vs St kk hI hfp W st hvs=>?_);obtain⟨ys,hy,hperm⟩:=hvs;have lv:vs.length=xs.length:=by
  rw[<- hperm.length_eq];clear hperm st W;induction hy with
  | nil=>rfl
  | cons _ _ _ ih=>rw[zA,zA,ih]
 have nf:S ∉ fp:=fun z=>(hfp S z).elim nS fun z=>absurd ltS (vb.mpr z);have key:∀ (h:Heap) (c₁ tk:Nat),St 0 h->(∀ b o,b≠S->s.heap.get? b=some o->h.get? b=some o)->h.get? S=some { cls:=.type "list",data:=.seq #[] c₁ }->codeAny (model prog w) A (.builtin "list.extend.loop" ⟨[.ref S,.ref I,res],[]⟩) R { s with heap:=h,toks:=tk,drawn:=d }:=by
  intro h c₁ tk hst hk g;refine codeAny_extend_loopS W.toS (by rw[lv];exact lx) S nf res vs.length 0 _ #[] c₁ rfl (zI _) hst g (ItemsOf.nil _) fun s' acc c' hm g' hacc=>?_;rw[Moved.eq_with hm];refine hR s'.heap s'.toks d acc c' ys (fun b o hb e=>hm.heap b o (fun z=>?_) (hk b o hb e)) g' (by rw[acc_items hacc];exact hy) hperm;rcases zG.mp z with z | z
  ·exact hb z
  ·exact absurd (zf e) (by rw[zb.mp z];exact vb.mpr hI)
 have gS1:=kk _ _ gS;refine zy (wpAny_holding (hint_set (s:={ s with heap:=h1,drawn:=d }) ⟨so,kk _ _ g1,gx.1⟩ ?_));refine wpAny_ite_split (fun _=>?_) (fun _=>zq ⟨plainId_quiet PySem.F.plain_extend_loop _,key _ c₀ _ st (fun b o _ e=>kk b o e) gS1⟩);refine zy (wpAny_rule (zy ?_));show wpAny _ _ (updateSeq S (·.push .none) >>= fun _=>updateSeq S (·.pop)) _ _ _;refine zy (wpAny_updateSeq gS1 rfl ?_);have gS2:=ym (Obj.mapSeq (·.push Value.none)) gS1 rfl;refine wpAny_updateSeq (hz:=by seq_fits) gS2 rfl ?_;have gS3:=ym (Obj.mapSeq (·.pop)) gS2 rfl;refine zq ⟨plainId_quiet PySem.F.plain_extend_loop _,key _ _ _ ?_ (fun b o hb e=>?_) gS3⟩
 ·refine W.frame 0 _ _ st fun b hb o e=>?_
  have nb:b≠S:=fun z=>nf (z ▸ hb);exact(yi _ _ (Ne.symm nb)).trans ((yi _ _ (Ne.symm nb)).trans e)
 ·exact(yi _ _ (Ne.symm hb)).trans ((yi _ _ (Ne.symm hb)).trans (kk b o e))
theorem collect_set {xs:List Str}{R:List Value->Shared->Prop}(hh:A.handled=none)(hS:SSet prog w s.heap a xs (ledOf w))
  (h:∀ h' tk d vs ys,(∀ b o,s.heap.get? b=some o->h'.get? b=some o)->StrsAre vs ys->ys.Perm xs->R vs { s with heap:=h',toks:=tk,drawn:=d }):wpAny (model prog w) A (collect (.ref a)) R E s:=by
 have lta:a < s.heap.objs.size:=by obtain⟨_,_,_,_,g,_⟩:=hS;exact zf g
 unfold collect;refine zy (wpAny_runValue (codeAny_builtin entry_proto_collect' ?_));rw[Around.under_plainId PySem.F.plain_proto_collect _];show wpAny _ A.in1 (newList [] >>= fun l=>again (.builtin "list.__iadd__" ⟨[l,.ref a],[]⟩)) _ _ s;refine zy (wpAny_newObj_type (zq ⟨plainId_quiet PySem.F.plain_list_iadd _,codeAny_builtin entry_list_iadd' ?_⟩));rw[Around.under_plainId PySem.F.plain_list_iadd _];have gS:(s.heap.push { cls:=.type "list",data:=.seq ([]:List Value).toArray }).get? s.heap.objs.size=some { cls:=.type "list",data:=.seq #[] }:=zc _ rfl;show wpAny _ A.in1 (Builtin.List.listExtendWith (.ref s.heap.objs.size) (.ref a) (.ref s.heap.objs.size)) _ _ _;have key:=ext_set (A:=A) (s:={ s with heap:=s.heap.push { cls:=.type "list",data:=.seq ([]:List Value).toArray } })
  (R:=fun (q:Result) (s':Shared)=>∃ (h':Heap) (tk:Nat) (d:Drawn) (acc:Array Value) (c:Nat) (ys:List Str),q=.ok (.ret (.ref s.heap.objs.size))/\s' = { s with heap:=h',toks:=tk,drawn:=d }/\(∀ b o,s.heap.get? b=some o->h'.get? b=some o)/\h'.get? s.heap.objs.size=some { cls:=.type "list",dict:=none,data:=.seq acc c,slots:=#[] }/\StrsAre acc.toList ys/\ys.Perm xs)
  hh (hS.at fun o e=>zo _ e) (yT lta) (.ref s.heap.objs.size) gS (fun h' tk d acc c ys hk hS' h1 h2=>⟨h',tk,d,acc,c,ys,rfl,rfl,fun b o e=>hk b o (za (zf e)) (zo _ e),hS',h1,h2⟩)
 have last:∀ {h':Heap} {tk:Nat} {d:Drawn} {acc:Array Value} {c:Nat} {ys:List Str},(∀ b o,s.heap.get? b=some o->h'.get? b=some o)->h'.get? s.heap.objs.size=some { cls:=.type "list",dict:=none,data:=.seq acc c,slots:=#[] }->StrsAre acc.toList ys->ys.Perm xs ->
   wpAny (model prog w) A (do match (<- load s.heap.objs.size).data with | .seq xs _=>pure xs.toList | _=>unsupported "internal:collect") R E { s with heap:=h',toks:=tk,drawn:=d }:=fun hk g h1 h2=>zy (wpAny_load g (zq (h _ _ _ _ _ hk h1 h2)))
 refine wpAny_mono key (fun fin s' x=>?_) fun e s' x=>?_
 ·cases fin with
  | done f =>
   obtain⟨h',tk,d,acc,c,ys,e,rfl,hk,g,h1,h2⟩:=x;cases e;exact last hk g h1 h2
  | again c₁ =>
   refine⟨x.1,codeAny_mono x.2 fun q s₂ y=>?_⟩;obtain⟨h',tk,d,acc,c,ys,rfl,rfl,hk,g,h1,h2⟩:=y;exact last hk g h1 h2
 ·obtain⟨_,_,_,_,_,_,e',_⟩:=x
  cases e'
end
end L3
namespace L3
open PySem PySem.Spec PyProof.Rows L2
noncomputable def R2S (K:PySem.W.Frag)(g:D->D->Mo D):R2:=fun x y H Q=>∃ ι M M' dx dy d,Sim K ι M H/\Rep K ι H dx x/\Rep K ι H dy y/\g dx dy M=some (.ok d,M') /\
 ∀ v H' ι',Rep K ι' H' d v->Sim K ι' M' H'->Ext K ι H ι' H'->Q v H'
theorem opS_R2S {K:PySem.W.Frag}{g:D->D->Mo D}:OpS K (R2S K g) g:=fun ι M M' _ x y d _ _ _ S r1 r2 e k=>⟨ι,M,M',x,y,d,S,r1,r2,e,k⟩
section
variable {K:PySem.W.Frag}{ι:List Addr}{H:Hp}{M M':MH}
theorem new_list {Q:VK}{ds:List D}{vs:List V}{d:D}(S:Sim K ι M H)(r:Reps K ι H ds vs)(e:newM (.lst ds) M=some (.ok d,M'))(k:∀ v H' ι',Rep K ι' H' d v->Sim K ι' M' H'->Ext K ι H ι' H'->Q v H') :
  ∀ p,H p=none->Q (.ref p) (upd H p (.lst vs)):=fun p hp=>by
 have e0:=newM_ok e;clear e;obtain⟨rfl,rfl⟩:=e0;have x:Ext K ι H (ι++[p]) (upd H p (.lst vs)):=Ext.new hp;exact k _ _ (ι++[p]) (.ob (by rw[<- S.len,zC (zr _),yN];rfl)) (S.new hp ⟨vs,rfl,r.mono x⟩) x
theorem new_tup {Q:VK}{ds:List D}{vs:List V}(S:Sim K ι M H)(r:Reps K ι H ds vs)(k:∀ v H' ι',Rep K ι' H' (.tup ds) v->Sim K ι' M H'->Ext K ι H ι' H'->Q v H') :
  ∀ p,H p=none->Q (.ref p) (upd H p (.tup vs)):=fun p hp=>by
 have x:Ext K ι H ι (upd H p (.tup vs)):=Ext.tupN hp;exact k _ _ ι (.tup upd_same (r.mono x)) (S.tupN hp) x
theorem sim_list (S:Sim K ι M H){i:Nat}{ds:List D}{v:V}(r:Rep K ι H (.ob i) v)(e:M[i]?=some (.lst ds)):∃ a vs,v=.ref a/\ι[i]?=some a/\H a=some (.lst vs)/\Reps K ι H ds vs:=by
 cases r with
 | ob h =>
  rename_i a;obtain⟨vs,e1,q⟩:=S.obj i a _ h e;exact⟨a,vs,rfl,h,e1,q⟩
theorem sim_dict (S:Sim K ι M H){i:Nat}{kvs:List (Ky×D)}{v:V}(r:Rep K ι H (.ob i) v)(e:M[i]?=some (.dic kvs)):∃ a ws,v=.ref a/\ι[i]?=some a/\H a=some (.dK ws)/\KR K ι H kvs ws:=by
 cases r with
 | ob h =>
  rename_i a;obtain⟨vs,e1,q⟩:=S.obj i a _ h e;exact⟨a,vs,rfl,h,e1,q⟩
theorem flat_rep {d:D}{v:V}(r:Rep K ι H d v)(h:flatD d=true):flatV v=true:=by
 cases r <;> simp[flatD,flatV]at h ⊢
theorem eq_rep {d e:D}{v u:V}(r:Rep K ι H d v)(q:Rep K ι H e u)(h:flatD d=true)(h':flatD e=true):eqV v u=eqF d e:=by
 cases r <;> cases q <;> simp[flatD,eqV,eqF]at h h' ⊢
theorem KR.find {kvs:List (Ky×D)}{ws:List (Key×V)}(r:KR K ι H kvs ws)(k:Ky):(kvGet kvs k=none/\valV ws k=none)\/∃ d v,kvGet kvs k=some d/\valV ws k=some v/\Rep K ι H d v:=by
 induction r with
 | nil=>exact .inl ⟨rfl,rfl⟩
 | cons h t ih =>
  rename_i a b l1 l2;by_cases e:a.1=k
  ·refine .inr ⟨a.2,b.2,?_,valV_pos (h.1 ▸ e),h.2⟩
   simp[kvGet,zZ,e]
  ·have e2:¬ b.1=k:=fun z=>e (h.1.trans z)
   have e3:kvGet (a::l1) k=kvGet l1 k:=by simp[kvGet,zZ,e]
   rw[valV_neg e2,e3];exact ih
theorem KR.anyk {kvs:List (Ky×D)}{ws:List (Key×V)}(r:KR K ι H kvs ws)(k:Ky):(kvs.any fun kv=>decide (kv.1=k))=ws.any fun kv=>decide (kv.1=k):=by
 induction r with
 | nil=>rfl
 | cons h t ih=>rw[yj,yj,ih,h.1]
theorem KR.len {kvs:List (Ky×D)}{ws:List (Key×V)}(r:KR K ι H kvs ws):kvs.length=ws.length:=Paired.length r
theorem KR.repl {kvs:List (Ky×D)}{ws:List (Key×V)}(r:KR K ι H kvs ws)(k:Ky){d:D}{v:V}(q:Rep K ι H d v) :
  KR K ι H (kvs.map fun kv=>if kv.1=k then (kv.1,d) else kv) (ws.map fun kv=>if kv.1=k then (kv.1,v) else kv):=by
 induction r with
 | nil=>exact .nil
 | cons h t ih =>
  rename_i a b l1 l2;rw[zD,zD];refine .cons ?_ ih;by_cases e:a.1=k
  ·rw[if_pos e,if_pos (h.1 ▸ e)];exact⟨h.1,q⟩
  ·rw[if_neg e,if_neg (fun z=>e (h.1.trans z))];exact h
theorem KR.put {kvs:List (Ky×D)}{ws:List (Key×V)}(r:KR K ι H kvs ws)(k:Ky){d:D}{v:V}(q:Rep K ι H d v):KR K ι H (kvPut kvs k d) (putK ws k v):=by
 unfold kvPut putK;rw[r.anyk k];split
 ·exact r.repl k q
 ·exact Paired.snoc r ⟨rfl,q⟩
theorem key_rep {d:D}{v:V}{k:Ky}(r:Rep K ι H d v)(h:kyD d=some k):v=kV k:=by
 cases r <;> simp[kyD]at h <;> subst h <;> rfl
theorem seq_of {d:D}{v:V}{ds:List D}(S:Sim K ι M H)(r:Rep K ι H d v)(h:itemsD d M=some (.ok ds,M')):M'=M/\∃ a vs,v=.ref a/\(SqL K H a vs\/SqT K H a vs)/\Reps K ι H ds vs:=by
 cases r with
 | tup t q=>have h0:=pure_ok h;clear h;obtain⟨rfl,rfl⟩:=h0;exact⟨rfl,_,_,rfl,.inr (sqt t),q⟩
 | fl t q=>have h0:=pure_ok h;clear h;obtain⟨rfl,rfl⟩:=h0;exact⟨rfl,_,_,rfl,.inl t.seq,q⟩
 | ob t =>
  have h0:=getL_ok h;clear h;obtain⟨e,rfl⟩:=h0;obtain⟨a,vs,h1,_,h3,h4⟩:=sim_list S (.ob t) e;exact⟨rfl,a,vs,h1,.inl (SqL.of h3),h4⟩
 | _=>exact(stop_ok h).elim
theorem reps_at {ds:List D}{vs:List V}{i:Int}{d:D}(r:Reps K ι H ds vs)(h:atD ds i=some d):∃ v,atI vs i=some v/\Rep K ι H d v:=by
 unfold atD at h;unfold atI;have e:ixN vs.length i=ixD ds.length i:=by rw[r.length];rfl
 rw[e];cases q:ixD ds.length i with
 | none=>rw[q]at h;cases h
 | some j =>
  rw[q]at h;exact r.get h
end
section
variable {X:Cx}{pins:List (Addr×Obj)}{σ:St}{H:Hp}{s:Shared}{ι:List Addr}{M:MH}
theorem eqL_some {f:D->D->Option Bool}:∀ {xs ys:List D} {b:Bool},eqL f xs ys=some b->(∀ (j:Nat) (x y:D),xs[j]?=some x->ys[j]?=some y->∃ c,f x y=some c) /\
  b=((List.range (min xs.length ys.length)).all (fun j=>(f (xs.getD j .non) (ys.getD j .non)).getD false)&&xs.length==ys.length)
 | [],[],b,h=>by
  simp only[eqL,Option.some.injEq]at h;subst h;exact⟨fun j x y h=>by simp at h,rfl⟩
 | [],_::_,b,h=>by
  simp only[eqL,Option.some.injEq]at h;subst h;exact⟨fun j x y h=>by simp at h,by simp⟩
 | _::_,[],b,h=>by
  simp only[eqL,Option.some.injEq]at h;subst h;exact⟨fun j x y _ h=>by simp at h,by simp⟩
 | x::xs,y::ys,b,h=>by
  unfold eqL at h;cases e1:f x y with
  | none=>rw[e1]at h;cases h
  | some c =>
   rw[e1]at h;cases e2:eqL f xs ys with
   | none=>rw[e2]at h;cases h
   | some c2 =>
    rw[e2]at h;cases h;obtain⟨i1,i2⟩:=eqL_some e2;refine⟨fun j x' y' h1 h2=>?_,?_⟩
    ·cases j with
     | zero=>simp at h1 h2;subst h1 h2;exact⟨c,e1⟩
     | succ j=>exact i1 j x' y' (by simpa using h1) (by simpa using h2)
    ·rw[i2,zA,zA,Nat.add_min_add_right,xR,yv,xf]
     simp only[List.getD_cons_zero,e1,xN];have e3:(xs.length + 1==ys.length + 1)=(xs.length==ys.length):=by
      rw[yz];simp
     rw[e3,Bool.and_assoc];rfl
theorem same_true (I:Inv X pins σ H s)(S:Sim X.K ι M H):∀ (n:Nat) {d d':D} {v:V} {b:Bool},Rep X.K ι H d v->Rep X.K ι H d' v->eqO M n d d'=some b->b=true
 | 0,_,_,_,_,_,_,h=>by cases h
 | n + 1,d,d',v,b,r,r',h=>by
  have lst:∀ {ds ds':List D} {vs:List V} {b:Bool},Reps X.K ι H ds vs->Reps X.K ι H ds' vs->eqL (eqO M n) ds ds'=some b->b=true:=by
   intro ds;induction ds with
   | nil =>
    intro ds' vs b h1 h2 h3;cases h1;cases h2;cases h3;rfl
   | cons x xs ih =>
    intro ds' vs b h1 h2 h3;cases h1 with
    | cons r1 t1 =>
     cases h2 with
     | cons r2 t2 =>
      rename_i y ys;unfold eqL at h3;cases e1:eqO M n x y with
      | none=>rw[e1]at h3;cases h3
      | some c =>
       rw[e1]at h3;cases e2:eqL (eqO M n) xs ys with
       | none=>rw[e2]at h3;cases h3
       | some c2 =>
        rw[e2]at h3;cases h3;rw[same_true I S n r1 r2 e1,ih t1 t2 e2];rfl
  cases r with
  | non=>cases r' with | non=>cases h;rfl
  | bl a=>cases r' with | bl=>cases h;simp[eqF]
  | int a=>cases r' with | int=>cases h;simp[eqF]
  | str a=>cases r' with | str=>cases h;simp[eqF]
  | tup t q =>
   cases r' with
   | tup t' q' =>
    have:=I.tuple_inj (sqt t) (sqt t')
    subst this;exact lst q q' h
   | fl t' q'=>cases h
   | ob t'=>cases h
  | fl t q =>
   cases r' with
   | tup t' q'=>cases h
   | fl t' q'=>cases h
   | ob t'=>cases h
  | ob t =>
   rename_i i a;cases r' with
   | tup t' q'=>cases h
   | fl t' q'=>cases h
   | ob t' =>
    rename_i j
    have:=S.inj i j a t t'
    subst this;unfold eqO at h;dsimp only at h;split at h
    ·rename_i xs ys h1 h2
     rw[h1]at h2;cases h2;rw[if_pos rfl]at h;obtain⟨vs,_,q⟩:=S.obj i a _ t h1;exact lst q q h
    ·cases h
theorem items_at {A:Around}{n:Nat}(ih:∀ {dx dy:D} {vx vy:V} {u v:Value} {b:Bool},Rep X.K ι H dx vx->Rep X.K ι H dy vy->RelV vx u->RelV vy v->eqO M n dx dy=some b->SeqAt.EqAt A s u v b)
  {xs ys:List D} {vs ws:List V} {its its2:List Value} {b:Bool} (r1:Reps X.K ι H xs vs) (r2:Reps X.K ι H ys ws) (q1:Vals vs its) (q2:Vals ws its2) (h:eqL (eqO M n) xs ys=some b) :
  ∃ e:Nat->Bool,(∀ j (h1:j < its.toArray.size) (h2:j < its2.toArray.size),SeqAt.EqAt A s its.toArray[j] its2.toArray[j] (e j))/\b=((List.range (min its.toArray.size its2.toArray.size)).all e&&its.toArray.size==its2.toArray.size):=by
 obtain⟨h1,h2⟩:=eqL_some h;have l1:xs.length=its.toArray.size:=by rw[r1.length,q1.length];simp
 have l2:ys.length=its2.toArray.size:=by rw[r2.length,q2.length];simp
 refine⟨fun j=>(eqO M n (xs.getD j .non) (ys.getD j .non)).getD false,fun j g1 g2=>?_,by rw[<- l1,<- l2];exact h2⟩;have j1:j < xs.length:=by rw[l1];exact g1
 have j2:j < ys.length:=by rw[l2];exact g2
 obtain⟨c,hc⟩:=h1 j _ _ (zx j1) (zx j2);obtain⟨v1,e1,p1⟩:=r1.get (zx j1);obtain⟨v2,e2,p2⟩:=r2.get (zx j2);obtain⟨u1,f1,g1'⟩:=q1.get e1;obtain⟨u2,f2,g2'⟩:=q2.get e2;have k1:its.toArray[j]=u1:=by
  have:=(zp.mp f1).2
  simpa using this
 have k2:its2.toArray[j]=u2:=by
  have:=(zp.mp f2).2
  simpa using this
 rw[k1,k2];have k3:(eqO M n (xs.getD j .non) (ys.getD j .non)).getD false=c:=by
  rw[zg,zg,zx j1,zx j2];simp only[xN];rw[hc];rfl
 show SeqAt.EqAt A s u1 u2 ((eqO M n (xs.getD j .non) (ys.getD j .non)).getD false);rw[k3];exact ih p1 p2 g1' g2' hc
theorem len_ne {its its2:List Value}(h:its.length≠its2.length):(its.toArray.size != its2.toArray.size)=true:=by simpa using h
theorem rc_tup (I:Inv X pins σ H s){A:Around}(hu:A.units < cLine){n:Nat}(ih:∀ {dx dy:D} {vx vy:V} {u v:Value} {b:Bool},Rep X.K ι H dx vx->Rep X.K ι H dy vy->RelV vx u->RelV vy v->eqO M n dx dy=some b->SeqAt.EqAt A.in1 s u v b)
  {xs ys:List D} {vs ws:List V} {a c:Addr} {b:Bool} (t1:SqT X.K H a vs) (t2:SqT X.K H c ws) (r1:Reps X.K ι H xs vs) (r2:Reps X.K ι H ys ws) (h:eqL (eqO M n) xs ys=some b):SeqAt.RcAt A s (.ref a) (.ref c) b/\SeqAt.RcNeAt A s (.ref a) (.ref c) (!b):=by
 obtain⟨its,q1,p1,_⟩:=I.tuple t1;obtain⟨its2,q2,p2,_⟩:=I.tuple t2;obtain⟨e,he,rfl⟩:=items_at ih r1 r2 q1 q2 h;exact⟨SeqAt.RcAt.tuples p1 p2 hu he,SeqAt.RcNeAt.tuples p1 p2 hu he⟩
theorem rc_lst (I:Inv X pins σ H s){A:Around}(hu:A.units < cLine){n:Nat}(ih:∀ {dx dy:D} {vx vy:V} {u v:Value} {b:Bool},Rep X.K ι H dx vx->Rep X.K ι H dy vy->RelV vx u->RelV vy v->eqO M n dx dy=some b->SeqAt.EqAt A.in1 s u v b)
  {xs ys:List D} {vs ws:List V} {a c:Addr} {b:Bool} (t1:SqL X.K H a vs) (t2:SqL X.K H c ws) (r1:Reps X.K ι H xs vs) (r2:Reps X.K ι H ys ws) (h:(if xs.length=ys.length then eqL (eqO M n) xs ys else some false)=some b):SeqAt.RcAt A s (.ref a) (.ref c) b/\SeqAt.RcNeAt A s (.ref a) (.ref c) (!b):=by
 obtain⟨its,q1,p1,_⟩:=I.list t1;obtain⟨its2,q2,p2,_⟩:=I.list t2;have l1:xs.length=its.length:=by rw[r1.length,q1.length]
 have l2:ys.length=its2.length:=by rw[r2.length,q2.length]
 split at h
 ·rename_i hl
  obtain⟨e,he,rfl⟩:=items_at ih r1 r2 q1 q2 h;have hs:its.toArray.size=its2.toArray.size:=by simp;omega
  have e1:((List.range (min its.toArray.size its2.toArray.size)).all e&&its.toArray.size==its2.toArray.size)=(List.range its.toArray.size).all e:=by
   rw[hs,Nat.min_self];simp
  rw[e1];exact⟨SeqAt.RcAt.lists p1.isList p2.isList hs hu he,SeqAt.RcNeAt.lists p1.isList p2.isList hs hu he⟩
 ·rename_i hl
  cases h;exact⟨SeqAt.RcAt.lists_lengths p1.isList p2.isList (len_ne (by first | lia | omega)) hu,SeqAt.RcNeAt.lists_lengths p1.isList p2.isList (len_ne (by first | lia | omega)) hu⟩
theorem rc_flat {A:Around}{dx dy:D}{vx vy:V}{u v:Value}(r1:Rep X.K ι H dx vx)(r2:Rep X.K ι H dy vy)(g1:RelV vx u)(g2:RelV vy v)(f1:flatD dx=true)(f2:flatD dy=true):SeqAt.RcAt A s u v (eqF dx dy)/\SeqAt.RcNeAt A s u v (!eqF dx dy):=by
 cases r1 with
 | non =>
  cases g1;cases r2 with
  | non=>cases g2;exact⟨SeqAt.RcAt.none_none,SeqAt.RcNeAt.none_none⟩
  | bl b=>cases g2;exact⟨SeqAt.RcAt.none_bool b,SeqAt.RcNeAt.none_bool b⟩
  | int b=>obtain⟨t,rfl⟩:=g2;exact⟨SeqAt.RcAt.none_int b t,SeqAt.RcNeAt.none_int b t⟩
  | str b=>obtain⟨t,rfl⟩:=g2;exact⟨SeqAt.RcAt.none_str b t,SeqAt.RcNeAt.none_str b t⟩
  | _=>exact absurd f2 zh
 | bl a =>
  cases g1;cases r2 with
  | non=>cases g2;exact⟨SeqAt.RcAt.bool_none a,SeqAt.RcNeAt.bool_none a⟩
  | bl b=>cases g2;exact⟨SeqAt.RcAt.bool_bool a b,SeqAt.RcNeAt.bool_bool a b⟩
  | int b=>obtain⟨t,rfl⟩:=g2;exact⟨SeqAt.RcAt.bool_int a b t,SeqAt.RcNeAt.bool_int a b t⟩
  | str b=>obtain⟨t,rfl⟩:=g2;exact⟨SeqAt.RcAt.bool_str a b t,SeqAt.RcNeAt.bool_str a b t⟩
  | _=>exact absurd f2 zh
 | int a =>
  obtain⟨t',rfl⟩:=g1;cases r2 with
  | non=>cases g2;exact⟨SeqAt.RcAt.int_none a t',SeqAt.RcNeAt.int_none a t'⟩
  | bl b=>cases g2;exact⟨SeqAt.RcAt.int_bool a t' b,SeqAt.RcNeAt.int_bool a t' b⟩
  | int b=>obtain⟨t,rfl⟩:=g2;exact⟨SeqAt.RcAt.int_int a t' b t,SeqAt.RcNeAt.int_int a t' b t⟩
  | str b=>obtain⟨t,rfl⟩:=g2;exact⟨SeqAt.RcAt.int_str a t' b t,SeqAt.RcNeAt.int_str a t' b t⟩
  | _=>exact absurd f2 zh
 | str a =>
  obtain⟨t',rfl⟩:=g1;cases r2 with
  | non=>cases g2;exact⟨SeqAt.RcAt.str_none a t',SeqAt.RcNeAt.str_none a t'⟩
  | bl b=>cases g2;exact⟨SeqAt.RcAt.str_bool a t' b,SeqAt.RcNeAt.str_bool a t' b⟩
  | int b=>obtain⟨t,rfl⟩:=g2;exact⟨SeqAt.RcAt.str_int a t' b t,SeqAt.RcNeAt.str_int a t' b t⟩
  | str b=>obtain⟨t,rfl⟩:=g2;exact⟨SeqAt.RcAt.str_str a t' b t,SeqAt.RcNeAt.str_str a t' b t⟩
  | _=>exact absurd f2 zh
 | _=>exact absurd f1 zh
theorem at_tup_flat (I:Inv X pins σ H s){A:Around}(hu:A.units < cLine){dy:D}{vs:List V}{a:Addr}{vy:V}{v:Value}(t1:SqT X.K H a vs)(r2:Rep X.K ι H dy vy)(g2:RelV vy v)(f2:flatD dy=true) :
  (SeqAt.RcAt A s (.ref a) v false/\SeqAt.RcNeAt A s (.ref a) v true/\SeqAt.EqAt A s (.ref a) v false)/\(SeqAt.RcAt A s v (.ref a) false/\SeqAt.RcNeAt A s v (.ref a) true/\SeqAt.EqAt A s v (.ref a) false):=by
 obtain⟨its,q1,p1,_⟩:=I.tuple t1;cases r2 with
 | non=>cases g2;exact⟨⟨.tuple_none p1 hu,.tuple_none p1 hu,.tuple_none p1 hu⟩,⟨.none_tuple p1 hu,.none_tuple p1 hu,.none_tuple p1 hu⟩⟩
 | bl b=>cases g2;exact⟨⟨.tuple_bool b p1 hu,.tuple_bool b p1 hu,.tuple_bool b p1 hu⟩,⟨.bool_tuple b p1 hu,.bool_tuple b p1 hu,.bool_tuple b p1 hu⟩⟩
 | int b=>obtain⟨t,rfl⟩:=g2;exact⟨⟨.tuple_int b t p1 hu,.tuple_int b t p1 hu,.tuple_int b t p1 hu⟩,⟨.int_tuple b t p1 hu,.int_tuple b t p1 hu,.int_tuple b t p1 hu⟩⟩
 | str b=>obtain⟨t,rfl⟩:=g2;exact⟨⟨.tuple_str b t p1 hu,.tuple_str b t p1 hu,.tuple_str b t p1 hu⟩,⟨.str_tuple b t p1 hu,.str_tuple b t p1 hu,.str_tuple b t p1 hu⟩⟩
 | _=>exact absurd f2 zh
theorem eq_all (I:Inv X pins σ H s)(S:Sim X.K ι M H):∀ (n:Nat) {A:Around} {dx dy:D} {vx vy:V} {u v:Value} {b:Bool},A.units + n < cLine->Rep X.K ι H dx vx->Rep X.K ι H dy vy->RelV vx u->RelV vy v->eqO M n dx dy=some b ->
  SeqAt.RcAt A s u v b/\SeqAt.RcNeAt A s u v (!b)/\SeqAt.EqAt A s u v b
 | 0,_,_,_,_,_,_,_,_,_,_,_,_,_,h=>by cases h
 | n + 1,A,dx,dy,vx,vy,u,v,b,hA,r1,r2,g1,g2,h=>by
  have hu:A.units < cLine:=by first | lia | omega
  have ih:∀ {dx dy:D} {vx vy:V} {u v:Value} {b:Bool},Rep X.K ι H dx vx->Rep X.K ι H dy vy->RelV vx u->RelV vy v->eqO M n dx dy=some b->SeqAt.EqAt A.in1 s u v b :=
   fun r1 r2 g1 g2 h=>(eq_all I S n (A:=A.in1) (by show A.units + 1 + n < cLine;omega) r1 r2 g1 g2 h).2.2
  have refs:∀ {a c:Addr},vx=.ref a->vy=.ref c->SeqAt.RcAt A s (.ref a) (.ref c) b->SeqAt.EqAt A s (.ref a) (.ref c) b:=fun {a c} e1 e2 hr=>by
   by_cases hac:a=c
   ·subst hac
    subst e1;subst e2;rw[same_true I S (n + 1) r1 r2 h];exact SeqAt.EqAt.same _
   ·exact SeqAt.EqAt.of_refs hac hr
  by_cases hf:flatD dx=true/\flatD dy=true
  ·have hb:eqO M (n + 1) dx dy=some (eqF dx dy):=by
    cases dx <;> cases dy <;> first | exact absurd hf.1 zh | exact absurd hf.2 zh | rfl
   rw[hb]at h;cases h;obtain⟨q1,q2⟩:=rc_flat (X:=X) (H:=H) (s:=s) (ι:=ι) (A:=A) r1 r2 g1 g2 hf.1 hf.2;refine⟨q1,q2,?_⟩;rw[<- eq_rep r1 r2 hf.1 hf.2];exact eqAt_V g1 g2 (flat_rep r1 hf.1) (flat_rep r2 hf.2)
  ·cases r1 with
   | tup t q =>
    cases g1;cases r2 with
    | tup t' q' =>
     cases g2;obtain⟨h1,h2⟩:=rc_tup I hu ih (sqt t) (sqt t') q q' h;exact⟨h1,h2,refs rfl rfl h1⟩
    | fl t' q'=>cases h
    | ob t'=>cases h
    | non=>cases h;obtain⟨⟨h1,h2,h3⟩,_⟩:=at_tup_flat (ι:=ι) I hu (sqt t) .non g2 rfl;exact⟨h1,h2,h3⟩
    | bl b=>cases h;obtain⟨⟨h1,h2,h3⟩,_⟩:=at_tup_flat (ι:=ι) I hu (sqt t) (.bl b) g2 rfl;exact⟨h1,h2,h3⟩
    | int b=>cases h;obtain⟨⟨h1,h2,h3⟩,_⟩:=at_tup_flat (ι:=ι) I hu (sqt t) (.int b) g2 rfl;exact⟨h1,h2,h3⟩
    | str b=>cases h;obtain⟨⟨h1,h2,h3⟩,_⟩:=at_tup_flat (ι:=ι) I hu (sqt t) (.str b) g2 rfl;exact⟨h1,h2,h3⟩
   | ob t =>
    cases g1;cases r2 with
    | ob t' =>
     cases g2;unfold eqO at h;dsimp only at h;split at h
     ·rename_i i a j c xs ys h1 h2
      obtain⟨vs,e1,q1⟩:=S.obj _ _ _ t h1;obtain⟨ws,e2,q2⟩:=S.obj _ _ _ t' h2;obtain⟨k1,k2⟩:=rc_lst I hu ih (SqL.of e1) (SqL.of e2) q1 q2 h;refine⟨k1,k2,refs rfl rfl k1⟩
     ·cases h
    | tup t' q'=>cases h
    | _=>cases h
   | fl t q=>cases r2 <;> cases h
   | non =>
    cases r2 with
    | tup t' q'=>cases h;cases g2;obtain⟨_,h1,h2,h3⟩:=at_tup_flat (ι:=ι) I hu (sqt t') .non g1 rfl;exact⟨h1,h2,h3⟩
    | fl t' q'=>cases h
    | ob t'=>cases h
    | _=>exact absurd ⟨rfl,rfl⟩ hf
   | bl x =>
    cases r2 with
    | tup t' q'=>cases h;cases g2;obtain⟨_,h1,h2,h3⟩:=at_tup_flat (ι:=ι) I hu (sqt t') (.bl x) g1 rfl;exact⟨h1,h2,h3⟩
    | fl t' q'=>cases h
    | ob t'=>cases h
    | _=>exact absurd ⟨rfl,rfl⟩ hf
   | int x =>
    cases r2 with
    | tup t' q'=>cases h;cases g2;obtain⟨_,h1,h2,h3⟩:=at_tup_flat (ι:=ι) I hu (sqt t') (.int x) g1 rfl;exact⟨h1,h2,h3⟩
    | fl t' q'=>cases h
    | ob t'=>cases h
    | _=>exact absurd ⟨rfl,rfl⟩ hf
   | str x =>
    cases r2 with
    | tup t' q'=>cases h;cases g2;obtain⟨_,h1,h2,h3⟩:=at_tup_flat (ι:=ι) I hu (sqt t') (.str x) g1 rfl;exact⟨h1,h2,h3⟩
    | fl t' q'=>cases h
    | ob t'=>cases h
    | _=>exact absurd ⟨rfl,rfl⟩ hf
open Classical in
theorem in_all (I:Inv X pins σ H s)(S:Sim X.K ι M H){A:Around}(hu:A.units + 9 < cLine){x:D}{vx:V}{v:Value}(rx:Rep X.K ι H x vx)(gx:RelV vx v):∀ {ds:List D} {vs:List V} {its:List Value} {b:Bool},Reps X.K ι H ds vs->Vals vs its->inL M x ds=some b ->
  ∃ ans:List Bool,ans.length=its.length/\(∀ (j:Nat) (u:Value) (c:Bool),its[j]?=some u->ans[j]?=some c->SeqAt.EqAt A.in1 s u v c)/\b=ans.any id
 | _,_,_,b,.nil,.nil,h=>by cases h;exact⟨[],rfl,fun j u c h=>by simp at h,rfl⟩
 | d::ds,_,_,b,.cons r t,.cons q k,h=>by
  unfold inL at h;cases e1:eqO M 8 d x with
  | none=>rw[e1]at h;cases h
  | some c =>
   rw[e1]at h;cases e2:inL M x ds with
   | none=>rw[e2]at h;cases h
   | some c2 =>
    rw[e2]at h;cases h;obtain⟨ans,a1,a2,a3⟩:=in_all I S hu rx gx t k e2;refine⟨c::ans,by rw[zA,zA,a1],fun j u c' h1 h2=>?_,by rw[a3];rfl⟩;cases j with
    | zero =>
     simp at h1 h2;subst h1 h2;exact(eq_all I S 8 (A:=A.in1) (by show A.units + 1 + 8 < cLine;omega) r rx q gx e1).2.2
    | succ j=>exact a2 j u c' (by simpa using h1) (by simpa using h2)
open Classical in
theorem in_fun {A:Around}{its:List Value}{ans:List Bool}{v:Value}(hl:ans.length=its.length)(h:∀ (j:Nat) (u:Value) (c:Bool),its[j]?=some u->ans[j]?=some c->SeqAt.EqAt A s u v c) :
  ∃ e:Value->Bool,(∀ y,y∈its.toArray->SeqAt.EqAt A s y v (e y))/\its.toArray.any e=ans.any id:=by
 refine⟨fun y=>decide (∃ j:Nat,its[j]?=some y/\ans[j]?=some true),fun y hy=>?_,?_⟩
 ·by_cases hex:∃ j:Nat,its[j]?=some y/\ans[j]?=some true
  ·dsimp only
   rw[decide_eq_true hex];obtain⟨j,h1,h2⟩:=hex;exact h j y true h1 h2
  ·dsimp only
   rw[decide_eq_false hex];have hy':y∈its:=by simpa using hy
   obtain⟨j,hj⟩:=xW.mp hy';have hj2:j < ans.length:=by rw[hl];exact(zp.mp hj).1
   have e:=zx hj2;cases hb:ans[j] with
   | true=>rw[hb]at e;exact absurd ⟨j,hj,e⟩ hex
   | false=>rw[hb]at e;exact h j y false hj e
 ·rw[yz,Array.any_eq_true]
  simp only[decide_eq_true_eq,yV,id];constructor
  ·rintro ⟨i,hi,j,h1,h2⟩
   exact⟨true,zw h2,rfl⟩
  ·rintro ⟨c,hc,rfl⟩
   obtain⟨j,hj⟩:=xW.mp hc;have hj2:j < its.length:=by rw[<- hl];exact(zp.mp hj).1
   exact⟨j,by simpa using hj2,j,by simp[hj2],hj⟩
end
section
variable {X:Cx}
noncomputable def gCmp (op:CmpOp)(x y:D):Mo D:=do let k <- cmpD op x y;pure (.bl k)
theorem inMo_ok {x:D}{ds:List D}{M M':MH}{b:Bool}(h:inMo x ds M=some (.ok b,M')):inL M x ds=some b/\M'=M:=by
 unfold inMo at h;cases e:inL M x ds with
 | none=>rw[e]at h;cases h
 | some c=>rw[e]at h;cases h;exact⟨rfl,rfl⟩
theorem eqMo_ok {x y:D}{M M':MH}{b:Bool}(h:eqMo x y M=some (.ok b,M')):eqO M 20 x y=some b/\M'=M:=by
 unfold eqMo at h;cases e:eqO M 20 x y with
 | none=>rw[e]at h;cases h
 | some c=>rw[e]at h;cases h;exact⟨rfl,rfl⟩
theorem inD_M {x y:D}{M M':MH}{b:Bool}(h:inD x y M=some (.ok b,M')):M'=M:=by
 unfold inD at h;split at h
 ·split at h
  ·exact(pure_ok h).2
  ·exact(stop_ok h).elim
 ·exact(inMo_ok h).2
 ·exact(inMo_ok h).2
 ·have h0:=bind_ok h;clear h;obtain⟨o,M1,e,h2⟩:=h0
  have hM:=(getM_ok e).2;cases o with
  | lst ds=>rw[(inMo_ok h2).2,hM]
  | dic kvs =>
   have h20:=bind_ok h2;clear h2;obtain⟨_,_,e3,h3⟩:=h20;rw[(pure_ok h3).2,(lift_ok e3).2,hM]
 ·exact(stop_ok h).elim
theorem in_ok (hu:X.A.units + 100 < cLine)(neg:Bool){pins:List (Addr×Obj)}{s:Shared}{σ:St}{H:Hp}{x y:V}{v u:Value}{Q:VK}(I:Inv X pins σ H s)(rx:RelV x v)(ry:RelV y u){ι:List Addr}{M M':MH}{dx dy:D}{b:Bool}
  (S:Sim X.K ι M H) (r1:Rep X.K ι H dx x) (r2:Rep X.K ι H dy y) (e:inD dx dy M=some (.ok b,M')) (q:Q (.bl (if neg then !b else b)) H) :
  wpAny (model X.prog X.w) X.A (compareOp (if neg then .NotIn else .In) v u) (EP X pins σ Q) X.xe s:=by
 have seq:∀ {a:Addr} {vs:List V} {ds:List D},y=.ref a->(SqL X.K H a vs\/SqT X.K H a vs)->Reps X.K ι H ds vs->inL M dx ds=some b ->
   wpAny (model X.prog X.w) X.A (compareOp (if neg then .NotIn else .In) v u) (EP X pins σ Q) X.xe s:=fun {a vs ds} ey hs hr hb=>by
  subst ey;cases ry;rcases hs with hs | hs
  ·obtain⟨its,q1,p1,_⟩:=I.list hs
   obtain⟨ans,a1,a2,rfl⟩:=in_all I S (A:=X.A) (by first | lia | omega) r1 rx hr q1 hb
   obtain⟨e,e1,e2⟩:=in_fun a1 a2;cases neg with
   | false=>exact SeqAt.in_listAt e p1.isList e1 ⟨.bl _,H,I,rfl,by rw[e2];exact q⟩
   | true=>exact SeqAt.notIn_listAt e p1.isList e1 ⟨.bl _,H,I,rfl,by rw[e2];exact q⟩
  ·obtain⟨its,q1,p1,_⟩:=I.tuple hs
   obtain⟨ans,a1,a2,rfl⟩:=in_all I S (A:=X.A) (by first | lia | omega) r1 rx hr q1 hb
   obtain⟨e,e1,e2⟩:=in_fun a1 a2;cases neg with
   | false=>exact SeqAt.in_tupleAt e p1 e1 ⟨.bl _,H,I,rfl,by rw[e2];exact q⟩
   | true=>exact SeqAt.notIn_tupleAt e p1 e1 ⟨.bl _,H,I,rfl,by rw[e2];exact q⟩
 cases r2 with
 | str j =>
  cases r1 with
  | str i =>
   have e0:=pure_ok e;clear e;obtain⟨rfl,rfl⟩:=e0;cases neg with
   | false=>exact op_in_str pins s σ H _ _ v u Q I rx ry ⟨i,j,rfl,rfl,q⟩
   | true=>exact op_notin_str pins s σ H _ _ v u Q I rx ry ⟨i,j,rfl,rfl,q⟩
  | _=>exact(stop_ok e).elim
 | tup t r=>exact seq rfl (.inr (sqt t)) r (inMo_ok e).1
 | fl t r=>exact seq rfl (.inl t.seq) r (inMo_ok e).1
 | ob t =>
  have e0:=bind_ok e;clear e;obtain⟨o,M1,e1,e⟩:=e0;have e10:=getM_ok e1;clear e1;obtain⟨g,rfl⟩:=e10;cases o with
  | lst ds =>
   obtain⟨a,vs,h1,_,h3,h4⟩:=sim_list S (.ob t) g;exact seq h1 (.inl (SqL.of h3)) h4 (inMo_ok e).1
  | dic kvs =>
   obtain⟨a,ws,h1,_,h3,h4⟩:=sim_dict S (.ob t) g;have e0:=bind_ok e;clear e;obtain⟨k,_,e5,e6⟩:=e0;have e50:=lift_ok e5;clear e5;obtain⟨hk,hM⟩:=e50;have e60:=pure_ok e6;clear e6;obtain⟨rfl,_⟩:=e60;have hx:=key_rep r1 hk;subst hx;cases h1;obtain rfl:u=Value.ref _:=ry;have hs:(valV ws k).isSome=(kvGet kvs k).isSome:=by
    rcases h4.find k with ⟨z1,z2⟩|⟨_,_,z1,z2,_⟩ <;> rw[z1,z2]
    ·rfl
    ·rfl
   rw[<- hs]at q;cases neg with
   | false=>exact d_in (by first | lia | omega) I (DGet.k (k:=k) h3) rx fun s3 I3=>⟨.bl _,H,I3,rfl,q⟩
   | true=>exact d_notIn (by first | lia | omega) I (DGet.k (k:=k) h3) rx fun s3 I3=>⟨.bl _,H,I3,rfl,q⟩
 | _=>exact(stop_ok e).elim
theorem op_cmp (hu:X.A.units + 100 < cLine)(op:CmpOp):OpR X (compareOp op) (R2S X.K (gCmp op)):=by
 intro pins s σ H x y v u Q I rx ry h;obtain⟨ι,M,M',dx,dy,d,S,r1,r2,e,k⟩:=h;have e0:=bind_ok e;clear e;obtain⟨b,M1,e1,e2⟩:=e0;have e20:=pure_ok e2;clear e2;obtain⟨rfl,rfl⟩:=e20;have fin:M'=M->Q (.bl b) H:=fun z=>by subst z;exact k (.bl b) H ι (.bl b) S Ext.refl
 cases op with
 | Eq =>
  have e10:=eqMo_ok e1;clear e1;obtain⟨hs,rfl⟩:=e10;exact(eq_all I S 20 (A:=X.A) (by first | lia | omega) r1 r2 rx ry hs).1 X.prog X.w X.xe _ ⟨.bl b,H,I,rfl,fin rfl⟩
 | NotEq =>
  have e10:=bind_ok e1;clear e1;obtain⟨c,_,e3,e4⟩:=e10;have e30:=eqMo_ok e3;clear e3;obtain⟨hs,rfl⟩:=e30;have e40:=pure_ok e4;clear e4;obtain⟨rfl,rfl⟩:=e40;exact(eq_all I S 20 (A:=X.A) (by first | lia | omega) r1 r2 rx ry hs).2.1 X.prog X.w X.xe _ ⟨.bl (!c),H,I,rfl,fin rfl⟩
 | Lt =>
  have e10:=lift_ok e1;clear e1;obtain⟨e3,rfl⟩:=e10;cases r1 <;> cases r2 <;> simp only[ltD,Option.some.injEq,reduceCtorEq]at e3
  ·exact op_lt pins s σ H _ _ v u Q I rx ry ⟨_,_,rfl,rfl,by show Q (.bl (decide _)) H;rw[e3];exact fin rfl⟩
  ·exact op_lt_str pins s σ H _ _ v u Q I rx ry ⟨_,_,rfl,rfl,by rw[e3];exact fin rfl⟩
 | LtE =>
  have e10:=lift_ok e1;clear e1;obtain⟨e3,rfl⟩:=e10;cases r1 <;> cases r2 <;> simp only[leD,Option.some.injEq,reduceCtorEq]at e3
  ·exact op_le pins s σ H _ _ v u Q I rx ry ⟨_,_,rfl,rfl,by show Q (.bl (decide _)) H;rw[e3];exact fin rfl⟩
  ·obtain⟨t,rfl⟩:=rx
   obtain⟨t',rfl⟩:=ry;exact PySem.P.le_str (fin_bl I (fin rfl) e3.symm)
 | Gt =>
  cases r1 <;> cases r2 <;> first
   | exact(stop_ok e1).elim
   | (have e10:=pure_ok e1;clear e1;obtain⟨rfl,rfl⟩:=e10;exact op_gt pins s σ H _ _ v u Q I rx ry ⟨_,_,rfl,rfl,fin rfl⟩)
 | GtE =>
  cases r1 <;> cases r2 <;> first
   | exact(stop_ok e1).elim
   | (have e10:=pure_ok e1;clear e1;obtain⟨rfl,rfl⟩:=e10;exact op_ge pins s σ H _ _ v u Q I rx ry ⟨_,_,rfl,rfl,fin rfl⟩)
 | In=>exact in_ok hu false I rx ry S r1 r2 e1 (fin (inD_M e1))
 | NotIn =>
  have e10:=bind_ok e1;clear e1;obtain⟨b',M2,e3,e4⟩:=e10;have e40:=pure_ok e4;clear e4;obtain⟨rfl,rfl⟩:=e40;exact in_ok hu true I rx ry S r1 r2 e3 (fin (inD_M e3))
 | Is =>
  have e10:=bind_ok e1;clear e1;obtain⟨_,_,e3,e4⟩:=e10;have e30:=need_ok e3;clear e3;obtain⟨hs,rfl⟩:=e30;have e40:=pure_ok e4;clear e4;obtain⟨rfl,rfl⟩:=e40;cases r2 <;> simp[isN]at hs;refine op_isN pins s σ H _ _ v u Q I rx ry ⟨rfl,?_⟩
  have:decide (x=V.non)=isN dx:=by cases r1 <;> simp[isN]
  rw[this];exact fin rfl
 | IsNot =>
  have e10:=bind_ok e1;clear e1;obtain⟨_,_,e3,e4⟩:=e10;have e30:=need_ok e3;clear e3;obtain⟨hs,rfl⟩:=e30;have e40:=pure_ok e4;clear e4;obtain⟨rfl,rfl⟩:=e40;cases r2 <;> simp[isN]at hs;refine op_notN pins s σ H _ _ v u Q I rx ry ⟨rfl,?_⟩
  have:decide (x=V.non)=isN dx:=by cases r1 <;> simp[isN]
  rw[this];exact fin rfl
theorem cat_nil {pins:List (Addr×Obj)}{s:Shared}{σ:St}{H:Hp}{a b:Addr}{us:List V}{Q:Value->Shared->Prop}{E:Value->Shared->Prop}(I:Inv X pins σ H s)(t1:SqT X.K H a [])(t2:SqT X.K H b us)(q:Q (.ref b) s):wpAny (model X.prog X.w) X.A (binaryOp .Add (.ref a) (.ref b)) Q E s:=by
 obtain⟨its,q1,p1,_⟩:=I.tuple t1;obtain⟨its2,q2,p2,_⟩:=I.tuple t2;cases q1;obtain⟨⟨cls,dd,data,sl⟩,ho,hc,n,hd⟩:=id p1;obtain⟨⟨cls2,dd2,data2,sl2⟩,ho2,hc2,n2,hd2⟩:=id p2;simp only at hc hd hc2 hd2;subst hc hd hc2 hd2;exact concat_meets ⟨_,ho,rfl⟩ ⟨_,ho2,rfl⟩ noFill_tuple_add seq_tuple_add PySem.F.slot_tuple_add PySem.F.entry_tuple_add (PySem.F.args_tuple_add_2 _ _)
  (tuple_addW0 a b _ its2.toArray n n2 dd dd2 sl sl2 (by simp)) ⟨ho,ho2,q⟩
theorem mul_str {pins:List (Addr×Obj)}{s:Shared}{σ:St}{H:Hp}{x:Str}{j:Int}{t t':Tok}{Q:VK}(I:Inv X pins σ H s)(n1:2<=j)(n2:j < 1000)(n3:0 < x.length)(n4:x.length < 1000)(q:Q (.str (repS x j.toNat)) H) :
  wpAny (model X.prog X.w) X.A (binaryOp .Mult (.str x t) (.int j t')) (EP X pins σ Q) X.xe s:=by
 have hb:x.length * j.toNat < 1000000:=by
  have h1:x.length * j.toNat<=999 * j.toNat:=xZ _ (by first | lia | omega)
  first | lia | omega
 have e:PySem.Txt.mul x j=repS x j.toNat:=by
  unfold PySem.Txt.mul repS;rw[if_neg (by first | lia | omega),if_neg (by simp;omega)]
 have ok:PySem.MulOk x j:=by
  refine⟨by simp;omega,fun _ _=>?_,fun _ _=>?_⟩
  ·have:(1000:Int)<=(2 ^ 63 - 1:Int) / j:=Int.le_ediv_of_mul_le (by first | lia | omega) (by first | lia | omega)
   first | lia | omega
  ·unfold Builtin.Str.tooLong zj
   exact decide_eq_false (by first | lia | omega)
 refine PySem.SB.mul ok fun t2 k2=>?_;rw[e];exact⟨.str _,H,I.tok _,⟨t2,rfl⟩,q⟩
theorem op_bin (op:Operator):OpR X (binaryOp op) (R2S X.K (opD op)):=by
 intro pins s σ H x y v u Q I rx ry h;obtain⟨ι,M,M',dx,dy,d,S,r1,r2,e,k⟩:=h;have fin:∀ {w':V},M'=M->Rep X.K ι H d w'->Q w' H:=fun {w'} z r=>by subst z;exact k w' H ι r S Ext.refl
 cases op
 case Add =>
  cases dx <;> first | exact(stop_ok e).elim | (cases dy <;> first | exact(stop_ok e).elim | skip)
  ·delta opD at e
   dsimp only at e;have e0:=pure_ok e;clear e;obtain⟨rfl,rfl⟩:=e0;cases r1;cases r2;exact op_add pins s σ H _ _ v u Q I rx ry ⟨_,_,rfl,rfl,fin rfl (.int _)⟩
  ·delta opD at e
   dsimp only at e;have e0:=bind_ok e;clear e;obtain⟨_,_,e1,e⟩:=e0;have e10:=need_ok e1;clear e1;obtain⟨hn,rfl⟩:=e10;have e0:=pure_ok e;clear e;obtain⟨rfl,rfl⟩:=e0;cases r1;cases r2;exact op_add_str pins s σ H _ _ v u Q I rx ry ⟨_,_,rfl,rfl,hn,fin rfl (.str _)⟩
  ·delta opD at e
   dsimp only at e;have e0:=bind_ok e;clear e;obtain⟨_,_,e1,e⟩:=e0;have e10:=need_ok e1;clear e1;obtain⟨hz,rfl⟩:=e10;have e0:=pure_ok e;clear e;obtain⟨rfl,rfl⟩:=e0;cases r1 with
   | tup t1 q1 =>
    cases r2 with
    | tup t2 q2 =>
     rename_i a vs b us;by_cases hn:vs=[]
     ·subst hn
      cases q1;cases rx;cases ry;exact cat_nil I (sqt t1) (sqt t2) ⟨.ref _,H,I,rfl,k _ H ι (.tup t2 q2) S Ext.refl⟩
     ·refine op_catT pins s σ H _ _ v u Q I rx ry ⟨_,_,_,_,rfl,rfl,sqt t1,sqt t2,hn,by rw[<- q1.length,<- q2.length];exact hz,fun z=>?_,fun z=>new_tup S (q1.append q2) k⟩
      subst z;cases q2;rw[zO]at k;exact k _ H ι (.tup t1 q1) S Ext.refl
  ·delta opD at e
   dsimp only at e;have e0:=bind_ok e;clear e;obtain⟨xs,_,e1,e⟩:=e0;have e10:=getL_ok e1;clear e1;obtain⟨g1,rfl⟩:=e10;have e0:=bind_ok e;clear e;obtain⟨ys,_,e1,e⟩:=e0;have e10:=getL_ok e1;clear e1;obtain⟨g2,rfl⟩:=e10;have e0:=bind_ok e;clear e;obtain⟨_,_,e1,e⟩:=e0;have e10:=need_ok e1;clear e1;obtain⟨hn,rfl⟩:=e10;obtain⟨a,vs,rfl,_,h3,h4⟩:=sim_list S r1 g1;obtain⟨b,us,rfl,_,h5,h6⟩:=sim_list S r2 g2;exact op_cat pins s σ H _ _ v u Q I rx ry ⟨a,b,vs,us,rfl,rfl,h3,h5,by rw[<- h4.length,<- h6.length];exact hn,new_list S (h4.append h6) e k⟩
 case Sub =>
  cases dx <;> first | exact(stop_ok e).elim | (cases dy <;> first | exact(stop_ok e).elim | skip)
  ·delta opD at e
   dsimp only at e;have e0:=pure_ok e;clear e;obtain⟨rfl,rfl⟩:=e0;cases r1;cases r2;exact op_sub pins s σ H _ _ v u Q I rx ry ⟨_,_,rfl,rfl,fin rfl (.int _)⟩
 case Mult =>
  cases dx <;> first | exact(stop_ok e).elim | (cases dy <;> first | exact(stop_ok e).elim | skip)
  ·delta opD at e
   dsimp only at e;have e0:=bind_ok e;clear e;obtain⟨_,_,e1,e⟩:=e0;have e10:=need_ok e1;clear e1;obtain⟨hn,rfl⟩:=e10;have e0:=pure_ok e;clear e;obtain⟨rfl,rfl⟩:=e0;cases r1;cases r2;exact op_mul pins s σ H _ _ v u Q I rx ry ⟨_,_,rfl,rfl,hn,fin rfl (.int _)⟩
  ·delta opD at e
   dsimp only at e;have e0:=bind_ok e;clear e;obtain⟨_,_,e1,e⟩:=e0;have e10:=need_ok e1;clear e1;obtain⟨⟨n1,n2,n3,n4⟩,rfl⟩:=e10;have e0:=pure_ok e;clear e;obtain⟨rfl,rfl⟩:=e0;cases r1;cases r2;obtain⟨t,rfl⟩:=rx;obtain⟨t',rfl⟩:=ry;exact mul_str I n1 n2 n3 n4 (fin rfl (.str _))
 case FloorDiv =>
  cases dx <;> first | exact(stop_ok e).elim | (cases dy <;> first | exact(stop_ok e).elim | skip)
  ·delta opD at e
   dsimp only at e;have e0:=bind_ok e;clear e;obtain⟨_,_,e1,e⟩:=e0;have e10:=need_ok e1;clear e1;obtain⟨hn,rfl⟩:=e10;have e0:=pure_ok e;clear e;obtain⟨rfl,rfl⟩:=e0;cases r1;cases r2;exact op_fdiv pins s σ H _ _ v u Q I rx ry ⟨_,_,rfl,rfl,hn,fin rfl (.int _)⟩
 case Mod =>
  cases dx <;> first | exact(stop_ok e).elim | (cases dy <;> first | exact(stop_ok e).elim | skip)
  ·delta opD at e
   dsimp only at e;have e0:=bind_ok e;clear e;obtain⟨_,_,e1,e⟩:=e0;have e10:=need_ok e1;clear e1;obtain⟨hn,rfl⟩:=e10;have e0:=pure_ok e;clear e;obtain⟨rfl,rfl⟩:=e0;cases r1;cases r2;exact op_mod pins s σ H _ _ v u Q I rx ry ⟨_,_,rfl,rfl,hn,fin rfl (.int _)⟩
 case Pow =>
  cases dx <;> first | exact(stop_ok e).elim | (cases dy <;> first | exact(stop_ok e).elim | skip)
  ·delta opD at e
   dsimp only at e;have e0:=bind_ok e;clear e;obtain⟨_,_,e1,e⟩:=e0;have e10:=need_ok e1;clear e1;obtain⟨hn,rfl⟩:=e10;have e0:=pure_ok e;clear e;obtain⟨rfl,rfl⟩:=e0;cases r1;cases r2;exact op_pow pins s σ H _ _ v u Q I rx ry ⟨_,_,rfl,rfl,hn,fin rfl (.int _)⟩
 all_goals exact(stop_ok e).elim
theorem ix_dict (hu:X.A.units + 100 < cLine):IxR X (fun x y H Q=>∃ a v,x=.ref a/\DGet H a y (some v)/\Q v H):=by
 intro value slice pins s σ H x y v u Q I rx ry h hs;obtain⟨a,w',rfl,g,q⟩:=h;obtain rfl:v=Value.ref a:=rx;exact tail_any (dict_typeIs I g) PySem.F.slot_dict_getitem.lookup (d_getItem (by first | lia | omega) I g ry fun w2 s3 I3 rw'=>⟨w',H,I3,rw',q⟩) hs
theorem ix_get (hu:X.A.units + 100 < cLine):IxR X (R2S X.K getIx):=by
 intro value slice pins s σ H x y v u Q I rx ry h hs;obtain⟨ι,M,M',dx,dy,d,S,r1,r2,e,k⟩:=h;have fin:∀ {w':V},M'=M->Rep X.K ι H d w'->Q w' H:=fun {w'} z r=>by subst z;exact k w' H ι r S Ext.refl
 unfold getIx at e;split at e
 ·have e0:=lift_ok e;clear e;obtain⟨e1,rfl⟩:=e0
  cases r2;cases r1 with
  | tup t q =>
   obtain⟨w',h1,h2⟩:=reps_at q e1;exact ix_tup value slice pins s σ H _ _ v u Q I rx ry ⟨_,_,_,w',rfl,rfl,sqt t,h1,fin rfl h2⟩ hs
 ·have e0:=lift_ok e;clear e;obtain⟨e1,rfl⟩:=e0
  cases r2;cases r1 with
  | fl t q =>
   obtain⟨w',h1,h2⟩:=reps_at q e1;exact ix_list value slice pins s σ H _ _ v u Q I rx ry ⟨_,_,_,w',rfl,rfl,t.seq,h1,fin rfl h2⟩ hs
 ·have e0:=bind_ok e;clear e;obtain⟨_,_,e1,e⟩:=e0
  have e10:=need_ok e1;clear e1;obtain⟨hn,rfl⟩:=e10;have e0:=bind_ok e;clear e;obtain⟨c,_,e1,e⟩:=e0;have e10:=lift_ok e1;clear e1;obtain⟨hc,rfl⟩:=e10;have e0:=pure_ok e;clear e;obtain⟨rfl,rfl⟩:=e0;cases r2;cases r1;exact ix_str value slice pins s σ H _ _ v u Q I rx ry ⟨_,_,c,rfl,rfl,hn,hc,fin rfl (.str _)⟩ hs
 ·have e0:=bind_ok e;clear e;obtain⟨o,_,e1,e⟩:=e0
  have e10:=getM_ok e1;clear e1;obtain⟨g,rfl⟩:=e10;cases o with
  | lst ds =>
   dsimp only at e;split at e
   ·have e0:=lift_ok e;clear e;obtain⟨e1,rfl⟩:=e0
    obtain⟨a,vs,rfl,_,h3,h4⟩:=sim_list S r1 g;cases r2;obtain⟨w',h1,h2⟩:=reps_at h4 e1;exact ix_list value slice pins s σ H _ _ v u Q I rx ry ⟨_,_,_,w',rfl,rfl,SqL.of h3,h1,fin rfl h2⟩ hs
   ·exact(stop_ok e).elim
  | dic kvs =>
   have e0:=bind_ok e;clear e;obtain⟨q,_,e1,e⟩:=e0;have e10:=lift_ok e1;clear e1;obtain⟨hk,rfl⟩:=e10;have e0:=lift_ok e;clear e;obtain⟨e1,rfl⟩:=e0;obtain⟨a,ws,rfl,_,h3,h4⟩:=sim_dict S r1 g;have hy:=key_rep r2 hk;subst hy;rcases h4.find q with ⟨z1,z2⟩|⟨d',w',z1,z2,z3⟩
   ·rw[z1]at e1;cases e1
   ·rw[z1]at e1;cases e1
    have g2:DGet H a (kV q) (some w'):=z2 ▸ DGet.k (k:=q) h3;exact ix_dict hu value slice pins s σ H _ _ v u Q I rx ry ⟨a,w',rfl,g2,fin rfl z3⟩ hs
 ·exact(stop_ok e).elim
noncomputable def RSet (K:PySem.W.Frag):TSet:=fun o i v H Q=>∃ ι M M' x y z u,Sim K ι M H/\Rep K ι H x o/\Rep K ι H y i/\Rep K ι H z v/\setIx x y z M=some (.ok u,M') /\
 ∀ H',Sim K ι M' H'->Ext K ι H ι H'->Q H'
theorem set_ix (hu:X.A.units + 100 < cLine):PSet X (RSet X.K):=by
 intro pins s σ H o i v ov iv u Q I ro ri rv h;obtain⟨ι,M,M',x,y,z,w',S,r1,r2,r3,e,k⟩:=h;unfold setIx at e;split at e
 ·have e0:=bind_ok e;clear e;obtain⟨ob,_,e1,e⟩:=e0
  have e10:=getM_ok e1;clear e1;obtain⟨g,rfl⟩:=e10;cases ob with
  | lst ds =>
   dsimp only at e;split at e
   ·have e0:=bind_ok e;clear e;obtain⟨j,_,e1,e⟩:=e0
    have e10:=lift_ok e1;clear e1;obtain⟨hj,rfl⟩:=e10;have e0:=putM_ok e;clear e;obtain⟨_,rfl⟩:=e0;obtain⟨a,vs,rfl,hi,h3,h4⟩:=sim_list S r1 g;cases r2;refine set_list pins s σ H _ _ v ov iv u Q I ro ri rv ⟨a,vs,_,j,rfl,rfl,h3,by rw[<- h4.length];exact hj,?_⟩;have x:Ext X.K ι H ι (upd H a (.lst (vs.set j v))):=Ext.write h3 (mut_l _);exact k _ (S.put hi ⟨_,rfl,(h4.mono x).set (r3.mono x) j⟩) x
   ·exact(stop_ok e).elim
  | dic kvs =>
   have e0:=bind_ok e;clear e;obtain⟨q,_,e1,e⟩:=e0;have e10:=lift_ok e1;clear e1;obtain⟨hk,rfl⟩:=e10;have e0:=bind_ok e;clear e;obtain⟨_,_,e1,e⟩:=e0;have e10:=need_ok e1;clear e1;obtain⟨hn,rfl⟩:=e10;have e0:=putM_ok e;clear e;obtain⟨_,rfl⟩:=e0;obtain⟨a,ws,rfl,hi,h3,h4⟩:=sim_dict S r1 g;have hy:=key_rep r2 hk;subst hy;obtain rfl:ov=Value.ref a:=ro;have x:Ext X.K ι H ι (upd H a (.dK (putK ws q v))):=Ext.write h3 (mut_d _);refine d_setItem (by first | lia | omega) I (DPut.k (k:=q) h3 (by rw[<- h4.len];exact hn)) ri rv fun s4 I4=>⟨_,I4,?_⟩
   exact k _ (S.put hi ⟨_,rfl,(h4.mono x).put q (r3.mono x)⟩) x
 ·exact(stop_ok e).elim
end
end L3
namespace L3
open PySem PySem.Spec PyProof.Rows L2
end L3
namespace L3
open PySem PySem.Spec PyProof.Rows L2
section
variable {prog:Program}{w:World}{K:Type}[DecidableEq K]{knd:PySem.KeyKind prog w K}{A:Around}{E:Value->Shared->Prop}
end
end L3
namespace L3
open PySem PySem.Spec PyProof.Rows L2
section
variable {prog:Program}{w:World}{A:Around}{E:Value->Shared->Prop}{s:Shared}
theorem getItem_tuple_whole {t sl:Addr}{items:Array Value}{vl vu:Value}{lo hi:Option Int}{Q:Value->Shared->Prop}(ht:IsTup s.heap t items)(hs:s.heap.IsSliceOf sl vl vu .none)(pl:IsPart vl lo)(pu:IsPart vu hi)
  (hw:HT.sIx items.size 0 lo=0/\HT.sIx items.size items.size hi=items.size) (h:Q (.ref t) s):wpAny (model prog w) A (getItem (.ref t) (.ref sl)) Q E s:=by
 obtain⟨os,hos,hcs,hds⟩:=id hs;have hTs:s.TypeIs (.ref sl) "slice":=⟨os,hos,hcs⟩;unfold getItem
 try with_reducible refine wpAny_holding ?_
 first | refine zy (zq ?_) | skip
 refine zy (wpAny_sequenceKey ht.typeIs (by decide) ?_);refine zy (wpAny_callSpecial?_slot (name:=Str.ofString "__getitem__") ht.typeIs PyProof.Rows.slot_tuple_getitem
  (wpAny_call_entry PyProof.Rows.slot_tuple_getitem ht.typeIs entry_tuple_getitem ?_ (args_tuple_getitem _ _)))
 show wpAny _ _ (Builtin.Tuple.tupleItemsOf (.ref t) >>= _) _ _ s;refine zy (tupleItemsOf_ ht ?_);refine zy (wpAny_typeOf hTs ?_);rw[if_pos (by decide)];refine zy (HT.sliceApplied_gen hs pl pu ?_);have hyes:(((HT.sIx items.size 0 lo:Nat):Int)==0&&(1:Int)==1&&(HT.sIx items.size items.size hi - HT.sIx items.size 0 lo)==items.size)=true:=by
  rw[hw.1,hw.2];simp
 show wpAny _ _ (if (((HT.sIx items.size 0 lo:Nat):Int)==0&&(1:Int)==1&&(HT.sIx items.size items.size hi - HT.sIx items.size 0 lo)==items.size)=true then _ else _) _ _ s;rw[if_pos hyes];refine zy ?_;refine zy (wpAny_typeOf ht.typeIs ?_);refine zq ?_;rw[if_pos (by decide)];refine zy (wpAny_rule ?_)
 first
  | exact zy (zq (zq ⟨_,rfl,zq h⟩))
  | exact zq ⟨_,rfl,zq h⟩
  | exact zy (zq ⟨_,rfl,zq h⟩)
end
section
variable {X:Cx}
noncomputable def MFact (T:String)(name:Str)(id:String):Prop:=PlainAttrs T/\Slot T name id/\typeOf (.builtin id)=pure (.type "method_descriptor")
noncomputable def RcvIs (X:Cx)(T:String)(x:V)(H:Hp):Prop:=∀ (pins:List (Addr×Obj)) (σ:St) (s:Shared) (v:Value),Inv X pins σ H s->RelV x v->s.TypeIs v T/\∀ a,v=.ref a->∃ ob,s.heap.get? a=some ob/\ob.dict=none
noncomputable def tBMx (X:Cx)(name:Str)(r:String->V->List V->Hp->VK->Prop)(to:TE)(t:TA):TE:=fun σ H Q=>to σ H fun x H1=>∃ T id,MFact T name id/\RcvIs X T x H1/\t σ H1 fun xs H2=>r id x xs H2 Q
theorem pe_bmx {name:Str}{r:String->V->List V->Hp->VK->Prop}{o e:Expr}{es:List Expr}{to:TE}{t:TA}{apos cpos:Pos}(hm:∀ id,MtR X id (r id))(ho:PE X o to)(ha:PA X (e::es) t)
  (hbase:attributeBase o name X.env (eval o X.env)=eval o X.env)
  (hfew:((backTo cpos (starEach (e::es) X.env)).all (fun x=>!x.1)&&(backToKw cpos (keywordEach [] X.env)).all (fun x=>x.1.isSome)
  &&decide ((e::es).length + ([]:List Keyword).length + (if ([]:List Keyword).isEmpty then 0 else 1) < 30))=true)
  (hline:(apos.endLine==cpos.line)=true) (hs:starEach (e::es) X.env=(false,eval e X.env)::starEach es X.env) (hplain:(backTo cpos (starEach es X.env)).any (·.1)=false) :
  PE X (.Call (.Attribute o name apos) (e::es) [] cpos) (tBMx X name r to t):=by
 intro pins s σ H Q I h;refine wpAny_Call_method_late hbase hfew hline rfl (thn (ho pins s σ H _ I h) fun v s1 ⟨x,H1,I1,r1,T,id,⟨pa,slot,hty⟩,ty,q1⟩=>?_);obtain⟨h1,h2⟩:=ty pins σ s1 v I1 r1;refine⟨T,id,pa,slot,hty,h1,h2,?_⟩;have hA:=ha cpos pins s1 σ H1 _ I1 q1;rw[hs]at hA ⊢;refine Calls.callWith_builtin (by show (false||(backTo cpos (starEach es X.env)).any (·.1))=false;rw[hplain] <;> rfl) (Calls.evalArgs_plain ?_);exact thn hA fun us s2 ⟨vs,H2,I2,r2,q2⟩=>hm id pins s2 σ H2 x vs v us Q I2 r1 r2 q2
theorem rcv_list {a:Addr}{xs:List V}{H:Hp}(h:SqL X.K H a xs):RcvIs X "list" (.ref a) H:=fun pins σ s v I r=>tyV_is I r (.inl ⟨rfl,xs,h⟩)
theorem rcv_str {y:Str}{H:Hp}:RcvIs X "str" (.str y) H:=fun pins σ s v I r=>tyV_is (X:=X) I r rfl
theorem reps1 {K:PySem.W.Frag}{ι:List Addr}{H:Hp}{d:D}{vs:List V}(r:Reps K ι H [d] vs):∃ v,vs=[v]/\Rep K ι H d v:=by
 cases r with | cons r1 r2=>cases r2;exact⟨_,rfl,r1⟩
theorem reps2 {K:PySem.W.Frag}{ι:List Addr}{H:Hp}{d e:D}{vs:List V}(r:Reps K ι H [d,e] vs):∃ v u,vs=[v,u]/\Rep K ι H d v/\Rep K ι H e u:=by
 cases r with | cons r1 r2=>cases r2 with | cons r2 r3=>cases r3;exact⟨_,_,rfl,r1,r2⟩
theorem put_list {K:PySem.W.Frag}{ι:List Addr}{M M':MH}{H:Hp}{k:Nat}{a:Addr}{ds es:List D}{vs ws:List V}{u:Unit}(S:Sim K ι M H)(hi:ι[k]?=some a)(ha:H a=some (.lst vs))(r:Reps K ι H es ws)(e:putM k (.lst es) M=some (.ok u,M')) :
  Sim K ι M' (upd H a (.lst ws))/\Ext K ι H ι (upd H a (.lst ws)):=by
 have e0:=putM_ok e;clear e;obtain⟨_,rfl⟩:=e0;have x:Ext K ι H ι (upd H a (.lst ws)):=Ext.write ha (mut_l _);exact⟨S.put hi ⟨_,rfl,r.mono x⟩,x⟩
theorem Vals.ins {x:V}{u:Value}(r:RelV x u){xs:List V}{us:List Value}(i:Int)(h:Vals xs us):Vals (insD xs i x) (insD us i u):=by
 unfold insD;rw[h.length];exact(h.take _).append (.cons r (h.drop _))
theorem Reps.ins {K:PySem.W.Frag}{ι:List Addr}{H:Hp}{d:D}{v:V}(r:Rep K ι H d v){ds:List D}{vs:List V}(i:Int)(h:Reps K ι H ds vs):Reps K ι H (insD ds i d) (insD vs i v):=by
 unfold insD;rw[h.length];exact(h.take _).append (.cons r (h.drop _))
theorem insD_len {α:Type}(xs:List α)(i:Int)(v:α):(insD xs i v).length=xs.length + 1:=by
 unfold insD insIx;rw[zt,zA,ze,zS];split <;> omega
noncomputable def rInsert:V->List V->Hp->VK->Prop:=fun x vs H Q=>∃ l xs i y,x=.ref l/\vs=[.int i,y]/\H l=some (.lst xs)/\xs.length < zj/\(-(2 ^ 62)<=i/\i < 2 ^ 62)/\Q .non (upd H l (.lst (insD xs i y)))
theorem Vals.erase {xs:List V}{us:List Value}(i:Nat)(h:Vals xs us):Vals (xs.eraseIdx i) (us.eraseIdx i):=by
 rw[zY,zY];exact(h.take _).append (h.drop _)
theorem Reps.erase {K:PySem.W.Frag}{ι:List Addr}{H:Hp}{ds:List D}{vs:List V}(i:Nat)(h:Reps K ι H ds vs):Reps K ι H (ds.eraseIdx i) (vs.eraseIdx i):=by
 rw[zY,zY];exact(h.take _).append (h.drop _)
theorem mt_pop1:MtR X "list.pop" (fun x vs H Q=>∃ l xs i y,x=.ref l/\vs=[.int i]/\H l=some (.lst xs)/\(0<=i/\i < 2 ^ 62)/\xs[i.toNat]?=some y/\Q y (upd H l (.lst (xs.eraseIdx i.toNat)))):=by
 intro pins s σ H x vs v us Q I rx rv h;obtain⟨l,xs,i,y,rfl,rfl,hH,hi,hy,q⟩:=h;cases rx;obtain⟨u1,rfl,⟨t,rfl⟩⟩:=rv.one;obtain⟨z,its,n,r,hl,e⟩:=I.lstM hH;obtain⟨u,hu,ru⟩:=r.get hy;have hlt:i.toNat < its.length:=(zp.mp hu).1;have hf:Builtin.List.listFitsIndex i=true:=by unfold Builtin.List.listFitsIndex;simp;omega
 have hk:seqIndex? i its.toArray.size=some i.toNat:=by
  unfold seqIndex?;rw[zl];simp;omega
 refine call_meets PySem.F.slot_list_pop ⟨_,e,rfl⟩ PySem.F.entry_list_pop (PySem.F.args_list_pop_2 _ _) (PySem.MeetsSeq.list_pop_at l its.toArray n i t i.toNat u hf hk (by simpa using hu) (by rw[zl];omega)) ⟨e,?_⟩;refine⟨y,_,I.lset (its':=its.eraseIdx i.toNat) hH e ?_ (Vals.erase _ r) (by have:=xO xs i.toNat;omega),ru,q⟩;simp[Array.eraseIdxIfInBounds,hlt]
theorem mt_insert:MtR X "list.insert" rInsert:=by
 intro pins s σ H x vs v us Q I rx rv h;obtain⟨l,xs,i,y,rfl,rfl,hH,hz,hi,q⟩:=h;cases rx;obtain⟨u1,u2,rfl,⟨t,rfl⟩,ru⟩:=rv.two;obtain⟨z,its,n,r,hl,e⟩:=I.lstM hH;have hf:Builtin.List.listFitsIndex i=true:=by unfold Builtin.List.listFitsIndex;simp;omega
 refine call_meets PySem.F.slot_list_insert ⟨_,e,rfl⟩ PySem.F.entry_list_insert (PySem.F.args_list_insert_3 _ _ _) (PySem.AutoSeq1.list_insert_list_int_val_1 l its.toArray n i t u2 (by simp[hf]) (by rw[zl];omega)) ⟨e,?_⟩;refine⟨.non,_,I.lset (its':=insD its i u2) hH e ?_ (Vals.ins ru i r) (by rw[insD_len];omega),rfl,q⟩;show (its.toArray.extract 0 (if i < 0 then (i + (its.toArray.size:Int)).toNat else min i.toNat its.toArray.size)).push u2++its.toArray.extract (if i < 0 then (i + (its.toArray.size:Int)).toNat else min i.toNat its.toArray.size)=_;rw[PySem.W.kl_ins_eq,zl];rfl
theorem mt_extendT:MtR X "list.extend" (fun x vs H Q=>∃ l b xs zs,x=.ref l/\vs=[.ref b]/\H l=some (.lst xs)/\SqT X.K H b zs/\xs.length + zs.length<=zj/\Q .non (upd H l (.lst (xs++zs)))):=by
 intro pins s σ H x vs v us Q I rx rv h;obtain⟨l,b,xs,zs,rfl,rfl,hH,hB,hz,q⟩:=h;cases rx;obtain⟨u,rfl,ru⟩:=rv.one;cases ru;obtain⟨z,its,n,r,hl,e⟩:=I.lstM hH;obtain⟨its2,r2,⟨⟨cls,dd,data,sl⟩,ho,hc,n2,hd⟩,z2⟩:=I.tuple hB;obtain⟨o2,e2,d2,d3⟩:=I.tupNoDict hB;rw[ho]at e2;cases e2;simp only at hc hd d2 d3;subst hc hd d2 d3;have hl2:=r2.length;have hsz:its.toArray.size + its2.toArray.size<=zj:=by rw[zl,zl];omega
 have hlong:¬ (!its.toArray.isEmpty&&Builtin.List.listTooLong (its.toArray.size + its2.toArray.size))=true:=by
  rw[notLongL hsz,xA];exact zh
 refine call_meets F.slot_list_extend ⟨_,e,rfl⟩ F.entry_list_extend (F.args_list_extend_2 _ _)
  (AutoSeq1.list_extend_list_tuple_0 l its.toArray n b its2.toArray n2 hlong (by rw[zl];omega) (by first | lia | omega)) ⟨e,ho,?_⟩
 refine⟨.non,_,I.lset (its':=its++its2) hH e (by simp) (r.append r2) ?_,rfl,q⟩;rw[zt];first | lia | omega
theorem glued_eq (t:Str)(ys:List Str):Builtin.Str.glued t ys=joinS t ys:=by
 have gen:∀ (ys:List Str) (acc:Array Nat),(ys.foldl (fun acc p=>acc++t.cps++p.cps) acc).toList=acc.toList++(ys.map fun p=>t.cps.toList++p.cps.toList).flatten:=by
  intro ys;induction ys with
  | nil=>intro acc;simp
  | cons y r ih =>
   intro acc;rw[List.foldl_cons,ih];simp
 have gl:∀ (y:Str) (r:List Str),glue t.cps.toList ((y::r).map (·.cps.toList))=y.cps.toList++(r.map fun p=>t.cps.toList++p.cps.toList).flatten:=by
  intro y r;induction r generalizing y with
  | nil=>simp[glue]
  | cons z r ih =>
   show y.cps.toList++t.cps.toList++glue t.cps.toList ((z::r).map (·.cps.toList))=_;rw[ih];simp
 unfold Builtin.Str.glued joinS;congr 1;apply xi.mp;cases ys with
 | nil=>rfl
 | cons y r =>
  rw[gl];simp only[List.drop_succ_cons,xo,List.headD_cons];rw[gen]
noncomputable def rJoin (K:PySem.W.Frag):V->List V->Hp->VK->Prop:=fun x vs H Q=>∃ t l ys,x=.str t/\vs=[.ref l]/\SqL K H l (ys.map V.str)/\(ys.map (·.length)).sum + ys.length * t.length<=16777216/\Q (.str (joinS t ys)) H
theorem strs_are:∀ {ys:List Str} {us:List Value},Vals (ys.map V.str) us->StrsAre us ys
 | [],_,.nil=>.nil
 | y::ys,_,.cons ⟨t,e⟩ r=>by subst e;exact .cons y t (strs_are r)
theorem mt_join:MtR X "str.join" (rJoin X.K):=by
 intro pins s σ H x vs v us Q I rx rv h;obtain⟨t,l,ys,rfl,rfl,hs,hz,q⟩:=h;obtain⟨tk,rfl⟩:=rx;obtain⟨u,rfl,ru⟩:=rv.one;cases ru;obtain⟨its,r,p,_⟩:=I.list hs;refine PyProof.Rows.join_list p.isList (strs_are (by simpa using r)) hz fun t' k=>?_;have e:PySem.Txt.join t ys=joinS t ys:=glued_eq t ys;rw[e];exact⟨.str _,H,I.tok _,⟨t',rfl⟩,q⟩
end
end L3
namespace L3
open PySem PySem.Spec PyProof.Rows L2
theorem cutV_eq (xs:List V)(lo hi:Option Int):cutV xs lo hi=cutD xs lo hi:=rfl
theorem reps_cut {K:PySem.W.Frag}{ι:List Addr}{H:Hp}{ds:List D}{vs:List V}(r:Reps K ι H ds vs)(lo hi:Option Int):Reps K ι H (cutD ds lo hi) (cutD vs lo hi):=by
 unfold cutD;rw[<- r.length];exact(r.drop _).take _
theorem cut_whole {α:Type}{xs:List α}{lo hi:Option Int}(h:(cutD xs lo hi).length=xs.length):cutD xs lo hi=xs:=by
 unfold cutD at h ⊢;rw[ze,zS]at h;have h1:cutIx xs.length 0 lo=0\/xs.length=0:=by first | lia | omega
 rcases h1 with h1 | h1
 ·rw[h1]at h ⊢
  rw[xo,xn (by first | lia | omega)]
 ·have e:xs=[]:=xP.mp h1
  subst e;simp
section
variable {X:Cx}
theorem slice_txt (x:Str)(lo hi:Option Int):Txt.slice x lo hi=⟨(cutD x.cps.toList lo hi).toArray⟩:=by
 have ext:∀ (a b:Str),a.cps.toList=b.cps.toList->a=b:=fun a b h=>by
  cases a;cases b;simp only at h;congr 1;exact xi.mp h
 have lenx:x.length=x.cps.toList.length:=by simp[Str.length]
 have key:∀ (i j n:Nat),i<=n->j<=n->Builtin.Str.strSliceIndices lo hi 1 n=sliceRange (i:Int) (j:Int) 1->((Builtin.Str.strSliceIndices lo hi 1 n).filterMap (x.cps[·]?))=((x.cps.toList.drop i).take (j - i))\/n≠x.length:=by
  intro i j n hi' hj e;by_cases hn:n=x.length
  ·left
   rw[e];unfold sliceRange;simp only[show (1:Int) > 0 by decide,if_true];have hc:(if (i:Int) < (j:Int) then ((j:Int) - (i:Int) + 1 - 1) / 1 else 0).toNat=j - i:=by split <;> omega
   rw[hc,xa];have hf:((fun k=>x.cps[k]?) ∘ fun (k:Nat)=>((i:Int) + 1 * (k:Int)).toNat)=fun k:Nat=>x.cps.toList[i + k]?:=by
    funext k;simp only[Function.comp]
    have:((i:Int) + 1 * (k:Int)).toNat=i + k:=by first | lia | omega
    rw[this];simp
   rw[hf];have hlen:j<=x.cps.toList.length:=by rw[<- lenx,<- hn];exact hj
   clear e hc hf;have gen:∀ (m:Nat) (l:List Nat),m<=l.length->(List.range m).filterMap (fun k=>l[k]?)=l.take m:=by
    intro m;induction m with
    | zero=>intro l _;rfl
    | succ m ih =>
     intro l hl;cases l with
     | nil=>simp at hl
     | cons a r =>
      rw[xR,yP];simp only[List.getElem?_cons_zero,wo,xa];congr 1;rw[<- ih r (by simpa using hl)];rfl
   have hdrop:∀ k:Nat,x.cps.toList[i + k]?=(x.cps.toList.drop i)[k]?:=fun k=>by rw[List.getElem?_drop]
   simp only[hdrop];exact gen (j - i) (x.cps.toList.drop i) (by rw[zS];omega)
  ·exact .inr hn
 have hbnd:∀ (o:Option Int) (d n:Nat),d<=n->cutIx n d o<=n:=fun o d n hd=>by
  cases o with
  | none=>exact hd
  | some v=>simp only[cutIx];split <;> omega
 have hidx:Builtin.Str.strSliceIndices lo hi 1 x.length=sliceRange ((cutIx x.length 0 lo:Nat):Int) ((cutIx x.length x.length hi:Nat):Int) 1:=by
  unfold Builtin.Str.strSliceIndices;have c:∀ (o:Option Int) (d:Nat),(match o with
    | none=>(d:Int)
    | some i=>max 0 (min (if i < 0 then i + (x.length:Int) else i) (x.length:Int)))=((cutIx x.length d o:Nat):Int):=fun o d=>by
   cases o with
   | none=>rfl
   | some v=>simp only[cutIx];split <;> omega
  have c1:=c lo 0;have c2:=c hi x.length;simp only[show (1:Int) > 0 by decide,if_true]at c1 c2 ⊢;rw[<- c1,<- c2];cases lo <;> cases hi <;> rfl
 have hk:=key _ _ _ (hbnd lo 0 x.length (zI _)) (hbnd hi x.length x.length (zr _)) hidx;rcases hk with hk | hk
 ·have hcut:((Builtin.Str.strSliceIndices lo hi 1 x.length).filterMap (x.cps[·]?))=cutD x.cps.toList lo hi:=by
   rw[hk];unfold cutD;rw[<- lenx]
  have hlen:(Builtin.Str.strSliceIndices lo hi 1 x.length).length=(cutD x.cps.toList lo hi).length:=by
   rw[hidx];unfold sliceRange cutD;rw[<- lenx,ze,zS,<- lenx];simp only[show (1:Int) > 0 by decide,if_true,zz,zR];have b1:=hbnd lo 0 x.length (zI _);have b2:=hbnd hi x.length x.length (zr _);split <;> omega
  unfold Txt.slice;split
  ·rename_i hw
   apply ext;show x.cps.toList=cutD x.cps.toList lo hi;symm;apply cut_whole;rw[<- hlen];simp at hw;rw[hw,lenx]
  ·rw[hcut]
 ·exact absurd rfl hk
theorem sl_str:SlR X (fun x lo hi H Q=>∃ y,x=.str y/\y.length<=zj/\Q (.str ⟨(cutD y.cps.toList lo hi).toArray⟩) H):=by
 intro pins s σ H x v vl vu lo hi sl Q I rx hs pl pu h;obtain⟨y,rfl,hy,q⟩:=h;obtain⟨t,rfl⟩:=rx;refine⟨"str",_,PySem.F.slot_str_getitem.lookup,typeIs_str _ _ _,?_⟩;have part:∀ {u:Value} {o:Option Int},IsPart u o->∃ p:Option (Int×Tok),partValue p=u/\p.map (·.1)=o:=fun {u o} z=>by
  cases z
  ·exact⟨none,rfl,rfl⟩
  ·exact⟨some (_,_),rfl,rfl⟩
 obtain⟨l,e1,e2⟩:=part pl;obtain⟨r,e3,e4⟩:=part pu;have hs':s.heap.IsSlice sl l r none:=by
  obtain⟨o,h1,h2,h3⟩:=hs;exact⟨o,h1,h2,by rw[h3,<- e1,<- e3];rfl⟩
 refine wpAny_getItem_str_slice hs' rfl ?_;have e:(if (((none:Option (Int×Tok)).map (·.1)).getD 1==1&&(slicePicked y l r none).length==y.length)=true then y else ⟨((slicePicked y l r none).filterMap (y.cps[·]?)).toArray⟩)=Txt.slice y lo hi:=by
  unfold slicePicked Txt.slice;rw[e2,e4];rfl
 refine post_val_or_str ?_;rw[e];refine⟨zK (Txt.slice_le y _ _) hy,fun t' k=>?_⟩;rw[slice_txt];exact⟨.str _,H,I.tok _,⟨t',rfl⟩,q⟩
noncomputable def RSl (K:PySem.W.Frag):V->Option Int->Option Int->Hp->VK->Prop:=fun x lo hi H Q=>∃ ι M M' dx d,Sim K ι M H/\Rep K ι H dx x/\sliceD dx lo hi M=some (.ok d,M') /\
 ∀ v H' ι',Rep K ι' H' d v->Sim K ι' M' H'->Ext K ι H ι' H'->Q v H'
theorem sl_all:SlR X (RSl X.K):=by
 intro pins s σ H x v vl vu lo hi sl Q I rx hs pl pu h;obtain⟨ι,M,M',dx,d,S,r,e,k⟩:=h;cases r with
 | str y =>
  have e0:=bind_ok e;clear e;obtain⟨_,_,e1,e⟩:=e0;have e10:=need_ok e1;clear e1;obtain⟨hn,rfl⟩:=e10;have e0:=pure_ok e;clear e;obtain⟨rfl,rfl⟩:=e0;exact sl_str pins s σ H _ v vl vu lo hi sl Q I rx hs pl pu ⟨y,rfl,hn,k _ H ι (.str _) S Ext.refl⟩
 | ob t =>
  have e0:=bind_ok e;clear e;obtain⟨ds,_,e1,e⟩:=e0;have e10:=getL_ok e1;clear e1;obtain⟨g,rfl⟩:=e10;obtain⟨a,vs,h1,_,h3,h4⟩:=sim_list S (.ob t) g;cases h1;exact sl_list pins s σ H _ v vl vu lo hi sl Q I rx hs pl pu ⟨_,vs,rfl,SqL.of h3,new_list S (reps_cut h4 lo hi) e k⟩
 | fl t q=>exact sl_list pins s σ H _ v vl vu lo hi sl Q I rx hs pl pu ⟨_,_,rfl,t.seq,new_list S (reps_cut q lo hi) e k⟩
 | tup t q =>
  have e0:=pure_ok e;clear e;obtain⟨rfl,rfl⟩:=e0;rename_i a vs ds;by_cases hn:cutIx ds.length 0 lo=0/\cutIx ds.length ds.length hi=ds.length
  ·cases rx
   obtain⟨its,r,ht,hz⟩:=I.tuple (sqt t);have hlen:its.toArray.size=ds.length:=by rw[zl,<- r.length,q.length]
   refine⟨"tuple",_,PyProof.Rows.slot_tuple_getitem.lookup,ht.typeIs,getItem_tuple_whole ht hs pl pu (by rw[hlen];exact hn) ⟨.ref a,H,I,rfl,?_⟩⟩;have e:cutD ds lo hi=ds:=cut_whole (by
    unfold cutD;rw[hn.1,hn.2,xo,ve,zH])
   rw[e]at k;exact k _ H ι (.tup t q) S Ext.refl
  ·exact sl_tup pins s σ H _ v vl vu lo hi sl Q I rx hs pl pu ⟨_,_,rfl,sqt t,by rw[<- q.length];exact hn,new_tup S (reps_cut q lo hi) k⟩
 | _=>exact(stop_ok e).elim
theorem tru_all:TruR X (fun x H Q=>∃ ι M M' d b,Sim X.K ι M H/\Rep X.K ι H d x/\truD d M=some (.ok b,M')/\(M'=M->Q b H)):=by
 intro pins s σ H x v Q I rx h;obtain⟨ι,M,M',d,b,S,r,e,k⟩:=h;refine tru_ok pins s σ H x v Q I rx ?_;cases r with
 | non=>have e0:=pure_ok e;clear e;obtain⟨rfl,rfl⟩:=e0;exact⟨_,rfl,k rfl⟩
 | bl c=>have e0:=pure_ok e;clear e;obtain⟨rfl,rfl⟩:=e0;exact⟨_,rfl,k rfl⟩
 | int i=>have e0:=pure_ok e;clear e;obtain⟨rfl,rfl⟩:=e0;exact⟨_,rfl,k rfl⟩
 | str y =>
  have e0:=bind_ok e;clear e;obtain⟨_,_,e1,e⟩:=e0;have e10:=need_ok e1;clear e1;obtain⟨hn,rfl⟩:=e10;have e0:=pure_ok e;clear e;obtain⟨rfl,rfl⟩:=e0;exact⟨_,⟨hn,rfl⟩,k rfl⟩
 | tup t q =>
  have e0:=pure_ok e;clear e;obtain⟨rfl,rfl⟩:=e0;refine⟨_,.inr (.inl ⟨_,sqt t,rfl⟩),?_⟩;cases q <;> exact k rfl
 | fl t q =>
  have e0:=pure_ok e;clear e;obtain⟨rfl,rfl⟩:=e0;refine⟨_,.inl ⟨_,t.seq,rfl⟩,?_⟩;cases q <;> exact k rfl
 | ob t =>
  have e0:=bind_ok e;clear e;obtain⟨o,_,e1,e⟩:=e0;have e10:=getM_ok e1;clear e1;obtain⟨g,rfl⟩:=e10;cases o with
  | lst ds =>
   have e0:=pure_ok e;clear e;obtain⟨rfl,rfl⟩:=e0;obtain⟨a,vs,h1,_,h3,h4⟩:=sim_list S (.ob t) g;cases h1;refine⟨_,.inl ⟨_,SqL.of h3,rfl⟩,?_⟩;cases h4 <;> exact k rfl
  | dic kvs =>
   have e0:=pure_ok e;clear e;obtain⟨rfl,rfl⟩:=e0;obtain⟨a,vs,h1,_,h3,h4⟩:=sim_dict S (.ob t) g;cases h1;refine⟨_,.inr (.inr ⟨_,h3,rfl⟩),?_⟩;cases h4 <;> exact k rfl
noncomputable def RLS (K:PySem.W.Frag)(g:List D->Mo D):List V->Hp->VK->Prop:=fun xs H Q=>∃ ι M M' ds d,Sim K ι M H/\Reps K ι H ds xs/\g ds M=some (.ok d,M') /\
 ∀ v H' ι',Rep K ι' H' d v->Sim K ι' M' H'->Ext K ι H ι' H'->Q v H'
theorem bools_of {K:PySem.W.Frag}{ι:List Addr}{H:Hp}:∀ {ds:List D} {vs:List V} {bs:List Bool},Reps K ι H ds vs->ds.mapM boolD=some bs->vs=bs.map V.bl
 | _,_,_,.nil,h=>by simp at h;subst h;rfl
 | _,_,_,.cons (d:=d) r t,h=>by
  rw[xC]at h;simp only[wn,yC,wX,Option.some.injEq]at h;obtain⟨b,hb,bs',hbs,rfl⟩:=h;rw[bools_of t hbs];cases r <;> simp[boolD]at hb;subst hb;rfl
theorem all_range (bs:List Bool):((List.range bs.length).all fun i=>bs.getD i false)=bs.all id:=by
 rw[yz];simp only[yu,yx];constructor
 ·intro h b hb
  obtain⟨i,hi,rfl⟩:=wm hb
  have:=h i hi
  rw[zg,zx hi]at this;exact this
 ·intro h i hi
  rw[zg,zx hi];exact h _ (yG hi)
theorem any_range (bs:List Bool):((List.range bs.length).any fun i=>bs.getD i false)=bs.any id:=by
 rw[yz];simp only[yV,yx];constructor
 ·rintro ⟨i,hi,h⟩
  rw[zg,zx hi]at h;exact⟨_,yG hi,h⟩
 ·rintro ⟨b,hb,h⟩
  obtain⟨i,hi,rfl⟩:=wm hb;refine⟨i,hi,?_⟩;rw[zg,zx hi];exact h
theorem bools_walk (hc:X.calm=true){pins:List (Addr×Obj)}{s:Shared}{σ:St}{H:Hp}{a:Addr}{bs:List Bool}{Q:Value->Shared->Prop}(f:Nat->(Nat->Bool)->Bool)(I:Inv X pins σ H s)(h:H a=some (.lst (bs.map V.bl)))
  (q:∀ s',Inv X pins σ H s'->Q (.bool (f bs.length fun i=>bs.getD i false)) s') :
  wpAny (model X.prog X.w) X.A.in1 (pyIter (.ref a)) (fun it s₂=>∃ I fp wr n P St tr,it=.ref I/\Walks X.prog X.w X.A.in1 I fp wr n P St/\St 0 s₂.heap/\TruthOf X.prog X.w X.A.in1 P tr /\
   ∀ h' tk,(∀ b o,b ∉ wr->s₂.heap.get? b=some o->h'.get? b=some o)->Q (.bool (f n tr)) { s₂ with heap:=h',toks:=tk }) X.xe s:=by
 obtain⟨its,rv,p,hz⟩:=I.list (SqL.of h);have hlt:a < s.heap.objs.size:=by obtain⟨_,_,e,_⟩:=p;exact zf e
 have hlen:its.toArray.size=bs.length:=by have:=rv.length;simp at this ⊢;omega
 refine wpAny_pyIter_list p.isList ?_;have hh:X.A.in1.handled=none:=I.ok.hd hc;refine⟨s.heap.objs.size,_,_,_,_,_,fun i=>bs.getD i false,rfl,Walks.list hh s.heap.objs.size a (za hlt) its.toArray,⟨⟨_,zc _ rfl,rfl,rfl⟩,p.isList.push _⟩,?_,fun h' tk kk=>?_⟩
 ·intro i v s' Q' E' hv hq
  have hv':its[i]?=some v:=by simpa using hv
  have hi:i < bs.length:=by
   have:=(zp.mp hv').1
   rw[<- hlen];simpa using this
  have hb:(bs.map V.bl)[i]?=some (V.bl bs[i]):=by rw[zv,zx hi];rfl
  obtain⟨u,hu,ru⟩:=rv.get hb;rw[hv']at hu;cases hu;cases ru;refine wpAny_truthy_bool ?_;have hq':Q' (bs.getD i false) s':=hq;rw[zg,zx hi]at hq';exact hq'
 ·rw[hlen]
  have I1:Inv X pins σ H { s with heap:=s.heap.push { cls:=.type "list_iterator",data:=.fields #[.ref a,.int 0 0] } }:=I.kept (t':=s.toks) fun b o e=>zo _ e;refine q _ (I1.turned (it:=s.heap.objs.size) (fun b o hb e=>kk b o (by simpa using hb) e) (I.hok.fresh (zr _)) (yT I.lt) (.inr I.sz) (fun y c e z=>?_) fun p hp z=>?_)
  ·obtain⟨v,o,ho,_⟩:=I.cell y c e
   exact absurd (zf ho) (by rw[z];exact yk _)
  ·exact absurd (zf (I.pin p hp).1) (by rw[z];exact yk _)
theorem intsA {K:PySem.W.Frag}{ι:List Addr}{H:Hp}:∀ {xs:List Int} {vs:List V} {us:List Value},Reps K ι H (xs.map .int) vs->Vals vs us->IntsAre us xs
 | [],_,_,.nil,.nil=>.nil
 | x::xs,_,_,.cons r t,.cons g k=>by
  cases r;obtain⟨t',rfl⟩:=g;exact .cons x t' (intsA t k)
noncomputable def blName:Bl->String
 | .len=>"len" | .tuple=>"tuple" | .list=>"list" | .repr=>"repr" | .all=>"all" | .any=>"any" | .min2=>"min" | .max2=>"max" | .abs=>"abs" | .dict1=>"dict" | .minL=>"min"
noncomputable def blTy:Bl->Bool
 | .tuple=>true | .list=>true | .dict1=>true | _=>false
noncomputable def blVal (b:Bl):Value:=if blTy b then .type (blName b) else .builtin (blName b)
theorem call_bl (hc:X.calm=true)(hu:X.A.units + 100 < cLine)(b:Bl):CallR X (blVal b) (RLS X.K (blD b)):=by
 intro pins s σ H xs us Q I rv h;obtain⟨ι,M,M',ds,d,S,r,e,k⟩:=h;have fin:∀ {w':V},M'=M->Rep X.K ι H d w'->Q w' H:=fun {w'} z r=>by subst z;exact k w' H ι r S Ext.refl
 cases b
 ·rcases ds with _ | ⟨x,t⟩
  ·exact(stop_ok e).elim
  cases x <;> first | exact(stop_ok e).elim | (cases t <;> first | exact(stop_ok e).elim | skip)
  ·delta blD at e
   dsimp only at e;have e0:=bind_ok e;clear e;obtain⟨_,_,e1,e⟩:=e0;have e10:=need_ok e1;clear e1;obtain⟨hn,rfl⟩:=e10;have e0:=pure_ok e;clear e;obtain⟨rfl,rfl⟩:=e0;cases r with | cons r1 r2=>cases r2;cases r1;exact call_len_str pins s σ H _ us Q I rv ⟨_,rfl,hn,fin rfl (.int _)⟩
  ·delta blD at e
   dsimp only at e;have e0:=pure_ok e;clear e;obtain⟨rfl,rfl⟩:=e0;cases r with | cons r1 r2 =>
   cases r2;cases r1 with | tup t q=>exact call_len_seq pins s σ H _ us Q I rv ⟨_,_,rfl,.inr (sqt t),by rw[<- q.length];exact fin rfl (.int _)⟩
  ·delta blD at e
   dsimp only at e;have e0:=pure_ok e;clear e;obtain⟨rfl,rfl⟩:=e0;cases r with | cons r1 r2 =>
   cases r2;cases r1 with | fl t q=>exact call_len_seq pins s σ H _ us Q I rv ⟨_,_,rfl,.inl t.seq,by rw[<- q.length];exact fin rfl (.int _)⟩
  ·delta blD at e
   dsimp only at e;have e0:=bind_ok e;clear e;obtain⟨o,_,e1,e⟩:=e0;have e10:=getM_ok e1;clear e1;obtain⟨g,rfl⟩:=e10;cases r with | cons r1 r2 =>
   cases r2;cases o with
   | lst ds =>
    have e0:=pure_ok e;clear e;obtain⟨rfl,rfl⟩:=e0;obtain⟨a,vs,rfl,_,h3,h4⟩:=sim_list S r1 g;exact call_len_seq pins s σ H _ us Q I rv ⟨a,vs,rfl,.inl (SqL.of h3),by rw[<- h4.length];exact fin rfl (.int _)⟩
   | dic kvs =>
    have e0:=pure_ok e;clear e;obtain⟨rfl,rfl⟩:=e0;obtain⟨a,ws,rfl,_,h3,h4⟩:=sim_dict S r1 g;obtain⟨u,rfl,ru⟩:=vals1 rv;cases ru;exact d_len I (.inl h3) fun t s' I'=>⟨.int ws.length,H,I',⟨t,rfl⟩,by rw[<- h4.len];exact fin rfl (.int _)⟩
 ·rcases ds with _ | ⟨x,t⟩
  ·exact(stop_ok e).elim
  cases x <;> first | exact(stop_ok e).elim | (cases t <;> first | exact(stop_ok e).elim | skip)
  ·delta blD at e
   dsimp only at e;have e0:=pure_ok e;clear e;obtain⟨rfl,rfl⟩:=e0;cases r with | cons r1 r2 =>
   cases r2;cases r1 with | tup t q=>exact call_tuple_of pins s σ H _ us Q I rv ⟨_,_,rfl,.inr ⟨sqt t,fin rfl (.tup t q)⟩⟩
  ·delta blD at e
   dsimp only at e;have e0:=pure_ok e;clear e;obtain⟨rfl,rfl⟩:=e0;cases r with | cons r1 r2 =>
   cases r2;cases r1 with | fl t q=>exact call_tuple_of pins s σ H _ us Q I rv ⟨_,_,rfl,.inl ⟨t.seq,new_tup S q k⟩⟩
  ·delta blD at e
   dsimp only at e;have e0:=bind_ok e;clear e;obtain⟨ds,_,e1,e⟩:=e0;have e10:=getL_ok e1;clear e1;obtain⟨g,rfl⟩:=e10;have e0:=pure_ok e;clear e;obtain⟨rfl,rfl⟩:=e0;cases r with | cons r1 r2 =>
   cases r2;obtain⟨a,vs,rfl,_,h3,h4⟩:=sim_list S r1 g;exact call_tuple_of pins s σ H _ us Q I rv ⟨_,_,rfl,.inl ⟨SqL.of h3,new_tup S h4 k⟩⟩
 ·rcases ds with _ | ⟨x,t⟩
  ·exact(stop_ok e).elim
  cases t <;> first | exact(stop_ok e).elim | skip
  ·delta blD at e
   dsimp only at e;have e0:=bind_ok e;clear e;obtain⟨ds,M1,e1,e⟩:=e0;cases r with | cons r1 r2 =>
   cases r2;obtain⟨rfl,a,vs,rfl,hs,hr⟩:=seq_of S r1 e1;exact call_list_of pins s σ H _ us Q I rv ⟨a,vs,rfl,hs,new_list S hr e k⟩
 ·exact(stop_ok e).elim
 ·rcases ds with _ | ⟨x,t⟩
  ·exact(stop_ok e).elim
  cases x <;> first | exact(stop_ok e).elim | (cases t <;> first | exact(stop_ok e).elim | skip)
  ·delta blD at e
   dsimp only at e;have e0:=bind_ok e;clear e;obtain⟨ds,_,e1,e⟩:=e0;have e10:=getL_ok e1;clear e1;obtain⟨g,rfl⟩:=e10;have e0:=bind_ok e;clear e;obtain⟨bs,_,e1,e⟩:=e0;have e10:=lift_ok e1;clear e1;obtain⟨hb,rfl⟩:=e10;have e0:=pure_ok e;clear e;obtain⟨rfl,rfl⟩:=e0;cases r with | cons r1 r2 =>
   cases r2;obtain⟨a,vs,rfl,_,h3,h4⟩:=sim_list S r1 g;obtain⟨u,rfl,ru⟩:=vals1 rv;cases ru;rw[bools_of h4 hb]at h3;exact call_all_walk (bools_walk hc (fun n tr=>(List.range n).all tr) I h3 fun s' I'=>⟨.bl (bs.all id),H,I',by rw[all_range];rfl,fin rfl (.bl _)⟩)
 ·rcases ds with _ | ⟨x,t⟩
  ·exact(stop_ok e).elim
  cases x <;> first | exact(stop_ok e).elim | (cases t <;> first | exact(stop_ok e).elim | skip)
  ·delta blD at e
   dsimp only at e;have e0:=bind_ok e;clear e;obtain⟨ds,_,e1,e⟩:=e0;have e10:=getL_ok e1;clear e1;obtain⟨g,rfl⟩:=e10;have e0:=bind_ok e;clear e;obtain⟨bs,_,e1,e⟩:=e0;have e10:=lift_ok e1;clear e1;obtain⟨hb,rfl⟩:=e10;have e0:=pure_ok e;clear e;obtain⟨rfl,rfl⟩:=e0;cases r with | cons r1 r2 =>
   cases r2;obtain⟨a,vs,rfl,_,h3,h4⟩:=sim_list S r1 g;obtain⟨u,rfl,ru⟩:=vals1 rv;cases ru;rw[bools_of h4 hb]at h3;exact call_any_walk (bools_walk hc (fun n tr=>(List.range n).any tr) I h3 fun s' I'=>⟨.bl (bs.any id),H,I',by rw[any_range];rfl,fin rfl (.bl _)⟩)
 ·exact(stop_ok e).elim
 ·exact(stop_ok e).elim
 ·exact(stop_ok e).elim
 ·rcases ds with _ | ⟨x,t⟩
  ·exact(stop_ok e).elim
  cases x <;> first | exact(stop_ok e).elim | (cases t <;> first | exact(stop_ok e).elim | skip)
  ·delta blD at e
   dsimp only at e;have e0:=bind_ok e;clear e;obtain⟨kvs,_,e1,e⟩:=e0;have e10:=getD_ok e1;clear e1;obtain⟨g,rfl⟩:=e10;have e0:=newM_ok e;clear e;obtain⟨rfl,rfl⟩:=e0;cases r with | cons r1 r2 =>
   cases r2;obtain⟨a,ws,rfl,hi,h3,h4⟩:=sim_dict S r1 g;obtain⟨u,rfl,ru⟩:=vals1 rv;cases ru;obtain⟨z,hd,rs,rel,dd⟩:=dk_rd I.hok (.inl h3);refine PySem.kt_call_dict (knd:=mixKind X.prog X.w) hd dd (by rw[<- rel.length];exact z) fun h' hm hs=>?_;have fr:H s.heap.objs.size=none:=I.hok.fresh (zr _);have kk:∀ b o,s.heap.get? b=some o->h'.get? b=some o:=fun b o e=>(hs.2 b (za (zf e))).trans (zo _ e);have I2:Inv X pins σ (upd H s.heap.objs.size (.dK ws)) { s with heap:=h',toks:=s.toks } :=
    I.laid kk (zr _) (dk_new z (beq_eq_false_iff_ne.mpr (yT I.big)) rel hm)
   have X4:Ext X.K ι H (ι++[s.heap.objs.size]) (upd H s.heap.objs.size (.dK ws)):=Ext.new fr;exact⟨.ref s.heap.objs.size,_,I2,rfl,k _ _ _ (.ob (by rw[<- S.len,zC (zr _),yN];rfl)) (S.new fr ⟨_,rfl,KR.mono X4 h4⟩) X4⟩
 ·exact(stop_ok e).elim
end
end L3
namespace L3
open PySem PySem.Spec PyProof.Rows L2
section
variable {X:Cx}
noncomputable def mtId (m:Mt)(x:D):String:=match m,x with
 | .append,_=>"list.append"
 | .insert,_=>"list.insert"
 | .extend,_=>"list.extend"
 | .join,_=>"str.join"
 | .get,_=>"dict.get"
 | .pop1,_=>"list.pop"
noncomputable def mtName:Mt->Str
 | .append=>"append" | .insert=>"insert" | .join=>"join" | .get=>"get"
 | .extend=>"extend"
 | .pop1=>"pop"
theorem mt_name {m:Str}{n:Nat}{k:Mt}(h:mtOf m n=some k):m=mtName k:=by
 unfold mtOf at h;have key:∀ (y:String) (k:Nat),(m==(Str.ofString y)&&n==k)=true->m=Str.ofString y:=fun y k e=>by
  simp only[zk,beq_iff_eq]at e;exact e.1
 split at h
 ·rename_i e;cases h;exact key _ _ e
 split at h
 ·rename_i e;cases h;exact key _ _ e
 split at h
 ·rename_i e;cases h;exact key _ _ e
 split at h
 ·rename_i e;cases h;exact key _ _ e
 split at h
 ·rename_i e;cases h;exact key _ _ e
 split at h
 ·rename_i e;cases h;exact key _ _ e
 ·cases h
noncomputable def RM (K:PySem.W.Frag)(m:Mt)(id:String):V->List V->Hp->VK->Prop:=fun x xs H Q=>∃ ι M M' dx ds d,Sim K ι M H/\Rep K ι H dx x/\Reps K ι H ds xs/\mtId m dx=id/\mtD m dx ds M=some (.ok d,M') /\
 ∀ v H' ι',Rep K ι' H' d v->Sim K ι' M' H'->Ext K ι H ι' H'->Q v H'
theorem strs_of_reps {K:PySem.W.Frag}{ι:List Addr}{H:Hp}:∀ {ds:List D} {vs:List V} {ys:List Str},Reps K ι H ds vs->ds.mapM strD=some ys->vs=ys.map V.str
 | _,_,_,.nil,h=>by simp at h;subst h;rfl
 | _,_,_,.cons (d:=d) r t,h=>by
  rw[xC]at h;simp only[wn,yC,wX,Option.some.injEq]at h;obtain⟨b,hb,bs',hbs,rfl⟩:=h;rw[strs_of_reps t hbs];cases r <;> simp[strD]at hb;subst hb;rfl
theorem mt_all (hu:X.A.units + 100 < cLine)(m:Mt)(id:String):MtR X id (RM X.K m id):=by
 intro pins s σ H x vs v us Q I rx rv h;obtain⟨ι,M,M',dx,ds,d,S,r,rs,rfl,e,k⟩:=h;have fin:∀ {w':V},M'=M->Rep X.K ι H d w'->Q w' H:=fun {w'} z r=>by subst z;exact k w' H ι r S Ext.refl
 cases m
 case append =>
  cases dx <;> first | exact(stop_ok e).elim | (rcases ds with _ | ⟨_,_ | ⟨_,_⟩⟩ <;> first | exact(stop_ok e).elim | skip)
  ·delta mtD at e
   dsimp only at e;rename_i a y;obtain⟨vy,rfl,ry⟩:=reps1 rs;have e0:=bind_ok e;clear e;obtain⟨xs,_,e1,e⟩:=e0;have e10:=getL_ok e1;clear e1;obtain⟨g,rfl⟩:=e10;have e0:=bind_ok e;clear e;obtain⟨_,_,e1,e⟩:=e0;have e10:=need_ok e1;clear e1;obtain⟨hn,rfl⟩:=e10;have e0:=bind_ok e;clear e;obtain⟨u,M2,e1,e⟩:=e0;have e0:=pure_ok e;clear e;obtain⟨rfl,rfl⟩:=e0;obtain⟨p,ws,rfl,hi,h3,h4⟩:=sim_list S r g;obtain⟨S2,X2⟩:=put_list (ds:=xs) S hi h3 (h4.append (.cons ry .nil)) e1;exact mt_append pins s σ H _ _ v us Q I rx rv ⟨p,ws,vy,rfl,rfl,h3,by rw[<- h4.length];exact hn,k .non _ ι .non S2 X2⟩
 case insert =>
  cases dx <;> first | exact(stop_ok e).elim | (rcases ds with _ | ⟨x,_ | ⟨_,_ | ⟨_,_⟩⟩⟩ <;> first | exact(stop_ok e).elim | (cases x <;> first | exact(stop_ok e).elim | skip))
  ·delta mtD at e
   dsimp only at e;rename_i a i y;obtain⟨vi,vy,rfl,ri,ry⟩:=reps2 rs;cases ri;have e0:=bind_ok e;clear e;obtain⟨xs,_,e1,e⟩:=e0;have e10:=getL_ok e1;clear e1;obtain⟨g,rfl⟩:=e10;have e0:=bind_ok e;clear e;obtain⟨_,_,e1,e⟩:=e0;have e10:=need_ok e1;clear e1;obtain⟨hn,rfl⟩:=e10;have e0:=bind_ok e;clear e;obtain⟨u,M2,e1,e⟩:=e0;have e0:=pure_ok e;clear e;obtain⟨rfl,rfl⟩:=e0;obtain⟨p,ws,rfl,hi,h3,h4⟩:=sim_list S r g;obtain⟨S2,X2⟩:=put_list (ds:=xs) S hi h3 (Reps.ins ry _ h4) e1;exact mt_insert pins s σ H _ _ v us Q I rx rv ⟨p,ws,_,vy,rfl,rfl,h3,by rw[<- h4.length];exact hn.1,hn.2,k .non _ ι .non S2 X2⟩
 case join =>
  cases dx <;> first | exact(stop_ok e).elim | (rcases ds with _ | ⟨x,_ | ⟨_,_⟩⟩ <;> first | exact(stop_ok e).elim | (cases x <;> first | exact(stop_ok e).elim | skip))
  ·delta mtD at e
   dsimp only at e;obtain⟨vy,rfl,ry⟩:=reps1 rs;have e0:=bind_ok e;clear e;obtain⟨xs,_,e1,e⟩:=e0;have e10:=getL_ok e1;clear e1;obtain⟨g,rfl⟩:=e10;have e0:=bind_ok e;clear e;obtain⟨ys,_,e1,e⟩:=e0;have e10:=lift_ok e1;clear e1;obtain⟨hj,rfl⟩:=e10;have e0:=bind_ok e;clear e;obtain⟨_,_,e1,e⟩:=e0;have e10:=need_ok e1;clear e1;obtain⟨hn,rfl⟩:=e10;have e0:=pure_ok e;clear e;obtain⟨rfl,rfl⟩:=e0;obtain⟨p,ws,rfl,hi,h3,h4⟩:=sim_list S ry g;cases r;have hw:=strs_of_reps h4 hj;subst hw;exact mt_join pins s σ H _ _ v us Q I rx rv ⟨_,p,ys,rfl,rfl,SqL.of h3,hn,fin rfl (.str _)⟩
 case extend =>
  cases dx <;> first | exact(stop_ok e).elim | (rcases ds with _ | ⟨_,_ | ⟨_,_⟩⟩ <;> first | exact(stop_ok e).elim | skip)
  ·delta mtD at e
   dsimp only at e;rename_i kk y;obtain⟨vy,rfl,ry⟩:=reps1 rs;have e0:=bind_ok e;clear e;obtain⟨es,_,e1,e⟩:=e0;have e0:=bind_ok e;clear e;obtain⟨xs,_,e2,e⟩:=e0;have e20:=getL_ok e2;clear e2;obtain⟨g,rfl⟩:=e20;have e0:=bind_ok e;clear e;obtain⟨_,_,e3,e⟩:=e0;have e30:=need_ok e3;clear e3;obtain⟨⟨hn,_⟩,rfl⟩:=e30;have e0:=bind_ok e;clear e;obtain⟨u,M2,e4,e⟩:=e0;have e0:=pure_ok e;clear e;obtain⟨rfl,rfl⟩:=e0;cases ry with
   | tup t q =>
    have e10:=pure_ok e1;clear e1;obtain⟨rfl,rfl⟩:=e10;obtain⟨p,ws,rfl,hi,h3,h4⟩:=sim_list S r g;obtain⟨S2,X2⟩:=put_list (ds:=xs) S hi h3 (h4.append q) e4;exact mt_extendT pins s σ H _ _ v us Q I rx rv ⟨p,_,ws,_,rfl,rfl,h3,sqt t,by rw[<- h4.length,<- q.length];exact hn,k .non _ ι .non S2 X2⟩
   | ob t =>
    have e10:=getL_ok e1;clear e1;obtain⟨g2,rfl⟩:=e10;obtain⟨p,ws,rfl,hi,h3,h4⟩:=sim_list S r g;obtain⟨p2,ws2,e5,hi2,h5,h6⟩:=sim_list S (.ob t) g2;cases e5;obtain⟨S2,X2⟩:=put_list (ds:=xs) S hi h3 (h4.append h6) e4;exact mt_extend pins s σ H _ _ v us Q I rx rv ⟨p,_,ws,ws2,rfl,rfl,h3,h5,by rw[<- h4.length,<- h6.length];exact hn,k .non _ ι .non S2 X2⟩
   | _=>exact(stop_ok e1).elim
 case pop1 =>
  cases dx <;> first | exact(stop_ok e).elim | (rcases ds with _ | ⟨x,_ | ⟨_,_⟩⟩ <;> first | exact(stop_ok e).elim | (cases x <;> first | exact(stop_ok e).elim | skip))
  ·delta mtD at e
   dsimp only at e;rename_i a i;obtain⟨vi,rfl,ri⟩:=reps1 rs;cases ri;have e0:=bind_ok e;clear e;obtain⟨xs,_,e1,e⟩:=e0;have e10:=getL_ok e1;clear e1;obtain⟨g,rfl⟩:=e10;have e0:=bind_ok e;clear e;obtain⟨_,_,e1,e⟩:=e0;have e10:=need_ok e1;clear e1;obtain⟨hn,rfl⟩:=e10;have e0:=bind_ok e;clear e;obtain⟨y,_,e1,e⟩:=e0;have e10:=lift_ok e1;clear e1;obtain⟨hy,rfl⟩:=e10;have e0:=bind_ok e;clear e;obtain⟨u,M2,e1,e⟩:=e0;have e0:=pure_ok e;clear e;obtain⟨rfl,rfl⟩:=e0;obtain⟨p,ws,rfl,hi,h3,h4⟩:=sim_list S r g;obtain⟨wy,hwy,ry⟩:=h4.get hy;obtain⟨S2,X2⟩:=put_list (ds:=xs) S hi h3 (h4.erase i.toNat) e1;exact mt_pop1 pins s σ H _ _ v us Q I rx rv ⟨p,ws,i,wy,rfl,rfl,h3,hn,hwy,k wy _ ι (ry.mono X2) S2 X2⟩
 case get =>
  cases dx <;> first | exact(stop_ok e).elim | (rcases ds with _ | ⟨_,_ | ⟨_,_ | ⟨_,_⟩⟩⟩ <;> first | exact(stop_ok e).elim | skip)
  ·delta mtD at e
   dsimp only at e;rename_i kk y dv;obtain⟨vy,vd,rfl,ry,rd⟩:=reps2 rs;have e0:=bind_ok e;clear e;obtain⟨kvs,_,e1,e⟩:=e0;have e10:=getD_ok e1;clear e1;obtain⟨g,rfl⟩:=e10;have e0:=bind_ok e;clear e;obtain⟨q,_,e1,e⟩:=e0;have e10:=lift_ok e1;clear e1;obtain⟨hq,rfl⟩:=e10;have e0:=pure_ok e;clear e;obtain⟨rfl,rfl⟩:=e0;obtain⟨a,ws,rfl,hi,h3,h4⟩:=sim_dict S r g;cases rx;obtain⟨u1,u2,rfl,ru1,ru2⟩:=vals2 rv;have hy:vy=kV q:=by
    cases ry <;> simp only[kyD,reduceCtorEq,Option.some.injEq]at hq <;> subst hq <;> rfl
   subst hy;obtain⟨z,hd,vs,rel,dd⟩:=dk_rd I.hok (.inl h3);show wpAny _ _ (call (.builtin "dict.get") [.ref a,u1,u2]) _ _ _;refine call_meetsIn PySem.F.slot_dict_get dd.typeIs PySem.F.entry_dict_get (PySem.F.args_dict_get_3 _ _ _) (meets_dict_get_default (mixKind X.prog X.w) a (kV_is ru1) hd u2) ⟨_,dd.mapOf,?_⟩;have w3:Rep X.K ι H ((kvGet kvs q).getD dv) ((valV ws q).getD vd):=by
    rcases h4.find q with ⟨z1,z2⟩|⟨d',v',z1,z2,z3⟩
    ·rw[z1,z2];exact rd
    ·rw[z1,z2];exact z3
   exact⟨_,H,I.tok _,(rel.val q).getD ru2,fin rfl w3⟩
theorem LE.mth {m:Mt}{fo:DE}{fa:Ev->Mo (List D)}(σ:St)(H:Hp)(Q:VK)(h:LE X.K (fun ρ=>do let x <- fo ρ;rcvD m x;let xs <- fa ρ;mtD m x xs) σ H Q):tBMx X (mtName m) (RM X.K m) (LE X.K fo) (LA X.K fa) σ H Q:=by
 obtain⟨ι,ρ,M,d,M',S,R,e,k⟩:=h;have e0:=bind_ok e;clear e;obtain⟨x,M1,e1,e⟩:=e0;have e0:=bind_ok e;clear e;obtain⟨u,M2,e2,e⟩:=e0;have e0:=bind_ok e;clear e;obtain⟨xs,M3,e3,e⟩:=e0;refine⟨ι,ρ,M,x,M1,S,R,e1,fun v H1 ι1 r1 S1 X1=>?_⟩;have fact:M2=M1/\∃ T,MFact T (mtName m) (mtId m x)/\RcvIs X T v H1:=by
  unfold rcvD at e2;split at e2
  ·have e0:=bind_ok e2;clear e2;obtain⟨ds,_,e4,e5⟩:=e0
   have e40:=getL_ok e4;clear e4;obtain⟨g,rfl⟩:=e40;obtain⟨p,ws,rfl,hi,h3,h4⟩:=sim_list S1 r1 g;exact⟨(pure_ok e5).2,"list",⟨PySem.F.plainAttrs_list,PySem.F.slot_list_append,PySem.F.type_list_append⟩,rcv_list (SqL.of h3)⟩
  ·have e0:=bind_ok e2;clear e2;obtain⟨ds,_,e4,e5⟩:=e0
   have e40:=getL_ok e4;clear e4;obtain⟨g,rfl⟩:=e40;obtain⟨p,ws,rfl,hi,h3,h4⟩:=sim_list S1 r1 g;exact⟨(pure_ok e5).2,"list",⟨PySem.F.plainAttrs_list,PySem.F.slot_list_insert,PySem.F.type_list_insert⟩,rcv_list (SqL.of h3)⟩
  ·have e0:=bind_ok e2;clear e2;obtain⟨ds,_,e4,e5⟩:=e0
   have e40:=getL_ok e4;clear e4;obtain⟨g,rfl⟩:=e40;obtain⟨p,ws,rfl,hi,h3,h4⟩:=sim_list S1 r1 g;exact⟨(pure_ok e5).2,"list",⟨PySem.F.plainAttrs_list,PySem.F.slot_list_extend,PySem.F.type_list_extend⟩,rcv_list (SqL.of h3)⟩
  ·cases r1 with
   | str y=>exact⟨(pure_ok e2).2,"str",⟨PySem.F.plainAttrs_str,PySem.F.slot_str_join,PySem.F.type_str_join⟩,rcv_str⟩
  ·have e0:=bind_ok e2;clear e2;obtain⟨ds,_,e4,e5⟩:=e0
   have e40:=getD_ok e4;clear e4;obtain⟨g,rfl⟩:=e40;obtain⟨p,ws,rfl,hi,h3,h4⟩:=sim_dict S1 r1 g;exact⟨(pure_ok e5).2,"dict",⟨PySem.F.plainAttrs_dict,PySem.F.slot_dict_get,PySem.F.type_dict_get⟩,fun pins σ s v I r=>tyV_is I r (.inr (.inr (.inl ⟨rfl,.inl ⟨ws,h3⟩⟩)))⟩
  ·have e0:=bind_ok e2;clear e2;obtain⟨ds,_,e4,e5⟩:=e0
   have e40:=getL_ok e4;clear e4;obtain⟨g,rfl⟩:=e40;obtain⟨p,ws,rfl,hi,h3,h4⟩:=sim_list S1 r1 g;exact⟨(pure_ok e5).2,"list",⟨PySem.F.plainAttrs_list,PySem.F.slot_list_pop,PySem.F.type_list_pop⟩,rcv_list (SqL.of h3)⟩
  ·exact(stop_ok e2).elim
 obtain⟨rfl,T,f1,f2⟩:=fact;refine⟨T,mtId m x,f1,f2,?_⟩;refine⟨ι1,ρ,_,xs,M3,S1,R.mono X1,e3,fun vs H2 ι2 r2 S2 X2=>?_⟩;exact⟨ι2,M3,M',x,xs,d,S2,r1.mono X2,r2,rfl,e,fun v' H' ι' r' S' X'=>k v' H' ι' r' S' ((X1.trans X2).trans X')⟩
noncomputable def tyName:Ty->String
 | .int=>"int" | .str=>"str" | .bool=>"bool" | .list=>"list" | .tuple=>"tuple" | .dict=>"dict"
theorem ty_boot {t:Str}{k:Ty}(h:tyOf t=some k):bootBuiltins t=some (.type (tyName k)):=by
 unfold tyOf at h;have key:∀ (y:String),(t==(Str.ofString y))=true->t=Str.ofString y:=fun y e=>by simpa using e
 split at h
 ·rename_i e;cases h;rw[key _ e];decide +kernel
 split at h
 ·rename_i e;cases h;rw[key _ e];decide +kernel
 split at h
 ·rename_i e;cases h;rw[key _ e];decide +kernel
 split at h
 ·rename_i e;cases h;rw[key _ e];decide +kernel
 split at h
 ·rename_i e;cases h;rw[key _ e];decide +kernel
 split at h
 ·rename_i e;cases h;rw[key _ e];decide +kernel
 ·cases h
noncomputable def RIsI (K:PySem.W.Frag)(k:Ty):List V->Hp->VK->Prop:=fun xs H Q=>∃ ι M M' dx x b,xs=[x,.ty (tyName k)]/\Sim K ι M H/\Rep K ι H dx x/\tyD k dx M=some (.ok b,M')/\(M'=M->Q (.bl b) H)
theorem call_isi (k:Ty):CallR X (.builtin "isinstance") (RIsI X.K k):=by
 intro pins s σ H xs us Q I rv h;obtain⟨ι,M,M',dx,x,b,rfl,S,r,e,q⟩:=h;obtain⟨u,w',rfl,ru,rw'⟩:=vals2 rv;cases rw';have yes:∀ {c:Bool},Q (.bl c) H->EP X pins σ Q (.bool c) s:=fun h=>⟨.bl _,H,I,rfl,h⟩;have no:∀ {c:Bool},Q (.bl c) H->EP X pins σ Q (.bool c) { s with toks:=s.toks + 1 }:=fun h=>⟨.bl _,H,I.tok _,rfl,h⟩;have lst:∀ {a:Addr} {vs:List V},SqL X.K H a vs->Q (.bl (k==.list)) H->wpAny (model X.prog X.w) X.A (call (.builtin "isinstance") [.ref a,.type (tyName k)]) (EP X pins σ Q) X.xe s:=fun {a vs} hs q=>by
  obtain⟨its,_,⟨o,n,ho,hc,_⟩,_⟩:=I.list hs;cases k
  ·exact IsiPair.list_int ho hc (no q)
  ·exact IsiPair.list_str ho hc (no q)
  ·exact IsiPair.list_bool ho hc (no q)
  ·exact IsiPair.list_list ho hc (yes q)
  ·exact IsiPair.list_tuple ho hc (no q)
  ·exact IsiPair.list_dict ho hc (no q)
 cases r with
 | non =>
  cases ru;have e0:=pure_ok e;clear e;obtain⟨rfl,rfl⟩:=e0;have q:=q rfl;cases k
  ·exact IsiPair.NoneType_int (no q)
  ·exact IsiPair.NoneType_str (no q)
  ·exact IsiPair.NoneType_bool (no q)
  ·exact IsiPair.NoneType_list (no q)
  ·exact IsiPair.NoneType_tuple (no q)
  ·exact IsiPair.NoneType_dict (no q)
 | bl c =>
  cases ru;have e0:=pure_ok e;clear e;obtain⟨rfl,rfl⟩:=e0;have q:=q rfl;cases k
  ·exact IsiPair.bool_int (yes q)
  ·exact IsiPair.bool_str (no q)
  ·exact IsiPair.bool_bool (yes q)
  ·exact IsiPair.bool_list (no q)
  ·exact IsiPair.bool_tuple (no q)
  ·exact IsiPair.bool_dict (no q)
 | int c =>
  obtain⟨t,rfl⟩:=ru;have e0:=pure_ok e;clear e;obtain⟨rfl,rfl⟩:=e0;have q:=q rfl;cases k
  ·exact IsiPair.int_int (yes q)
  ·exact IsiPair.int_str (no q)
  ·exact IsiPair.int_bool (no q)
  ·exact IsiPair.int_list (no q)
  ·exact IsiPair.int_tuple (no q)
  ·exact IsiPair.int_dict (no q)
 | str c =>
  obtain⟨t,rfl⟩:=ru;have e0:=pure_ok e;clear e;obtain⟨rfl,rfl⟩:=e0;have q:=q rfl;cases k
  ·exact IsiPair.str_int (no q)
  ·exact IsiPair.str_str (yes q)
  ·exact IsiPair.str_bool (no q)
  ·exact IsiPair.str_list (no q)
  ·exact IsiPair.str_tuple (no q)
  ·exact IsiPair.str_dict (no q)
 | tup t qq =>
  cases ru;have e0:=pure_ok e;clear e;obtain⟨rfl,rfl⟩:=e0;have q:=q rfl;obtain⟨its,_,⟨o,ho,hc,_⟩,_⟩:=I.tuple (sqt t);cases k
  ·exact IsiPair.tuple_int ho hc (no q)
  ·exact IsiPair.tuple_str ho hc (no q)
  ·exact IsiPair.tuple_bool ho hc (no q)
  ·exact IsiPair.tuple_list ho hc (no q)
  ·exact IsiPair.tuple_tuple ho hc (yes q)
  ·exact IsiPair.tuple_dict ho hc (no q)
 | fl t qq =>
  cases ru;have e0:=pure_ok e;clear e;obtain⟨rfl,rfl⟩:=e0;exact lst t.seq (q rfl)
 | ob t =>
  cases ru;have e0:=bind_ok e;clear e;obtain⟨o,_,e1,e⟩:=e0;have e10:=getM_ok e1;clear e1;obtain⟨g,rfl⟩:=e10;cases o with
  | lst ds =>
   have e0:=pure_ok e;clear e;obtain⟨rfl,rfl⟩:=e0;obtain⟨p,ws,e1,hi,h3,h4⟩:=sim_list S (.ob t) g;cases e1;exact lst (SqL.of h3) (q rfl)
  | dic kvs =>
   have e0:=pure_ok e;clear e;obtain⟨rfl,rfl⟩:=e0;obtain⟨p,ws,e1,hi,h3,h4⟩:=sim_dict S (.ob t) g;cases e1;have q:=q rfl;obtain⟨z,hd,rs,rel,o,es,ep,ho,⟨hc,_⟩,_⟩:=dk_rd I.hok (.inl h3);cases k
   ·exact IsiPair.dict_int ho hc (no q)
   ·exact IsiPair.dict_str ho hc (no q)
   ·exact IsiPair.dict_bool ho hc (no q)
   ·exact IsiPair.dict_list ho hc (no q)
   ·exact IsiPair.dict_tuple ho hc (no q)
   ·exact IsiPair.dict_dict ho hc (yes q)
theorem LE.isI {k:Ty}{fa:DE}(σ:St)(H:Hp)(Q:VK)(h:LE X.K (fun ρ=>do let x <- fa ρ;let b <- tyD k x;pure (.bl b)) σ H Q):tCB (RIsI X.K k) (tCons (LE X.K fa) (tCons (tC (.ty (tyName k))) tNil)) σ H Q:=by
 obtain⟨ι,ρ,M,d,M',S,R,e,q⟩:=h;have e0:=bind_ok e;clear e;obtain⟨x,M1,e1,e⟩:=e0;have e0:=bind_ok e;clear e;obtain⟨b,M2,e2,e⟩:=e0;have e0:=pure_ok e;clear e;obtain⟨rfl,rfl⟩:=e0;refine⟨ι,ρ,M,x,M1,S,R,e1,fun v H1 ι1 r1 S1 X1=>?_⟩;exact⟨ι1,M1,_,x,v,b,rfl,S1,r1,e2,fun z=>by subst z;exact q _ H1 ι1 (.bl b) S1 X1⟩
end
end L3
namespace L3
open PySem PySem.Spec PyProof.Rows L2
section
variable {X:Cx}
end
end L3
namespace L3
open PySem PySem.Spec PyProof.Rows L2
noncomputable def spOf (K:PySem.W.Frag)(n:Nat)(g:List D->Mo D):Sp:=fun vs H Q _=>vs.length=n/\∃ ι M M' ds d,Sim K ι M H/\Reps K ι H ds vs/\g ds M=some (.ok d,M') /\
 ∀ v H' ι',Rep K ι' H' d v->Sim K ι' M' H'->Ext K ι H ι' H'->Q v H'
noncomputable def FnR (X:Cx)(g:List D->Mo D)(f:Str):Prop:=∃ (k:Nat) (fa:Addr) (fd:FuncData) (ps:List Str),X.mg f=some (.ref fa)/\PySem.W.keepIn X.K (.ref fa)=true/\Binds X.K fd ps [] /\
 FnOk X.prog X.w X.K X.mg X.base CX0 k fa fd ps (spOf X.K ps.length g)/\Room k X.A/\∀ ds M d M',g ds M=some (.ok d,M')->ds.length=ps.length
structure CxOk (Γ:Ctx) (S:Sc) (X:Cx):Prop where
 n:X.N=S.N
 sc:∀ x k,S.sc.names.lookup x=some k->∃ k',X.env.scope.names.lookup x=some k'/\(k'=k\/(k=.free/\k'=.cell))
 calm:X.calm=true
 hu:X.A.units + 100 < cLine
 nox:X.xe=fun _ _=>False
 fns:∀ f∈S.fns,FnR X (Γ.fn f) f
 gls:∀ x∈S.gls,∃ d u v,Γ.gl x=some d/\X.mg x=some u/\RelV v u/\∀ ι H,Rep X.K ι H d v
 bls:∀ x∈S.bls,X.mg x=none
 nd:X.N.Nodup
section
variable {Γ:Ctx}{S:Sc}{X:Cx}
theorem CxOk.vis (C:CxOk Γ S X){x:Str}(h:S.vis x=true):Vis X.env.scope x:=by
 unfold Sc.vis Sc.kind at h;simp only[yU,beq_iff_eq]at h;rcases h with (h | h) | h
 ·obtain⟨k',h1,rfl | ⟨h2,_⟩⟩:=C.sc _ _ h
  ·exact .inl h1
  ·cases h2
 ·obtain⟨k',h1,rfl | ⟨h2,_⟩⟩:=C.sc _ _ h
  ·exact .inr (.inl h1)
  ·cases h2
 ·obtain⟨k',h1,rfl | ⟨_,rfl⟩⟩:=C.sc _ _ h
  ·exact .inr (.inr h1)
  ·exact .inr (.inl h1)
theorem CxOk.loc (C:CxOk Γ S X){x:Str}(h:S.loc x=true):Loc X.env.scope x:=by
 unfold Sc.loc Sc.kind at h;simp only[yU,beq_iff_eq]at h;rcases h with h | h
 ·obtain⟨k',h1,rfl | ⟨h2,_⟩⟩:=C.sc _ _ h
  ·exact .inl h1
  ·cases h2
 ·obtain⟨k',h1,rfl | ⟨h2,_⟩⟩:=C.sc _ _ h
  ·exact .inr h1
  ·cases h2
theorem CxOk.glo (C:CxOk Γ S X){x:Str}(h:S.glo x=true):Gl X x:=by
 unfold Sc.glo Sc.kind at h;simp only[beq_iff_eq]at h;obtain⟨k',h1,rfl | ⟨h2,_⟩⟩:=C.sc _ _ h
 ·exact h1
 ·cases h2
theorem slot_get {N:List Str}{x:Str}{i:Nat}(h:slot N x=some i):N[i]?=some x:=by
 unfold slot at h;obtain⟨hi,h1,_⟩:=xv.mp h;rw[zx hi];simpa using h1
theorem okName_debug {x:Str}(h:okName x=true):(x==("__debug__" : Str))=false/\(x==("__classdict__" : Str))=false/\x≠"__name__":=by
 unfold okName at h;simp only[zk,bne_iff_ne,ne_eq]at h;exact⟨beq_eq_false_iff_ne.mpr h.1.1,beq_eq_false_iff_ne.mpr h.1.2,h.2⟩
theorem star_plain {e:Expr}{es:List Expr}{env:Env}(h:plainE e=true):starEach (e::es) env=(false,eval e env)::starEach es env:=by
 cases e <;> first | rfl | cases h
theorem back_plain {pos:Pos}{env:Env}:∀ {es:List Expr},es.all plainE=true->(backTo pos (starEach es env)).any (·.1)=false
 | [],_=>rfl
 | e::es,h=>by
  rw[yv,zk]at h;rw[star_plain h.1];show (false||(backTo pos (starEach es env)).any (·.1))=false;rw[back_plain h.2];rfl
noncomputable def Its (y:Str):It:=⟨fun i _=>i < y.cps.size,fun i H x H'=>H'=H/\∃ c,y.cps[i]?=some c/\x=.str ⟨#[c]⟩,fun i _=>i=y.cps.size⟩
theorem turn_str {P:Program}{w:World}{K:PySem.W.Frag}{tg:Expr}{it:Addr}{y:Str}{t:Tok}{ty:String}(hW:∀ A':Around,A'.handled=none->Walks P w A' it [it] [it] y.cps.size (SignAt y) (fun i h=>h.IsStrIter it ty y t i))
  (hn:["enumerate","zip","dict_itemiterator","dict_reverseitemiterator","odict_iterator","itertools.zip_longest","itertools.pairwise"].contains ty=false)
  (hself:∀ (A:Around) (i:Nat) (s:Shared) (Q:Value->Shared->Prop) (E:Value->Shared->Prop),s.heap.IsStrIter it ty y t i->Q (.ref it) s->wpAny (model P w) A (pyIter (.ref it)) Q E s) :
  Turn P w K tg (Its y) [it] it (fun i h=>h.IsStrIter it ty y t i) where
 mem:=by simp
 obj:=fun i h st b hb=>by
  have e:b=it:=by simpa using hb
  subst e;obtain⟨o,h1,h2,h3⟩:=st;exact⟨o,h1,fun v z=>by rw[h3]at z;cases z⟩
 keep:=fun i h h' st k=>by
  obtain⟨o,h1,h2⟩:=st;exact⟨o,k it (by simp) o h1,h2⟩
 item:=by
  intro X hP hw hK hc i pins s σ H E I hf st hg;subst hP hw hK;obtain⟨f0,f1,f2,f3,f4,f5⟩:=hf it (by simp);refine(hW X.A (I.ok.hd hc)).item i s _ _ hg st fun v h' tk hv st' kk=>?_;obtain⟨c,t',hc',rfl⟩:=hv;have I1:Inv X pins σ H { s with heap:=h',toks:=tk }:=I.turned (fun b o hb e=>kk b o (by simpa using hb) e) f0 f1 f3 f4 f5;obtain⟨o,h1,h2,h3⟩:=id st';exact⟨_,rfl,go_of (s:={ s with heap:=h',toks:=tk }) h1 h2 h3 hn ⟨.str ⟨#[c]⟩,H,I1,⟨t',rfl⟩,⟨rfl,c,hc',rfl⟩,st',fun b hb=>(hf b hb).1⟩⟩
 done:=by
  intro X hP hw hK hc i pins s σ H E I hf st hg;subst hP hw hK;obtain⟨f0,f1,f2,f3,f4,f5⟩:=hf it (by simp);have hg':i=y.cps.size:=hg;subst hg';exact(hW X.A (I.ok.hd hc)).done s _ _ st fun h' tk kk=>⟨rfl,I.turned (fun b o hb e=>kk b o (by simpa using hb) e) f0 f1 f3 f4 f5⟩
 self:=hself
noncomputable def iAny (K:PySem.W.Frag)(tl:TE):TI:=fun σ H R=>tl σ H fun x H1=>(∃ a xs,x=.ref a/\SqL K H1 a xs/\R (Itl K a) H1)\/(∃ a xs,x=.ref a/\SqT K H1 a xs/\R (Itt K a) H1)\/∃ y,x=.str y/\R (Its y) H1
theorem pi_any {X:Cx}{tg l:Expr}{tl:TE}(hl:PE X l tl):PI X tg l (iAny X.K tl):=by
 intro pins s σ H R I h;refine thn (hl pins s σ H _ I h) fun v s1 ⟨x,H1,I1,r1,q1⟩=>?_;rcases q1 with ⟨a,xs,e,hq,q⟩|⟨a,xs,e,hq,q⟩|⟨y,e,q⟩
 ·subst e
  cases r1;obtain⟨its,rv,p,hz⟩:=I1.list hq;refine wpAny_pyIter_list p.isList ?_;refine⟨s1.heap.objs.size,[s1.heap.objs.size],_,_,H1,rfl,I1.kept (t':=s1.toks) fun b o e=>zo _ e,turn_list a _,⟨_,zc _ rfl,rfl,rfl⟩,fun b hb=>?_,q⟩;have e:b=s1.heap.objs.size:=by simpa using hb
  subst e;exact I1.fpOk (zr _) (I1.hok.fresh (zr _))
 ·subst e
  cases r1;obtain⟨its,rv,p,hz⟩:=I1.tuple hq;refine wpAny_pyIter_tuple (show s1.heap.IsTuple a its.toArray from p) ?_;refine⟨s1.heap.objs.size,[s1.heap.objs.size],_,_,H1,rfl,I1.kept (t':=s1.toks) fun b o e=>zo _ e,turn_tuple a _,⟨_,zc _ rfl,rfl,rfl⟩,fun b hb=>?_,q⟩;have e:b=s1.heap.objs.size:=by simpa using hb
  subst e;exact I1.fpOk (zr _) (I1.hok.fresh (zr _))
 ·subst e
  obtain⟨t,rfl⟩:=r1;cases ha:y.cps.all (· < 128)
  ·refine wpAny_pyIter_wide ha ?_
   refine⟨s1.heap.objs.size,[s1.heap.objs.size],_,_,H1,rfl,I1.kept (t':=s1.toks) fun b o e=>zo _ e,turn_str (t:=t) (fun A' hA=>Walks.strWide hA _ y t) (by decide) (fun _ _ _ _ _ st hQ=>wpAny_pyIter_striter_wide st hQ),⟨_,zc _ rfl,rfl,rfl⟩,fun b hb=>?_,q⟩;have e:b=s1.heap.objs.size:=by simpa using hb
   subst e;exact I1.fpOk (zr _) (I1.hok.fresh (zr _))
  ·refine wpAny_pyIter_ascii ha ?_
   refine⟨s1.heap.objs.size,[s1.heap.objs.size],_,_,H1,rfl,I1.kept (t':=s1.toks) fun b o e=>zo _ e,turn_str (t:=t) (fun A' hA=>Walks.strAscii hA _ y t) (by decide) (fun _ _ _ _ _ st hQ=>wpAny_pyIter_striter_ascii st hQ),⟨_,zc _ rfl,rfl,rfl⟩,fun b hb=>?_,q⟩;have e:b=s1.heap.objs.size:=by simpa using hb
   subst e;exact I1.fpOk (zr _) (I1.hok.fresh (zr _))
noncomputable def ItOk (K:PySem.W.Frag)(ι:List Addr)(H:Hp)(src:Src)(J:It):Prop:=∀ (ι2:List Addr) (H2:Hp) (M2:MH),Ext K ι H ι2 H2->Sim K ι2 M2 H2->okM src.ck M2 ->
 (∀ (i:Nat) (d:D),src.ds[i]?=some d->J.go i H2/\∀ x H',J.yld i H2 x H'->H'=H2/\Rep K ι2 H2 d x)/\J.stop src.ds.length H2
noncomputable def LI (K:PySem.W.Frag)(f:Ev->Mo Src):TI:=fun σ H R=>∃ ι ρ M src M',Sim K ι M H/\EnvR K ι H ρ σ/\f ρ M=some (.ok src,M') /\
 ∀ J H' ι',Sim K ι' M' H'->Ext K ι H ι' H'->ItOk K ι' H' src J->R J H'
theorem PI.imp {X:Cx}{tg e:Expr}{t t':TI}(h:PI X tg e t)(k:∀ σ H R,t' σ H R->t σ H R):PI X tg e t':=fun pins s σ H R I q=>h pins s σ H R I (k σ H R q)
theorem LI.seq {K:PySem.W.Frag}{f:DE}(σ:St)(H:Hp)(R:It->Hp->Prop)(h:LI K (fun ρ=>do let x <- f ρ;srcD x) σ H R):iAny K (LE K f) σ H R:=by
 obtain⟨ι,ρ,M,src,M',S,Rr,e,k⟩:=h;have e0:=bind_ok e;clear e;obtain⟨x,M1,e1,e⟩:=e0;refine⟨ι,ρ,M,x,M1,S,Rr,e1,fun v H1 ι1 r1 S1 X1=>?_⟩;cases r1 with
 | tup t q =>
  have e0:=pure_ok e;clear e;obtain⟨rfl,rfl⟩:=e0;refine .inr (.inl ⟨_,_,rfl,sqt t,k _ H1 ι1 S1 X1 fun ι2 H2 M2 x2 S2 ok=>⟨fun i d hd=>?_,⟨_,sqt (x2.tup _ _ t),yc (q.length.symm)⟩⟩⟩);obtain⟨v,hv,rv⟩:=(q.mono x2).get hd;exact⟨⟨_,v,sqt (x2.tup _ _ t),hv⟩,fun x' H' y=>⟨y.1,by have:=y.2 _ (sqt (x2.tup _ _ t));rw[hv]at this;cases this;exact rv⟩⟩
 | fl t q =>
  have e0:=pure_ok e;clear e;obtain⟨rfl,rfl⟩:=e0;refine .inl ⟨_,_,rfl,t.seq,k _ H1 ι1 S1 X1 fun ι2 H2 M2 x2 S2 ok=>⟨fun i d hd=>?_,⟨_,(x2.fz _ _ t).seq,yc (q.length.symm)⟩⟩⟩;obtain⟨v,hv,rv⟩:=(q.mono x2).get hd;exact⟨⟨_,v,(x2.fz _ _ t).seq,hv⟩,fun x' H' y=>⟨y.1,by have:=y.2 _ (x2.fz _ _ t).seq;rw[hv]at this;cases this;exact rv⟩⟩
 | str y =>
  have e0:=bind_ok e;clear e;obtain⟨_,_,e2,e⟩:=e0;have e20:=need_ok e2;clear e2;obtain⟨hn,rfl⟩:=e20;have e0:=pure_ok e;clear e;obtain⟨rfl,rfl⟩:=e0;refine .inr (.inr ⟨y,rfl,k _ H1 ι1 S1 X1 fun ι2 H2 M2 x2 S2 ok=>⟨fun i d hd=>?_,?_⟩⟩)
  ·rw[zv]at hd
   cases hc:y.cps.toList[i]? with
   | none=>rw[hc]at hd;cases hd
   | some c =>
    rw[hc]at hd;cases hd;have hc':y.cps[i]?=some c:=by simpa using hc
    refine⟨?_,fun x' H' yy=>?_⟩
    ·exact(Array.getElem?_eq_some_iff.mp hc').1
    ·obtain⟨h1,c',h2,rfl⟩:=yy
     rw[hc']at h2;cases h2;exact⟨h1,.str _⟩
  ·show (y.cps.toList.map sgn).length=y.cps.size
   simp
 | ob t =>
  have e0:=bind_ok e;clear e;obtain⟨ds,_,e2,e⟩:=e0;have e20:=getL_ok e2;clear e2;obtain⟨g,rfl⟩:=e20;have e0:=pure_ok e;clear e;obtain⟨rfl,rfl⟩:=e0;obtain⟨a,vs,h1,h2,h3,h4⟩:=sim_list S1 (.ob t) g;cases h1;refine .inl ⟨_,vs,rfl,SqL.of h3,k _ H1 ι1 S1 X1 fun ι2 H2 M2 x2 S2 ok=>?_⟩;have ok':M2[_]?=some (MO.lst ds):=ok;obtain⟨a2,vs2,g1,g2,g3,g4⟩:=sim_list S2 (.ob (x2.pre _ _ h2)) ok';cases g1;refine⟨fun i d hd=>?_,⟨vs2,SqL.of g3,yc (g4.length.symm)⟩⟩;obtain⟨v,hv,rv⟩:=g4.get hd;exact⟨⟨_,v,SqL.of g3,hv⟩,fun x' H' y=>⟨y.1,by have:=y.2 _ (SqL.of g3);rw[hv]at this;cases this;exact rv⟩⟩
 | _=>exact(stop_ok e).elim
theorem itr_ok {K:PySem.W.Frag}{ι:List Addr}{H:Hp}{lo hi:Int}:ItOk K ι H ⟨none,rngD lo hi⟩ (Itr lo (hi - lo).toNat):=fun ι2 H2 M2 x2 S2 _=>by
 refine⟨fun i d hd=>?_,?_⟩
 ·unfold rngD at hd
  rw[zv]at hd;cases hc:(List.range (hi - lo).toNat)[i]? with
  | none=>rw[hc]at hd;cases hd
  | some c =>
   rw[hc]at hd;cases hd;obtain⟨h1,h2⟩:=zp.mp hc;rw[zR]at h1;rw[xD]at h2;subst h2;refine⟨h1,fun x' H' y=>?_⟩;obtain⟨y1,rfl⟩:=y;exact⟨y1,.int _⟩
 ·show (hi - lo).toNat<=(rngD lo hi).length
  unfold rngD;rw[zz,zR];exact zr _
theorem LI.rng1 {K:PySem.W.Frag}{f:DE}(σ:St)(H:Hp)(R:It->Hp->Prop)(h:LI K (fun ρ=>do
  let x <- f ρ
  (match x with
  | .int i=>do need (small i);pure ⟨none,rngD 0 i⟩
  | _=>Mo.stop)) σ H R):iRng1 (tCons (LE K f) tNil) σ H R:=by
 obtain⟨ι,ρ,M,src,M',S,Rr,e,k⟩:=h;have e0:=bind_ok e;clear e;obtain⟨x,M1,e1,e⟩:=e0;refine⟨ι,ρ,M,x,M1,S,Rr,e1,fun v H1 ι1 r1 S1 X1=>?_⟩;cases r1 with
 | int i =>
  have e0:=bind_ok e;clear e;obtain⟨_,_,e2,e⟩:=e0;have e20:=need_ok e2;clear e2;obtain⟨hn,rfl⟩:=e20;have e0:=pure_ok e;clear e;obtain⟨rfl,rfl⟩:=e0;refine⟨i,rfl,hn.1,hn.2,k _ H1 ι1 S1 X1 ?_⟩
  have:=@itr_ok K ι1 H1 0 i
  rw[Int.sub_zero]at this;exact this
 | _=>exact(stop_ok e).elim
theorem LI.rng2 {K:PySem.W.Frag}{f g:DE}(σ:St)(H:Hp)(R:It->Hp->Prop)(h:LI K (fun ρ=>do
  let x <- f ρ
  let y <- g ρ
  (match x,y with
  | .int i,.int j=>do need (small i/\small j);pure ⟨none,rngD i j⟩
  | _,_=>Mo.stop)) σ H R):iRng2 (tCons (LE K f) (tCons (LE K g) tNil)) σ H R:=by
 obtain⟨ι,ρ,M,src,M',S,Rr,e,k⟩:=h;have e0:=bind_ok e;clear e;obtain⟨x,M1,e1,e⟩:=e0;have e0:=bind_ok e;clear e;obtain⟨y,M2,e2,e⟩:=e0;refine⟨ι,ρ,M,x,M1,S,Rr,e1,fun v H1 ι1 r1 S1 X1=>?_⟩;refine⟨ι1,ρ,M1,y,M2,S1,Rr.mono X1,e2,fun u H2 ι2 r2 S2 X2=>?_⟩;cases r1 with
 | int i =>
  cases r2 with
  | int j =>
   have e0:=bind_ok e;clear e;obtain⟨_,_,e2,e⟩:=e0;have e20:=need_ok e2;clear e2;obtain⟨hn,rfl⟩:=e20;have e0:=pure_ok e;clear e;obtain⟨rfl,rfl⟩:=e0;exact⟨i,j,rfl,⟨hn.1.1,hn.1.2,hn.2.1,hn.2.2⟩,k _ H2 ι2 S2 (X1.trans X2) itr_ok⟩
  | _=>exact(stop_ok e).elim
 | _=>exact(stop_ok e).elim
theorem stand_ok {ck:Option (Nat×List D)}{M M':MH}{u:Unit}(h:stand ck M=some (.ok u,M')):okM ck M/\M'=M:=by
 unfold stand at h;split at h
 ·rename_i hp;cases h;exact⟨hp,rfl⟩
 ·cases h
theorem LS.loop {K:PySem.W.Frag}{i:Nat}{fs:Ev->Mo Src}{fb:Ev->Mo Fl}(D:Ends)(σ:St)(H:Hp)(h:LS K (fun ρ=>do let s <- fs ρ;loopD s.ck i fb s.ds ρ) D σ H):tFor (LI K fs) (gName i) (LS K fb) D σ H:=by
 obtain⟨ι,ρ,M,fl,M',S,R,e,k⟩:=h;have e0:=bind_ok e;clear e;obtain⟨src,M1,e1,e⟩:=e0;refine⟨ι,ρ,M,src,M1,S,R,e1,fun J H1 ι1 S1 X1 hJ=>?_⟩;refine⟨fun j m σ' H'=>m=src.ds.length - j/\j<=src.ds.length/\∃ ι' ρ' M2,Sim K ι' M2 H'/\EnvR K ι' H' ρ' σ'/\Ext K ι1 H1 ι' H'/\loopD src.ck i fb (src.ds.drop j) ρ' M2=some (.ok fl,M'),
  ⟨_,rfl,zI _,ι1,ρ,M1,S1,R.mono X1,Ext.refl,e⟩,?_⟩
 rintro j m σ' H' ⟨rfl,hj,ι',ρ',M2,S2,R2,X2,e2⟩;by_cases hlt:j < src.ds.length
 ·right
  rw[yo hlt]at e2;have e20:=bind_ok e2;clear e2;obtain⟨_,_,e3,e2⟩:=e20;have e30:=stand_ok e3;clear e3;obtain⟨ok,rfl⟩:=e30;have e20:=bind_ok e2;clear e2;obtain⟨f,M3,e3,e2⟩:=e20;obtain⟨go,yld⟩:=(hJ ι' H' _ X2 S2 ok).1 j _ (zx hlt);refine⟨go,fun σ3 H3=>∃ ι3 ρ3 M4,Sim K ι3 M4 H3/\EnvR K ι3 H3 ρ3 σ3/\Ext K ι1 H1 ι3 H3/\loopD src.ck i fb (src.ds.drop (j + 1)) ρ3 M4=some (.ok fl,M'),
   fun σ3 H3 ⟨ι3,ρ3,M4,h1,h2,h3,h4⟩=>⟨src.ds.length - (j + 1),by omega,rfl,hlt,ι3,ρ3,M4,h1,h2,h3,h4⟩,fun x H'' y=>?_⟩
  obtain⟨rfl,rx⟩:=yld x H'' y;refine⟨ι',_,_,f,M3,S2,R2.set rx i,e3,fun H3 ι3 S3 X3=>?_⟩;cases f with
  | nx ρ3=>exact fun σ3 R3=>⟨ι3,ρ3,M3,S3,R3,X2.trans X3,e2⟩
  | ct ρ3=>exact fun σ3 R3=>⟨ι3,ρ3,M3,S3,R3,X2.trans X3,e2⟩
  | bk ρ3 =>
   have e20:=pure_ok e2;clear e2;obtain⟨rfl,rfl⟩:=e20;exact fun σ3 R3=>k H3 ι3 S3 ((X1.trans X2).trans X3) σ3 R3
  | rt v =>
   have e20:=pure_ok e2;clear e2;obtain⟨rfl,rfl⟩:=e20;exact fun v' r'=>k H3 ι3 S3 ((X1.trans X2).trans X3) v' r'
 ·left
  have ej:j=src.ds.length:=by first | lia | omega
  subst ej;rw[yf]at e2;have e20:=bind_ok e2;clear e2;obtain⟨_,_,e3,e2⟩:=e20;have e30:=stand_ok e3;clear e3;obtain⟨ok,rfl⟩:=e30;have e20:=pure_ok e2;clear e2;obtain⟨rfl,rfl⟩:=e20;exact⟨(hJ ι' H' _ X2 S2 ok).2,k H' ι' S2 (X1.trans X2) σ' R2⟩
theorem LE.comp {K:PySem.W.Frag}{j:Nat}{fs:Ev->Mo Src}{fc:Ev->Mo Bool}{fe:DE}(σ:St)(H:Hp)(Q:VK)(h:LE K (fun ρ=>do
  let s <- fs ρ
  need (s.ds.length<=zj)
  let ys <- compD s.ck fc fe (ρ.set j none) s.ds
  newM (.lst ys)) σ H Q):tComp (LI K fs) (gName 0) 1 (LT K fc) (LE K fe) σ H Q:=by
 obtain⟨ι,ρ,M,d,M',S,R,e,k⟩:=h;have e0:=bind_ok e;clear e;obtain⟨src,M1,e1,e⟩:=e0;have e0:=bind_ok e;clear e;obtain⟨_,_,e2,e⟩:=e0;have e20:=need_ok e2;clear e2;obtain⟨hn,rfl⟩:=e20;have e0:=bind_ok e;clear e;obtain⟨all,M2,e2,e⟩:=e0;refine⟨ι,ρ,M,src,_,S,R,e1,fun J H1 ι1 S1 X1 hJ=>?_⟩;refine⟨fun i m ys H'=>m=src.ds.length - i/\i<=src.ds.length/\ys.length<=i/\∃ ι' ds rest M3,Sim K ι' M3 H'/\Ext K ι1 H1 ι' H'/\Reps K ι' H' ds ys/\compD src.ck fc fe (ρ.set j none) (src.ds.drop i) M3=some (.ok rest,M2)/\all=ds++rest,
  ⟨_,rfl,zI _,zr _,ι1,[],all,_,S1,Ext.refl,.nil,e2,rfl⟩,?_⟩
 rintro i m ys H' ⟨rfl,hi,hy,ι',ds,rest,M3,S3,X3,r3,e3,ea⟩;by_cases hlt:i < src.ds.length
 ·right
  rw[yo hlt]at e3;have e30:=bind_ok e3;clear e3;obtain⟨_,_,e4,e3⟩:=e30;have e40:=stand_ok e4;clear e4;obtain⟨ok,rfl⟩:=e40;have e30:=bind_ok e3;clear e3;obtain⟨b,M4,e4,e3⟩:=e30;obtain⟨go,yld⟩:=(hJ ι' H' _ X3 S3 ok).1 i _ (zx hlt);refine⟨go,by omega,fun v H'' os ho y=>?_⟩;obtain⟨rfl,rx⟩:=yld v H'' y;obtain⟨o1,rfl⟩:=List.length_eq_one_iff.mp ho;refine⟨[some v],rfl,rfl,?_⟩;have RR:EnvR K ι' H'' (some src.ds[i]::ρ.set j none) (some v::σ):=((R.mono X1).mono X3).comp rx j;refine⟨ι',_,_,b,M4,S3,RR,e4,fun H4 ι4 S4 X4=>?_⟩;cases b with
  | true =>
   rw[if_pos rfl]at e3 ⊢;have e30:=bind_ok e3;clear e3;obtain⟨y',M5,e5,e3⟩:=e30;have e30:=bind_ok e3;clear e3;obtain⟨ys',M6,e6,e3⟩:=e30;have e30:=pure_ok e3;clear e3;obtain⟨rfl,rfl⟩:=e30;refine⟨ι4,_,_,y',M5,S4,RR.mono X4,e5,fun v5 H5 ι5 r5 S5 X5=>?_⟩;exact⟨src.ds.length - (i + 1),by omega,rfl,hlt,by rw[zt];exact Nat.succ_le_succ hy,ι5,ds++[y'],ys',M5,S5,(X3.trans X4).trans X5,((r3.mono X4).mono X5).append (.cons r5 .nil),e6,by rw[ea,yq];rfl⟩
  | false =>
   rw[if_neg zh]at e3 ⊢;exact⟨src.ds.length - (i + 1),by omega,rfl,hlt,Nat.le_succ_of_le hy,ι4,ds,rest,M4,S4,X3.trans X4,r3.mono X4,e3,ea⟩
 ·left
  have ei:i=src.ds.length:=by first | lia | omega
  subst ei;rw[yf]at e3;have e30:=bind_ok e3;clear e3;obtain⟨_,_,e4,e3⟩:=e30;have e40:=stand_ok e4;clear e4;obtain⟨ok,rfl⟩:=e40;have e30:=pure_ok e3;clear e3;obtain⟨rfl,rfl⟩:=e30;rw[zO]at ea;subst ea;refine⟨(hJ ι' H' _ X3 S3 ok).2,by omega,new_list S3 r3 e fun v H5 ι5 r5 S5 X5=>k v H5 ι5 r5 S5 ((X1.trans X3).trans X5)⟩
end
end L3
namespace L3
open PySem PySem.Spec PyProof.Rows L2
section
variable {X:Cx}{pins:List (Addr×Obj)}{σ:St}{H:Hp}{s:Shared}{h':Heap}
structure Young (X:Cx) (pins:List (Addr×Obj)) (a:Addr):Prop where
 lo:X.s₀.heap.objs.size<=a
 fr:a≠X.env.locals
 cl:∀ y c,X.env.cells.lookup y=some c->c≠a
 pn:∀ p∈X.pn++pins,p.1≠a
theorem young_of (I:Inv X pins σ H s){a:Addr}(h:s.heap.objs.size<=a):Young X pins a:=by
 refine⟨zK I.sz h,yT (zB I.lt h),fun y c e z=>?_,fun p hp z=>?_⟩
 ·obtain⟨v,o,ho,_⟩:=I.cell y c e
  exact absurd (zB (zf ho) (by rw[z];exact h)) (yk _)
 ·exact absurd (zB (zf (I.pin p hp).1) (by rw[z];exact h)) (yk _)
theorem inv_adopt (I:Inv X pins σ H s){a:Addr}{o:HO}(hn:H a=none)(y:Young X pins a)(new:ObjOk X.prog X.w (upd H a o) s.heap a o):Inv X pins σ (upd H a o) s where
 ok:=I.ok
 os:=I.os
 bare:=I.bare
 base:=Un.adopt I.base (xh y.lo) hn
 loc:=I.loc
 cell:=I.cell
 free:=by rw[upd_ne (Ne.symm y.fr)];exact I.free
 freeC:=fun x c e=>by rw[upd_ne (y.cl x c e)];exact I.freeC x c e
 pin:=fun p hp=>by
  obtain⟨h1,h2,h3⟩:=I.pin p hp;exact⟨h1,by rw[upd_ne (y.pn p hp)];exact h2,h3⟩
 hok:=HOk.adopt I.hok hn new
 len:=I.len
theorem turned2 {t':Nat}{a b:Addr}(I:Inv X pins σ H s)(k:∀ c o,c≠a->c≠b->s.heap.get? c=some o->h'.get? c=some o)(fa:FpOk X pins H a)(fb:FpOk X pins H b):Inv X pins σ H { s with heap:=h',toks:=t' }:=by
 obtain⟨a0,a1,_,a3,a4,a5⟩:=fa;obtain⟨b0,b1,_,b3,b4,b5⟩:=fb;have na:∀ c u,H c=some u->c≠a:=fun c u e z=>by rw[z,a0]at e;cases e
 have nb:∀ c u,H c=some u->c≠b:=fun c u e z=>by rw[z,b0]at e;cases e
 have k':∀ c o,c ∉ [a,b]->s.heap.get? c=some o->h'.get? c=some o:=fun c o hc e=>k c o (fun z=>hc (by simp[z])) (fun z=>hc (by simp[z])) e;refine I.step (g':=s.gens) (d':=s.drawn) (ch:=[a,b]) (fun c hc=>?_) (fun c o _ _ hc e _=>k' c o hc e) (fun c o _ _ hc e _=>⟨o.slots,k' c o hc e⟩) (fun _ _ _ _ n=>n)
  (fun c o hc e=>⟨o,k' c o hc e⟩) (fun _ _ e=>e) (fun _ _ _ e=>e) (fun c ps e=>⟨#[],by rw[e];simp⟩) (fun m hm=>?_) (fun c u e=>?_) I.bare
 ·rcases zG.mp hc with rfl | hc
  ·exact⟨a3,a1,a4,a5⟩
  ·rw[zb.mp hc]
   exact⟨b3,b1,b4,b5⟩
 ·obtain⟨o,es,ep,ho,r⟩:=hm
  exact⟨o,es,ep,k _ o (Ne.symm a1) (Ne.symm b1) ho,r⟩
 ·refine(I.hok c u e).stay (fun d v hd q=>?_) (fun _ q=>q) fun _ _ q=>q
  rcases hd with z | z
  ·exact k d v (by rw[z];exact na c u e) (by rw[z];exact nb c u e) q
  ·exact k d v (na d _ z) (nb d _ z) q
end
noncomputable def Ite (K:PySem.W.Frag)(a:Addr):It :=
 ⟨fun i H=>∃ xs x,SqL K H a xs/\xs[i]?=some x,fun i H x H'=>∃ p v,x=.ref p/\H p=none/\H'=upd H p (.tup [.int i,v])/\∀ xs,SqL K H a xs->xs[i]?=some v,fun i H=>∃ xs,SqL K H a xs/\xs.length<=i⟩
theorem turn_enum {P:Program}{w:World}{K:PySem.W.Frag}{es:List Expr}{x1:Nat}{pos:Pos}(a e it:Addr)(ne:e≠it):Turn P w K (.Tuple es x1 pos) (Ite K a) [e,it] e (fun i h=>(∃ old,IsEnum h e it i old)/\h.IsListIter it a i) where
 mem:=by simp
 obj:=fun i h st b hb=>by
  obtain⟨⟨old,he⟩,o,h1,c,d⟩:=st;rcases zG.mp hb with rfl | hb
  ·exact⟨_,he,fun v z=>by cases z⟩
  ·rw[zb.mp hb]
   exact⟨o,h1,fun v z=>by rw[d]at z;cases z⟩
 keep:=fun i h h' st k=>by
  obtain⟨⟨old,he⟩,hi⟩:=st;exact⟨⟨old,k e (by simp) _ he⟩,hi.at fun o q=>k it (by simp) o q⟩
 item:=by
  intro X hP hw hK hc i pins s σ H E I hf st hg;subst hP hw hK;obtain⟨⟨old,he⟩,hi⟩:=st;obtain⟨xs,x,hq,hx⟩:=hg;obtain⟨its,rv,p,hz⟩:=I.list hq;obtain⟨u,hu,ru⟩:=rv.get hx;have fe:=hf e (by simp);have fi:=hf it (by simp);refine wpAny_pyNext_enum_item he hi p.isList (x:=u) (by simpa using hu) ne fun h1 ho hi1 ht hs1 hk=>?_;refine⟨_,rfl,wpAny_letOwnedTupleGo_enum (s:={ s with heap:=h1,toks:=s.toks + 1 }) ho fun h2 he2 sb=>?_⟩;have sb:Heap.SameBut e h1 h2:=sb;have lte:e < s.heap.objs.size:=zf he;have keep:∀ c o,c≠e->c≠it->s.heap.get? c=some o->h2.get? c=some o:=fun c o n1 n2 q=>(sb.2 c n1).trans (hk c o n1 n2 q);have I1:Inv X pins σ H { s with heap:=h2,toks:=s.toks + 1 }:=turned2 I keep fe fi;have fr:H s.heap.objs.size=none:=I.hok.fresh (zr _);have ht2:h2.get? s.heap.objs.size=some { cls:=.type "tuple",data:=.seq #[.int i s.toks,u] }:=(sb.2 _ (yT lte)).trans ht;have y:Young X pins s.heap.objs.size:=young_of I (zr _);have I2:Inv X pins σ (upd H s.heap.objs.size (.tup [.int i,x])) { s with heap:=h2,toks:=s.toks + 1 } :=
   inv_adopt I1 fr y ⟨by show 2<=zj;decide,[.int i s.toks,u],.cons ⟨_,rfl⟩ (.cons ru .nil),⟨⟨_,ht2,rfl,0,rfl⟩,fun o q=>by rw[ht2]at q;cases q;exact⟨rfl,rfl⟩⟩⟩
  refine⟨.ref s.heap.objs.size,_,I2,rfl,⟨_,x,rfl,fr,rfl,fun ys hy=>by rw[I.list_inj hy hq];exact hx⟩,⟨⟨u,?_⟩,?_⟩,fun b hb=>?_⟩
  ·have:((i + 1:Nat):Int)=(i:Int) + 1:=by first | lia | omega
   rw[this];exact he2
  ·exact hi1.extBut sb.extBut (Ne.symm ne)
  ·have hbn:H b=none:=(hf b hb).1
   rcases zG.mp hb with rfl | hb
   ·rw[upd_ne (za lte)];exact hbn
   ·have eb:=zb.mp hb
    subst eb;obtain⟨o,h3,_⟩:=hi;rw[upd_ne (za (zf h3))];exact hbn
 done:=by
  intro X hP hw hK hc i pins s σ H E I hf st hg;subst hP hw hK;obtain⟨⟨old,he⟩,hi⟩:=st;obtain⟨xs,hq,hx⟩:=hg;obtain⟨its,rv,p,hz⟩:=I.list hq;obtain⟨f0,f1,f2,f3,f4,f5⟩:=hf it (by simp);have hl:=rv.length;exact wpAny_pyNext_enum_end (I.ok.hd hc) he hi p.isList (by simp;omega) fun h' eb=>⟨rfl,I.turned (t':=s.toks) (fun b o hb e=>eb b o hb e) f0 f1 f3 f4 f5⟩
 self:=fun _ _ _ _ _ st h=>by
  obtain⟨⟨old,he⟩,hi⟩:=st;exact wpAny_pyIter_enum he h
section
variable {prog:Program}{w:World}{A:Around}{E:Value->Shared->Prop}{s:Shared}
theorem nextOf_tuple_item {it t:Addr}{i:Nat}{items:Array Value}{x:Value}{Q:Value->Shared->Prop}(hit:IsTupIter s.heap it t i)(ht:IsTup s.heap t items)(hx:items[i]?=some x)
  (hQ:∀ h',IsTupIter h' it t (i + 1)->Heap.SameBut it s.heap h'->Q x { s with heap:=h' }):wpAny (model prog w) A (Builtin.SmallTypes.nextOf (.ref it)) Q E s:=by
 obtain⟨o,ho,hc,hd⟩:=id hit;obtain⟨ol,hol,_,nl,hdl⟩:=ht;unfold Builtin.SmallTypes.nextOf;refine zy (wpAny_callSpecial?_slot (name:=Str.ofString "__next__") hit.typeIs slot_tupleiter_next (wpAny_call_entry slot_tupleiter_next hit.typeIs entry_tupleiter_next ?_ (args_tupleiter_next _)));show wpAny _ _ (field (.ref it) 0 >>= _) _ _ s;refine zy (wpAny_field ho hd (x:=.ref t) rfl ?_);show wpAny _ _ (if (Value.ref t==Value.none)=true then _ else _) _ _ s;rw[if_neg (show ¬ ((Value.ref t==Value.none)=true) from zh)];show wpAny _ _ (field (.ref it) 1 >>= _) _ _ s;refine zy (wpAny_field ho hd (x:=.int i 0) rfl ?_);show wpAny _ _ (seqItems? (.ref t) >>= _) _ _ s;refine zy (wpAny_seqItems hol hdl ?_);simp only[zE,hx];refine zy (wpAny_setField ho hd (by simp) (zq ⟨x,rfl,zq (hQ _ ?_ (Heap.SameBut.update ..))⟩));exact⟨_,ym _ ho (Obj.isFreed_of_fields (Obj.data_mapFields hd _)),(Obj.cls_mapFields ..).trans hc,by rw[Obj.data_mapFields hd];simp[rawInt]⟩
theorem nextOf_tuple_end {it t:Addr}{i:Nat}{items:Array Value}{Q:Value->Shared->Prop}(hh:A.handled=none)(hit:IsTupIter s.heap it t i)(ht:IsTup s.heap t items)(hx:items[i]?=none)
  (hE:∀ h' e,Heap.ExtBut it s.heap h'->(∃ o,h'.get? e=some o/\o.cls=.type "StopIteration")->E (.ref e) { s with heap:=h' }):wpAny (model prog w) A (Builtin.SmallTypes.nextOf (.ref it)) Q E s:=by
 obtain⟨o,ho,hc,hd⟩:=id hit;obtain⟨ol,hol,_,nl,hdl⟩:=ht;unfold Builtin.SmallTypes.nextOf;refine zy (wpAny_callSpecial?_slot (name:=Str.ofString "__next__") hit.typeIs slot_tupleiter_next (wpAny_call_entry slot_tupleiter_next hit.typeIs entry_tupleiter_next ?_ (args_tupleiter_next _)));show wpAny _ _ (field (.ref it) 0 >>= _) _ _ s;refine zy (wpAny_field ho hd (x:=.ref t) rfl ?_);show wpAny _ _ (if (Value.ref t==Value.none)=true then _ else _) _ _ s;rw[if_neg (show ¬ ((Value.ref t==Value.none)=true) from zh)];show wpAny _ _ (field (.ref it) 1 >>= _) _ _ s;refine zy (wpAny_field ho hd (x:=.int i 0) rfl ?_);show wpAny _ _ (seqItems? (.ref t) >>= _) _ _ s;refine zy (wpAny_seqItems hol hdl ?_);simp only[zE,hx];refine zy (wpAny_rule (zy (wpAny_setField ho hd (by simp) ?_)));show wpAny _ _ (newExc (.type "StopIteration") [] >>= _) _ _ _;refine zy ?_;simp only[newExc,newTuple];refine zy (wpAny_newObj_type ?_ (by size_fits));refine zy (m:=firstArgMember _ _) (wpAny_of_eq (a:=Value.none) (by first | rfl | (simp only[firstArgMember];rfl)) ?_)
 refine wpAny_newObj_type ?_ (by size_fits);simp only[raiseNew];refine zy (wpAny_handled ?_);first | rw[show A.in1.handled=none from hh] | rw[hh]
 refine zy (zq (wpAny_throw ?_));exact hE _ _ (((Heap.SameBut.update ..).extBut.push _).push _) ⟨_,zc _ rfl,rfl⟩
theorem draws_tup (hh:A.handled=none)(it t:Addr)(hne:t≠it)(items:Array Value):Draws prog w A it [it,t] items.size (fun i v=>items[i]?=some v) (fun i h=>IsTupIter h it t i/\IsTup h t items) where
 live:=fun _ _ st=>let ⟨o,ho,_⟩:=st.1;⟨o,ho⟩
 frame:=fun _ _ _ st hk=>⟨let ⟨o,ho,r⟩:=st.1;⟨o,hk it (by simp) _ ho,r⟩,let ⟨o,ho,r⟩:=st.2;⟨o,hk t (by simp) _ ho,r⟩⟩
 item:=fun i s Q E hi st hQ=>by
  refine nextOf_tuple_item st.1 st.2 (x:=items[i]) (by simp[hi]) fun h' hit' hs'=>?_;exact hQ _ h' s.toks (by simp[hi]) ⟨hit',let ⟨o,ho,r⟩:=st.2;⟨o,hs'.extBut t o hne ho,r⟩⟩ hs'
 done:=fun s Q E st hE=>nextOf_tuple_end hh st.1 st.2 (by simp) hE
end
section
variable {prog:Program}{w:World}{A:Around}{E:Value->Shared->Prop}{s:Shared}
theorem enum_endT {e it t:Addr}{i:Nat}{items:Array Value}{old:Value}{Q:Option Value->Shared->Prop}(hh:A.handled=none)(he:IsEnum s.heap e it i old)(hit:IsTupIter s.heap it t i)(ht:IsTup s.heap t items)(hx:items[i]?=none)
  (hQ:∀ h',Heap.ExtBut it s.heap h'->Q none { s with heap:=h' }):wpAny (model prog w) A (pyNext (.ref e)) Q E s:=by
 have hT:s.TypeIs (.ref e) "enumerate":=⟨_,he,rfl⟩;unfold pyNext;refine zy (wpAny_attempt (wpAny_callSpecial?_slot (name:=Str.ofString "__next__") hT F.slot_enumerate_next (wpAny_call_entry F.slot_enumerate_next hT F.entry_enumerate_next ?_ (F.args_enumerate_next_1 _))));show wpAny _ _ (field (.ref e) 2 >>= _) _ _ _;refine zy (wpAny_field he rfl (x:=.ref it) rfl ?_);refine zy (nextOf_tuple_end hh hit ht hx fun h' x he' hx'=>?_);obtain⟨o,ho,hc⟩:=hx';refine zy (wpAny_isInstance (T:="StopIteration") (b:=true) ⟨o,ho,hc⟩ isSubtype_stop ?_);exact zq (hQ _ he')
theorem meets_enum_newT (l:Addr)(items:Array Value)(n:Nat)(dct:Option Addr)(sl:Array (Option Value)) :
  Meets (Builtin.«enumerate.__new__» ⟨[.type "enumerate",.ref l],[]⟩) (fun _ R s=>s.heap.get? l=some { cls:=.type "tuple",dict:=dct,data:=.seq items n,slots:=sl } /\
   R (.ok (.ret (.ref (s.heap.push { cls:=.type "tuple_iterator",data:=.fields #[.ref l,.int 0 0] }).objs.size)))
    { s with heap:=(s.heap.push { cls:=.type "tuple_iterator",data:=.fields #[.ref l,.int 0 0] }).push { cls:=.type "enumerate",data:=.fields #[.none,.bool false,.ref s.heap.objs.size,rawInt 0,.none,.none] } }) :=
 .of_wp fun prog w A R s h=>by
  obtain⟨hp,g,d,tk,os⟩:=s;obtain⟨hl,h⟩:=h;have hsub:=sub_enumerate;have hL:IsTup (Shared.heap ⟨hp,g,d,tk,os⟩) l items:=⟨_,hl,rfl,n,rfl⟩;wp_walk using AutoSeq1.wpAny_loadPart' hl;refine wpAny_stack_any fun st=>zq ?_;split
  ·rename_i c _ _ _ _ _
   cases (c==Value.type "enumerate")
   ·wp_walk using AutoSeq1.wpAny_loadPart' hl,iter_tuple hL
    exact⟨_,rfl,h⟩
   ·wp_walk using AutoSeq1.wpAny_loadPart' hl,iter_tuple hL
    exact⟨_,rfl,h⟩
  ·wp_walk using AutoSeq1.wpAny_loadPart' hl,iter_tuple hL
   exact⟨_,rfl,h⟩
theorem call_enumerate_tup {l:Addr}{items:Array Value}{Q:Value->Shared->Prop}(hL:IsTup s.heap l items)
  (h:∀ h',IsEnum h' (s.heap.objs.size + 1) s.heap.objs.size 0 .none->IsTupIter h' s.heap.objs.size l 0->h'.objs.size=s.heap.objs.size + 2->(∀ b o,s.heap.get? b=some o->h'.get? b=some o)->Q (.ref (s.heap.objs.size + 1)) { s with heap:=h' }) :
  wpAny (model prog w) A (call (.type "enumerate") [.ref l]) Q E s:=by
 obtain⟨⟨c,dct,dt,sl⟩,hl,hc,n,hd⟩:=hL;replace hc:c=.type "tuple":=hc;replace hd:dt=.seq items n:=hd;subst hc hd;refine callType_new F.called_enumerate (by decide) (F.typeCall_enumerate_1 _) (F.newCall_enumerate_1 _) (fun obj=>F.args_object_init_2 obj _) F.entry_enumerate_new (meets_enum_newT l items n dct sl) ⟨hl,?_⟩;have hz:(s.heap.push { cls:=.type "tuple_iterator",data:=.fields #[.ref l,.int 0 0] }).objs.size=s.heap.objs.size + 1:=xq ..;show _/\_;rw[hz];have he:IsEnum ((s.heap.push { cls:=.type "tuple_iterator",data:=.fields #[.ref l,.int 0 0] }).push { cls:=.type "enumerate",data:=.fields #[.none,.bool false,.ref s.heap.objs.size,rawInt 0,.none,.none] }) (s.heap.objs.size + 1) s.heap.objs.size 0 .none:=by
  have:=zc (s.heap.push { cls:=.type "tuple_iterator",data:=.fields #[.ref l,.int 0 0] }) (o:={ cls:=.type "enumerate",data:=.fields #[.none,.bool false,.ref s.heap.objs.size,rawInt 0,.none,.none] }) rfl
  rw[hz]at this;exact this
 refine⟨⟨_,he,rfl⟩,h _ he ⟨_,zo _ (zc _ rfl),rfl,rfl⟩ (by rw[xq,hz]) fun b o x=>zo _ (zo _ x)⟩
end
noncomputable def IteT (K:PySem.W.Frag)(a:Addr):It :=
 ⟨fun i H=>∃ xs x,SqT K H a xs/\xs[i]?=some x,fun i H x H'=>∃ p v,x=.ref p/\H p=none/\H'=upd H p (.tup [.int i,v])/\∀ xs,SqT K H a xs->xs[i]?=some v,fun i H=>∃ xs,SqT K H a xs/\xs.length<=i⟩
theorem turn_enumT {P:Program}{w:World}{K:PySem.W.Frag}{es:List Expr}{x1:Nat}{pos:Pos}(a e it:Addr)(ne:e≠it):Turn P w K (.Tuple es x1 pos) (IteT K a) [e,it] e (fun i h=>(∃ old,IsEnum h e it i old)/\IsTupIter h it a i) where
 mem:=by simp
 obj:=fun i h st b hb=>by
  obtain⟨⟨old,he⟩,o,h1,c,d⟩:=st;rcases zG.mp hb with rfl | hb
  ·exact⟨_,he,fun v z=>by cases z⟩
  ·rw[zb.mp hb]
   exact⟨o,h1,fun v z=>by rw[d]at z;cases z⟩
 keep:=fun i h h' st k=>by
  obtain⟨⟨old,he⟩,o,ho,r⟩:=st;exact⟨⟨old,k e (by simp) _ he⟩,o,k it (by simp) _ ho,r⟩
 item:=by
  intro X hP hw hK hc i pins s σ H E I hf st hg;subst hP hw hK;obtain⟨⟨old,he⟩,hi⟩:=st;obtain⟨xs,x,hq,hx⟩:=hg;obtain⟨its,rv,p,hz⟩:=I.tuple hq;obtain⟨u,hu,ru⟩:=rv.get hx;have fe:=hf e (by simp);have fi:=hf it (by simp);obtain⟨oi,hoi,hci,_⟩:=id hi;obtain⟨op,hop,hcp,_⟩:=id p;have na:a≠it:=fun z=>by
   rw[z,hoi]at hop;cases hop;rw[hci]at hcp;exact absurd hcp (by decide)
  have nae:e≠a:=fun z=>by
   have he':s.heap.get? e=some _:=he;rw[z,hop]at he';cases he';exact absurd hcp (show ¬ (Value.type "enumerate" = Value.type "tuple") by decide)
  have hlt:i < its.toArray.size:=by rw[zl];exact(zp.mp hu).1
  refine wpAny_pyNext_enum_itemD (draws_tup (A:=X.A.in1) (I.ok.hd hc) it a na its.toArray) he ⟨hi,p⟩ hlt ne (by simp[ne,nae]) fun u' h1 tk hp ho hst ht hs1 hk=>?_;have eu:u'=u:=by
   have:its.toArray[i]?=some u:=by simpa using hu
   rw[this]at hp;cases hp;rfl
  subst eu;refine⟨_,rfl,wpAny_letOwnedTupleGo_enum (s:={ s with heap:=h1,toks:=tk + 1 }) ho fun h2 he2 sb=>?_⟩;have sb:Heap.SameBut e h1 h2:=sb;have lte:e < s.heap.objs.size:=zf he;have keep:∀ c o,c≠e->c≠it->s.heap.get? c=some o->h2.get? c=some o:=fun c o n1 n2 q=>(sb.2 c n1).trans (hk c o n1 n2 q);have I1:Inv X pins σ H { s with heap:=h2,toks:=tk + 1 }:=turned2 I keep fe fi;have fr:H s.heap.objs.size=none:=I.hok.fresh (zr _);have ht2:h2.get? s.heap.objs.size=some { cls:=.type "tuple",data:=.seq #[.int i tk,u'] }:=(sb.2 _ (yT lte)).trans ht;have y:Young X pins s.heap.objs.size:=young_of I (zr _);have I2:Inv X pins σ (upd H s.heap.objs.size (.tup [.int i,x])) { s with heap:=h2,toks:=tk + 1 } :=
   inv_adopt I1 fr y ⟨by show 2<=zj;decide,[.int i tk,u'],.cons ⟨_,rfl⟩ (.cons ru .nil),⟨⟨_,ht2,rfl,0,rfl⟩,fun o q=>by rw[ht2]at q;cases q;exact⟨rfl,rfl⟩⟩⟩
  refine⟨.ref s.heap.objs.size,_,I2,rfl,⟨_,x,rfl,fr,rfl,fun ys hy=>by rw[I.tuple_inj hy hq];exact hx⟩,⟨⟨u',?_⟩,?_⟩,fun b hb=>?_⟩
  ·have:((i + 1:Nat):Int)=(i:Int) + 1:=by first | lia | omega
   rw[this];exact he2
  ·exact hst.1.extBut sb.extBut (Ne.symm ne)
  ·have hbn:H b=none:=(hf b hb).1
   rcases zG.mp hb with rfl | hb
   ·rw[upd_ne (za lte)];exact hbn
   ·have eb:=zb.mp hb
    subst eb;rw[upd_ne (za (zf hoi))];exact hbn
 done:=by
  intro X hP hw hK hc i pins s σ H E I hf st hg;subst hP hw hK;obtain⟨⟨old,he⟩,hi⟩:=st;obtain⟨xs,hq,hx⟩:=hg;obtain⟨its,rv,p,hz⟩:=I.tuple hq;obtain⟨f0,f1,f2,f3,f4,f5⟩:=hf it (by simp);have hl:=rv.length;exact enum_endT (I.ok.hd hc) he hi p (by simp;omega) fun h' eb=>⟨rfl,I.turned (t':=s.toks) (fun b o hb e=>eb b o hb e) f0 f1 f3 f4 f5⟩
 self:=fun _ _ _ _ _ st h=>by
  obtain⟨⟨old,he⟩,hi⟩:=st;exact wpAny_pyIter_enum he h
noncomputable def iEnum (K:PySem.W.Frag)(ta:TA):TI:=fun σ H R=>ta σ H fun vs H1=>∃ a,vs=[.ref a]/\(((∃ xs,SqL K H1 a xs)/\R (Ite K a) H1)\/((∃ xs,SqT K H1 a xs)/\R (IteT K a) H1))
theorem pi_enum {X:Cx}{es:List Expr}{x1:Nat}{tp:Pos}{a:Expr}{ta:TA}{p pos:Pos}(hg:Gl X "enumerate")(hm:X.mg "enumerate" = none)(ha:PA X [a] ta)(hs:starEach [a] X.env=[(false,eval a X.env)]:=by rfl):PI X (.Tuple es x1 tp) (.Call (.Name "enumerate" p) [a] [] pos) (iEnum X.K ta):=by
 intro pins s σ H R I h;refine Call_ (ld_blt I hg hm boot_enumerate (PyProof.Rows.callWith_type1 (thn (ha pos pins s σ H _ I h) fun us s1 ⟨vs,H1,I1,r1,q1⟩=>?_) hs rfl));obtain⟨l,e,q⟩:=q1;subst e;cases r1 with
 | cons r rr =>
  cases rr;cases r;rcases q with ⟨⟨xs,hq⟩,q⟩|⟨⟨xs,hq⟩,q⟩
  rotate_left
  ·obtain⟨its,rv,pl,hz⟩:=I1.tuple hq
   refine call_enumerate_tup pl fun h' he hi hsz hk=>?_;have I2:Inv X pins σ H1 { s1 with heap:=h' }:=I1.kept (t':=s1.toks) hk;refine wpAny_pyIter_enum (s:={ s1 with heap:=h' }) he ?_;refine⟨s1.heap.objs.size + 1,[s1.heap.objs.size + 1,s1.heap.objs.size],_,_,H1,rfl,I2,turn_enumT l _ _ (wO _),⟨⟨_,he⟩,hi⟩,fun b hb=>?_,q⟩;rcases zG.mp hb with rfl | hb
   ·exact I1.fpOk (xw _) (I1.hok.fresh (xw _))
   ·rw[zb.mp hb]
    exact I1.fpOk (zr _) (I1.hok.fresh (zr _))
  obtain⟨its,rv,pl,hz⟩:=I1.list hq;refine call_enumerate_list pl.isList fun h' he hi hsz hk=>?_;have I2:Inv X pins σ H1 { s1 with heap:=h' }:=I1.kept (t':=s1.toks) hk;refine wpAny_pyIter_enum (s:={ s1 with heap:=h' }) he ?_;refine⟨s1.heap.objs.size + 1,[s1.heap.objs.size + 1,s1.heap.objs.size],_,_,H1,rfl,I2,turn_enum l _ _ (wO _),⟨⟨_,he⟩,hi⟩,fun b hb=>?_,q⟩;rcases zG.mp hb with rfl | hb
  ·exact I1.fpOk (xw _) (I1.hok.fresh (xw _))
  ·rw[zb.mp hb]
   exact I1.fpOk (zr _) (I1.hok.fresh (zr _))
noncomputable def ItOk2 (K:PySem.W.Frag)(ι:List Addr)(H:Hp)(src:Src)(J:It):Prop:=∀ (ι2:List Addr) (H2:Hp) (M2:MH),Ext K ι H ι2 H2->Sim K ι2 M2 H2->okM src.ck M2 ->
 (∀ (i:Nat) (d:D),src.ds[i]?=some d->J.go i H2/\∀ x H',J.yld i H2 x H'->Sim K ι2 M2 H'/\Ext K ι2 H2 ι2 H'/\Rep K ι2 H' d x)/\J.stop src.ds.length H2
noncomputable def LI2 (K:PySem.W.Frag)(f:Ev->Mo Src):TI:=fun σ H R=>∃ ι ρ M src M',Sim K ι M H/\EnvR K ι H ρ σ/\f ρ M=some (.ok src,M') /\
 ∀ J H' ι',Sim K ι' M' H'->Ext K ι H ι' H'->ItOk2 K ι' H' src J->R J H'
theorem LI2.to {K:PySem.W.Frag}{f:Ev->Mo Src}(σ:St)(H:Hp)(R:It->Hp->Prop)(h:LI2 K f σ H R):LI K f σ H R:=by
 obtain⟨ι,ρ,M,src,M',S,Rr,e,k⟩:=h;refine⟨ι,ρ,M,src,M',S,Rr,e,fun J H' ι' S' X' ok=>k J H' ι' S' X' fun ι2 H2 M2 x2 S2 hk=>?_⟩;obtain⟨h1,h2⟩:=ok ι2 H2 M2 x2 S2 hk;refine⟨fun i d hd=>?_,h2⟩;obtain⟨go,y⟩:=h1 i d hd;refine⟨go,fun x H'' hy=>?_⟩;obtain⟨rfl,r⟩:=y x H'' hy;exact⟨S2,Ext.refl,r⟩
theorem enum_get {ds:List D}{i:Nat}{d:D}(h:(enumD ds)[i]?=some d):∃ x,ds[i]?=some x/\d=.tup [.int i,x]:=by
 unfold enumD at h;rw[wz]at h;obtain⟨x,h1,h2⟩:=zu.mp h;exact⟨x,h1,h2.symm⟩
theorem enum_len {ds:List D}:(enumD ds).length=ds.length:=wa
theorem LI2.enum {K:PySem.W.Frag}{f:DE}(σ:St)(H:Hp)(R:It->Hp->Prop)(h:LI2 K (fun ρ=>do let x <- f ρ;enumS x) σ H R):iEnum K (tCons (LE K f) tNil) σ H R:=by
 obtain⟨ι,ρ,M,src,M',S,Rr,e,k⟩:=h;have e0:=bind_ok e;clear e;obtain⟨x,M1,e1,e⟩:=e0;refine⟨ι,ρ,M,x,M1,S,Rr,e1,fun v H1 ι1 r1 S1 X1=>?_⟩;have key:∀ {a:Addr} {xs:List V} {ds:List D} {ck:Option (Nat×List D)},SqL K H1 a xs->(∀ ι2 H2 M2,Ext K ι1 H1 ι2 H2->Sim K ι2 M2 H2->okM ck M2->∃ ys,SqL K H2 a ys/\Reps K ι2 H2 ds ys)->ItOk2 K ι1 H1 ⟨ck,enumD ds⟩ (Ite K a):=by
  intro a xs ds ck hq hr ι2 H2 M2 x2 S2 ok;obtain⟨ys,hy,r⟩:=hr ι2 H2 M2 x2 S2 ok;refine⟨fun i d hd=>?_,⟨ys,hy,by rw[enum_len,r.length];exact zr _⟩⟩;obtain⟨x,hx,rfl⟩:=enum_get hd;obtain⟨v,hv,rv⟩:=r.get hx;refine⟨⟨ys,v,hy,hv⟩,fun x' H' y=>?_⟩;obtain⟨p,v',rfl,hp,rfl,hz⟩:=y
  have:=hz ys hy
  rw[hv]at this;cases this;have X3:Ext K ι2 H2 ι2 (upd H2 p (.tup [.int i,v])):=Ext.tupN hp;exact⟨S2.tupN hp,X3,.tup upd_same (.cons (.int _) (.cons (rv.mono X3) .nil))⟩
 cases r1 with
 | fl t q =>
  have e0:=pure_ok e;clear e;obtain⟨rfl,rfl⟩:=e0;exact⟨_,rfl,.inl ⟨⟨_,t.seq⟩,k _ H1 ι1 S1 X1 (key t.seq fun ι2 H2 M2 x2 S2 _=>⟨_,(x2.fz _ _ t).seq,q.mono x2⟩)⟩⟩
 | tup t q =>
  have e0:=pure_ok e;clear e;obtain⟨rfl,rfl⟩:=e0;refine⟨_,rfl,.inr ⟨⟨_,sqt t⟩,k _ H1 ι1 S1 X1 fun ι2 H2 M2 x2 S2 _=>?_⟩⟩;have hy:=sqt (K:=K) (x2.tup _ _ t);have r:=q.mono x2;refine⟨fun i d hd=>?_,⟨_,hy,by rw[enum_len,r.length];exact zr _⟩⟩;obtain⟨x,hx,rfl⟩:=enum_get hd;obtain⟨v,hv,rv⟩:=r.get hx;refine⟨⟨_,v,hy,hv⟩,fun x' H' y=>?_⟩;obtain⟨p,v',rfl,hp,rfl,hz⟩:=y
  have:=hz _ hy
  rw[hv]at this;cases this;have X3:Ext K ι2 H2 ι2 (upd H2 p (.tup [.int i,v])):=Ext.tupN hp;exact⟨S2.tupN hp,X3,.tup upd_same (.cons (.int _) (.cons (rv.mono X3) .nil))⟩
 | ob t =>
  have e0:=bind_ok e;clear e;obtain⟨ds,M2,e2,e⟩:=e0;obtain⟨g,rfl⟩:=getL_ok e2;have e0:=pure_ok e;clear e;obtain⟨rfl,rfl⟩:=e0;obtain⟨a,vs,h1,h2,h3,h4⟩:=sim_list S1 (.ob t) g;cases h1;refine⟨_,rfl,.inl ⟨⟨_,SqL.of h3⟩,k _ H1 ι1 S1 X1 (key (SqL.of h3) fun ι2 H2 M2 x2 S2 ok=>?_)⟩⟩;have ok':M2[_]?=some (MO.lst ds):=ok;obtain⟨a2,vs2,g1,g2,g3,g4⟩:=sim_list S2 (.ob (x2.pre _ _ h2)) ok';cases g1;exact⟨_,SqL.of g3,g4⟩
 | _=>exact(stop_ok e).elim
theorem pairD_eq {d:D}{p:D×D}(h:pairD d=some p):d=.tup [p.1,p.2]:=by
 unfold pairD at h;split at h
 ·cases h;rfl
 ·cases h
theorem LS.lpair {K:PySem.W.Frag}{i j:Nat}{fs:Ev->Mo Src}{fb:Ev->Mo Fl}(D:Ends)(σ:St)(H:Hp)(h:LS K (fun ρ=>do let s <- fs ρ;loopP s.ck i j fb s.ds ρ) D σ H):tFor (LI2 K fs) (gTup K 2 (gCons (gName i) (gCons (gName j) gNil))) (LS K fb) D σ H:=by
 obtain⟨ι,ρ,M,fl,M',S,R,e,k⟩:=h;have e0:=bind_ok e;clear e;obtain⟨src,M1,e1,e⟩:=e0;refine⟨ι,ρ,M,src,M1,S,R,e1,fun J H1 ι1 S1 X1 hJ=>?_⟩;refine⟨fun n m σ' H'=>m=src.ds.length - n/\n<=src.ds.length/\∃ ι' ρ' M2,Sim K ι' M2 H'/\EnvR K ι' H' ρ' σ'/\Ext K ι1 H1 ι' H'/\loopP src.ck i j fb (src.ds.drop n) ρ' M2=some (.ok fl,M'),
  ⟨_,rfl,zI _,ι1,ρ,M1,S1,R.mono X1,Ext.refl,e⟩,?_⟩
 rintro n m σ' H' ⟨rfl,hj,ι',ρ',M2,S2,R2,X2,e2⟩;by_cases hlt:n < src.ds.length
 ·right
  rw[yo hlt]at e2;have e20:=bind_ok e2;clear e2;obtain⟨_,_,e3,e2⟩:=e20;have e30:=stand_ok e3;clear e3;obtain⟨ok,rfl⟩:=e30;have e20:=bind_ok e2;clear e2;obtain⟨pr,_,e3,e2⟩:=e20;have e30:=lift_ok e3;clear e3;obtain⟨hpr,rfl⟩:=e30;have e20:=bind_ok e2;clear e2;obtain⟨f,M3,e3,e2⟩:=e20;obtain⟨go,yld⟩:=(hJ ι' H' _ X2 S2 ok).1 n _ (zx hlt);refine⟨go,fun σ3 H3=>∃ ι3 ρ3 M4,Sim K ι3 M4 H3/\EnvR K ι3 H3 ρ3 σ3/\Ext K ι1 H1 ι3 H3/\loopP src.ck i j fb (src.ds.drop (n + 1)) ρ3 M4=some (.ok fl,M'),
   fun σ3 H3 ⟨ι3,ρ3,M4,h1,h2,h3,h4⟩=>⟨src.ds.length - (n + 1),by omega,rfl,hlt,ι3,ρ3,M4,h1,h2,h3,h4⟩,fun x H'' y=>?_⟩
  obtain⟨S5,X5,rx⟩:=yld x H'' y;rw[pairD_eq hpr]at rx;cases rx with
  | tup t q =>
   cases q with
   | cons q1 q2 =>
    cases q2 with
    | cons q2 q3 =>
     cases q3;refine⟨_,_,rfl,sqt t,rfl,_,_,rfl,_,_,rfl,rfl,?_⟩;refine⟨ι',_,_,f,M3,S5,((R2.mono X5).set q1 i).set q2 j,e3,fun H3 ι3 S3 X3=>?_⟩;have X6:=X2.trans (X5.trans X3);cases f with
     | nx ρ3=>exact fun σ3 R3=>⟨ι3,ρ3,M3,S3,R3,X6,e2⟩
     | ct ρ3=>exact fun σ3 R3=>⟨ι3,ρ3,M3,S3,R3,X6,e2⟩
     | bk ρ3 =>
      have e20:=pure_ok e2;clear e2;obtain⟨rfl,rfl⟩:=e20;exact fun σ3 R3=>k H3 ι3 S3 (X1.trans X6) σ3 R3
     | rt v =>
      have e20:=pure_ok e2;clear e2;obtain⟨rfl,rfl⟩:=e20;exact fun v' r'=>k H3 ι3 S3 (X1.trans X6) v' r'
 ·left
  have ej:n=src.ds.length:=by first | lia | omega
  subst ej;rw[yf]at e2;have e20:=bind_ok e2;clear e2;obtain⟨_,_,e3,e2⟩:=e20;have e30:=stand_ok e3;clear e3;obtain⟨ok,rfl⟩:=e30;have e20:=pure_ok e2;clear e2;obtain⟨rfl,rfl⟩:=e20;exact⟨(hJ ι' H' _ X2 S2 ok).2,k H' ι' S2 (X1.trans X2) σ' R2⟩
end L3
namespace L3
open PySem PySem.Spec PyProof.Rows L2
structure Sound (Γ:Ctx) (n:Nat):Prop where
 E:∀ (S:Sc) (X:Cx) (e:Expr) (i:IE),CxOk Γ S X->cE S n e=some i->PE X e (LE X.K (semE Γ i))
 Es:∀ (S:Sc) (X:Cx) (es:List Expr) (i:IEs),CxOk Γ S X->cEs S n es=some i->PA X es (LA X.K (semEs Γ i))/\es.all plainE=true
 O:∀ (S:Sc) (X:Cx) (e:Option Expr) (i:IEo),CxOk Γ S X->cO S n e=some i->PO X e (LO X.K (semO Γ i))
 T:∀ (S:Sc) (X:Cx) (tg e:Expr) (i:IT),CxOk Γ S X->cT S n e=some i->PI X tg e (LI X.K (semT Γ i))/\∀ x,foldedSetIterable e X.env x=pure x
 C:∀ (S:Sc) (X:Cx) (e:Expr) (i:IC),CxOk Γ S X->cC S n e=some i->PT X e (LT X.K (semC Γ i))
 Co:∀ (S:Sc) (X:Cx) (e:List Expr) (i:ICo),CxOk Γ S X->cCo S n e=some i->PTs X e (LT X.K (semCo Γ i))
section
variable {Γ:Ctx}{n:Nat}{K:PySem.W.Frag}
theorem obind {α β:Type}{o:Option α}{f:α->Option β}{b:β}(h:(o >>= f)=some b):∃ a,o=some a/\f a=some b:=by
 cases o with
 | none=>cases h
 | some a=>exact⟨a,rfl,h⟩
theorem varD_ok {ρ:Ev}{i:Nat}{M M':MH}{d:D}(e:varD ρ i M=some (.ok d,M')):ρ[i]?=some (some d)/\M'=M:=by
 unfold varD at e;cases q:ρ[i]? with
 | none=>rw[q]at e;exact(stop_ok e).elim
 | some o =>
  cases o with
  | none=>rw[q]at e;exact(stop_ok e).elim
  | some d'=>rw[q]at e;cases e;exact⟨rfl,rfl⟩
theorem LE.var {i:Nat}(σ:St)(H:Hp)(Q:VK)(h:LE K (semE Γ (.var i)) σ H Q):tVar i σ H Q:=by
 obtain⟨ι,ρ,M,d,M',S,R,e,k⟩:=h;have e:varD ρ i M=some (.ok d,M'):=e;obtain⟨hd,rfl⟩:=varD_ok e;obtain⟨v,hv,rv⟩:=R.val i d hd;exact⟨v,hv,k v H ι rv S Ext.refl⟩
theorem LE.const {d:D}{v:V}(hv:∀ ι H,Rep K ι H d v)(σ:St)(H:Hp)(Q:VK)(h:LE K (fun _=>pure d) σ H Q):tC v σ H Q:=by
 obtain⟨ι,ρ,M,d',M',S,R,e,k⟩:=h;have e0:=pure_ok e;clear e;obtain⟨rfl,rfl⟩:=e0;exact k v H ι (hv ι H) S Ext.refl
theorem LE.chain {op op':CmpOp}{fa fb fc:DE}(σ:St)(H:Hp)(Q:VK)(h:LE K (fun ρ=>do
  let x <- fa ρ
  let y <- fb ρ
  let k <- cmpD op x y
  if k=true then do let z <- fc ρ;let k' <- cmpD op' y z;pure (.bl k') else pure (.bl false)) σ H Q):tChain (R2S K (gCmp op)) (R2S K (gCmp op')) (LE K fa) (LE K fb) (LE K fc) σ H Q:=by
 obtain⟨ι,ρ,M,d,M',S,R,e,k⟩:=h;have e0:=bind_ok e;clear e;obtain⟨x,M1,e1,e⟩:=e0;have e0:=bind_ok e;clear e;obtain⟨y,M2,e2,e⟩:=e0;have e0:=bind_ok e;clear e;obtain⟨b,M3,e3,e⟩:=e0;refine⟨ι,ρ,M,x,M1,S,R,e1,fun v1 H1 ι1 r1 S1 X1=>?_⟩;refine⟨ι1,ρ,M1,y,M2,S1,R.mono X1,e2,fun v2 H2 ι2 r2 S2 X2=>?_⟩;refine⟨ι2,M2,M3,x,y,.bl b,S2,r1.mono X2,r2,by unfold gCmp;rw[ok_bind e3];rfl,fun v3 H3 ι3 r3 S3 X3=>?_⟩;cases r3;refine⟨b,rfl,?_⟩;cases b with
 | true =>
  rw[if_pos rfl]at e ⊢;have e0:=bind_ok e;clear e;obtain⟨z,M4,e4,e⟩:=e0;have e0:=bind_ok e;clear e;obtain⟨b',M5,e5,e⟩:=e0;refine⟨ι3,ρ,M3,z,M4,S3,((R.mono X1).mono X2).mono X3,e4,fun v4 H4 ι4 r4 S4 X4=>?_⟩;have e0:=pure_ok e;clear e;obtain⟨rfl,rfl⟩:=e0;exact⟨ι4,M4,_,y,z,.bl b',S4,(r2.mono X3).mono X4,r4,by unfold gCmp;rw[ok_bind e5];rfl,fun v5 H5 ι5 r5 S5 X5=>k v5 H5 ι5 r5 S5 ((((X1.trans X2).trans X3).trans X4).trans X5)⟩
 | false =>
  rw[if_neg zh]at e ⊢;have e0:=pure_ok e;clear e;obtain⟨rfl,rfl⟩:=e0;exact k _ H3 ι3 (.bl _) S3 ((X1.trans X2).trans X3)
theorem LE.and {fa fb:DE}(σ:St)(H:Hp)(Q:VK)(h:LE K (fun ρ=>do let x <- fa ρ;let k <- lift (boolD x);if k=true then fb ρ else pure (.bl false)) σ H Q):tAndV (LE K fa) (LE K fb) σ H Q:=by
 obtain⟨ι,ρ,M,d,M',S,R,e,k⟩:=h;have e0:=bind_ok e;clear e;obtain⟨x,M1,e1,e⟩:=e0;have e0:=bind_ok e;clear e;obtain⟨b,M2,e2,e⟩:=e0;have e20:=lift_ok e2;clear e2;obtain⟨hb,rfl⟩:=e20;refine⟨ι,ρ,M,x,_,S,R,e1,fun v1 H1 ι1 r1 S1 X1=>?_⟩;cases r1 <;> simp[boolD]at hb;subst hb;refine⟨_,rfl,?_⟩;split at e
 ·rename_i hb
  rw[if_pos hb];exact⟨ι1,ρ,_,d,M',S1,R.mono X1,e,fun v H' ι' r' S' X'=>k v H' ι' r' S' (X1.trans X')⟩
 ·rename_i hb
  rw[if_neg hb];have e0:=pure_ok e;clear e;obtain⟨rfl,rfl⟩:=e0;exact k _ H1 ι1 (.bl _) S1 X1
theorem LE.or {fa fb:DE}(σ:St)(H:Hp)(Q:VK)(h:LE K (fun ρ=>do let x <- fa ρ;let k <- lift (boolD x);if k=true then pure (.bl true) else fb ρ) σ H Q):tOrV (LE K fa) (LE K fb) σ H Q:=by
 obtain⟨ι,ρ,M,d,M',S,R,e,k⟩:=h;have e0:=bind_ok e;clear e;obtain⟨x,M1,e1,e⟩:=e0;have e0:=bind_ok e;clear e;obtain⟨b,M2,e2,e⟩:=e0;have e20:=lift_ok e2;clear e2;obtain⟨hb,rfl⟩:=e20;refine⟨ι,ρ,M,x,_,S,R,e1,fun v1 H1 ι1 r1 S1 X1=>?_⟩;cases r1 <;> simp[boolD]at hb;subst hb;refine⟨_,rfl,?_⟩;split at e
 ·rename_i hb
  rw[if_pos hb];have e0:=pure_ok e;clear e;obtain⟨rfl,rfl⟩:=e0;exact k _ H1 ι1 (.bl _) S1 X1
 ·rename_i hb
  rw[if_neg hb];exact⟨ι1,ρ,_,d,M',S1,R.mono X1,e,fun v H' ι' r' S' X'=>k v H' ι' r' S' (X1.trans X')⟩
theorem LE.not {fa:DE}(σ:St)(H:Hp)(Q:VK)(h:LE K (fun ρ=>do let x <- fa ρ;let k <- lift (boolD x);pure (.bl (!k))) σ H Q):tNotV (LE K fa) σ H Q:=by
 obtain⟨ι,ρ,M,d,M',S,R,e,k⟩:=h;have e0:=bind_ok e;clear e;obtain⟨x,M1,e1,e⟩:=e0;have e0:=bind_ok e;clear e;obtain⟨b,M2,e2,e⟩:=e0;have e20:=lift_ok e2;clear e2;obtain⟨hb,rfl⟩:=e20;have e0:=pure_ok e;clear e;obtain⟨rfl,rfl⟩:=e0;refine⟨ι,ρ,M,x,_,S,R,e1,fun v1 H1 ι1 r1 S1 X1=>?_⟩;cases r1 <;> simp[boolD]at hb;subst hb;exact⟨_,rfl,k _ H1 ι1 (.bl _) S1 X1⟩
theorem LE.ite {fc:Ev->Mo Bool}{fa fb:DE}(σ:St)(H:Hp)(Q:VK)(h:LE K (fun ρ=>do let k <- fc ρ;if k=true then fa ρ else fb ρ) σ H Q):tIf (LT K fc) (LE K fa) (LE K fb) σ H Q:=by
 obtain⟨ι,ρ,M,d,M',S,R,e,k⟩:=h;have e0:=bind_ok e;clear e;obtain⟨b,M1,e1,e⟩:=e0;refine⟨ι,ρ,M,b,M1,S,R,e1,fun H1 ι1 S1 X1=>?_⟩;split at e
 ·rename_i hb
  rw[if_pos hb];exact⟨ι1,ρ,_,d,M',S1,R.mono X1,e,fun v H' ι' r' S' X'=>k v H' ι' r' S' (X1.trans X')⟩
 ·rename_i hb
  rw[if_neg hb];exact⟨ι1,ρ,_,d,M',S1,R.mono X1,e,fun v H' ι' r' S' X'=>k v H' ι' r' S' (X1.trans X')⟩
theorem LE.tup {fa:Ev->Mo (List D)}(σ:St)(H:Hp)(Q:VK)(h:LE K (fun ρ=>do let xs <- fa ρ;need (xs.length<=zj);pure (.tup xs)) σ H Q):tTup (LA K fa) σ H Q:=by
 obtain⟨ι,ρ,M,d,M',S,R,e,k⟩:=h;have e0:=bind_ok e;clear e;obtain⟨xs,M1,e1,e⟩:=e0;have e0:=bind_ok e;clear e;obtain⟨_,_,e2,e⟩:=e0;have e20:=need_ok e2;clear e2;obtain⟨hn,rfl⟩:=e20;have e0:=pure_ok e;clear e;obtain⟨rfl,rfl⟩:=e0;refine⟨ι,ρ,M,xs,_,S,R,e1,fun vs H1 ι1 r1 S1 X1=>⟨by rw[<- r1.length];exact hn,new_tup S1 r1 fun v H' ι' r' S' X'=>k v H' ι' r' S' (X1.trans X')⟩⟩
theorem LE.lst {fa:Ev->Mo (List D)}(σ:St)(H:Hp)(Q:VK)(h:LE K (fun ρ=>do let xs <- fa ρ;need (xs.length<=zj);newM (.lst xs)) σ H Q):tLst (LA K fa) σ H Q:=by
 obtain⟨ι,ρ,M,d,M',S,R,e,k⟩:=h;have e0:=bind_ok e;clear e;obtain⟨xs,M1,e1,e⟩:=e0;have e0:=bind_ok e;clear e;obtain⟨_,_,e2,e⟩:=e0;have e20:=need_ok e2;clear e2;obtain⟨hn,rfl⟩:=e20;refine⟨ι,ρ,M,xs,_,S,R,e1,fun vs H1 ι1 r1 S1 X1=>⟨by rw[<- r1.length];exact hn,new_list S1 r1 e fun v H' ι' r' S' X'=>k v H' ι' r' S' (X1.trans X')⟩⟩
theorem LE.dic (σ:St)(H:Hp)(Q:VK)(h:LE K (fun _=>newM (.dic [])) σ H Q):tDNewK σ H Q:=by
 obtain⟨ι,ρ,M,d,M',S,R,e,k⟩:=h;intro p hp;have e0:=newM_ok e;clear e;obtain⟨rfl,rfl⟩:=e0;exact k _ _ (ι++[p]) (.ob (by rw[<- S.len,zC (zr _),yN];rfl)) (S.new hp ⟨[],rfl,.nil⟩) (Ext.new hp)
theorem LE.slc {fa:DE}{fl fh:Ev->Mo (Option Int)}(σ:St)(H:Hp)(Q:VK)(h:LE K (fun ρ=>do let x <- fa ρ;let l <- fl ρ;let h <- fh ρ;sliceD x l h) σ H Q):tSl (RSl K) (LE K fa) (LO K fl) (LO K fh) σ H Q:=by
 obtain⟨ι,ρ,M,d,M',S,R,e,k⟩:=h;have e0:=bind_ok e;clear e;obtain⟨x,M1,e1,e⟩:=e0;have e0:=bind_ok e;clear e;obtain⟨l,M2,e2,e⟩:=e0;have e0:=bind_ok e;clear e;obtain⟨r,M3,e3,e⟩:=e0;refine⟨ι,ρ,M,x,M1,S,R,e1,fun v1 H1 ι1 r1 S1 X1=>?_⟩;refine⟨ι1,ρ,M1,l,M2,S1,R.mono X1,e2,fun H2 ι2 S2 X2=>?_⟩;refine⟨ι2,ρ,M2,r,M3,S2,(R.mono X1).mono X2,e3,fun H3 ι3 S3 X3=>?_⟩;exact⟨ι3,M3,M',x,d,S3,(r1.mono X2).mono X3,e,fun v H' ι' r' S' X'=>k v H' ι' r' S' (((X1.trans X2).trans X3).trans X')⟩
theorem LE.call {fa:Ev->Mo (List D)}{g:List D->Mo D}{m:Nat}(σ:St)(H:Hp)(Q:VK)(hm:∀ ds M d M',g ds M=some (.ok d,M')->ds.length=m)(h:LE K (fun ρ=>do let xs <- fa ρ;g xs) σ H Q):tCall (spOf K m g) [] E0 (LA K fa) σ H Q:=by
 obtain⟨ι,ρ,M,d,M',S,R,e,k⟩:=h;have e0:=bind_ok e;clear e;obtain⟨xs,M1,e1,e⟩:=e0;refine⟨ι,ρ,M,xs,M1,S,R,e1,fun vs H1 ι1 r1 S1 X1=>?_⟩;show spOf K m g (vs++[]) H1 Q E0;rw[zO];exact⟨by rw[<- r1.length];exact hm _ _ _ _ e,ι1,M1,M',xs,d,S1,r1,e,fun v H' ι' r' S' X'=>k v H' ι' r' S' (X1.trans X')⟩
theorem LE.blt {fa:Ev->Mo (List D)}{g:List D->Mo D}(σ:St)(H:Hp)(Q:VK)(h:LE K (fun ρ=>do let xs <- fa ρ;g xs) σ H Q):tCB (RLS K g) (LA K fa) σ H Q:=by
 obtain⟨ι,ρ,M,d,M',S,R,e,k⟩:=h;have e0:=bind_ok e;clear e;obtain⟨xs,M1,e1,e⟩:=e0;refine⟨ι,ρ,M,xs,M1,S,R,e1,fun vs H1 ι1 r1 S1 X1=>?_⟩;exact⟨ι1,M1,M',xs,d,S1,r1,e,fun v H' ι' r' S' X'=>k v H' ι' r' S' (X1.trans X')⟩
theorem LA.nil (σ:St)(H:Hp)(Q:List V->Hp->Prop)(h:LA K (fun _=>pure []) σ H Q):tNil σ H Q:=by
 obtain⟨ι,ρ,M,d,M',S,R,e,k⟩:=h;have e0:=pure_ok e;clear e;obtain⟨rfl,rfl⟩:=e0;exact k [] H ι .nil S Ext.refl
theorem LA.cons {fa:DE}{fs:Ev->Mo (List D)}(σ:St)(H:Hp)(Q:List V->Hp->Prop)(h:LA K (fun ρ=>do let x <- fa ρ;let xs <- fs ρ;pure (x::xs)) σ H Q):tCons (LE K fa) (LA K fs) σ H Q:=by
 obtain⟨ι,ρ,M,d,M',S,R,e,k⟩:=h;have e0:=bind_ok e;clear e;obtain⟨x,M1,e1,e⟩:=e0;have e0:=bind_ok e;clear e;obtain⟨xs,M2,e2,e⟩:=e0;have e0:=pure_ok e;clear e;obtain⟨rfl,rfl⟩:=e0;refine⟨ι,ρ,M,x,M1,S,R,e1,fun v1 H1 ι1 r1 S1 X1=>?_⟩;exact⟨ι1,ρ,M1,xs,_,S1,R.mono X1,e2,fun vs H2 ι2 r2 S2 X2=>k _ H2 ι2 (.cons (r1.mono X2) r2) S2 (X1.trans X2)⟩
theorem LO.none (σ:St)(H:Hp)(Q:Option Int->Hp->Prop)(h:LO K (fun _=>pure Option.none) σ H Q):tNoPart σ H Q:=by
 obtain⟨ι,ρ,M,d,M',S,R,e,k⟩:=h;have e0:=pure_ok e;clear e;obtain⟨rfl,rfl⟩:=e0;exact k H ι S Ext.refl
theorem LO.some {fa:DE}(σ:St)(H:Hp)(Q:Option Int->Hp->Prop)(h:LO K (fun ρ=>do
  let x <- fa ρ
  (match x with
  | .int i=>pure (Option.some i)
  | _=>Mo.stop)) σ H Q):tPart (LE K fa) σ H Q:=by
 obtain⟨ι,ρ,M,d,M',S,R,e,k⟩:=h;have e0:=bind_ok e;clear e;obtain⟨x,M1,e1,e⟩:=e0;refine⟨ι,ρ,M,x,M1,S,R,e1,fun v1 H1 ι1 r1 S1 X1=>?_⟩;cases r1 with
 | int i=>have e0:=pure_ok e;clear e;obtain⟨rfl,rfl⟩:=e0;exact⟨i,rfl,k H1 ι1 S1 X1⟩
 | _=>exact(stop_ok e).elim
theorem LT.test {fa:DE}(σ:St)(H:Hp)(Q:Bool->Hp->Prop)(h:LT K (fun ρ=>do let x <- fa ρ;lift (boolD x)) σ H Q):tTest (LE K fa) σ H Q:=by
 obtain⟨ι,ρ,M,b,M',S,R,e,k⟩:=h;have e0:=bind_ok e;clear e;obtain⟨x,M1,e1,e⟩:=e0;have e0:=lift_ok e;clear e;obtain⟨hb,rfl⟩:=e0;refine⟨ι,ρ,M,x,_,S,R,e1,fun v1 H1 ι1 r1 S1 X1=>?_⟩;cases r1 <;> simp[boolD]at hb;subst hb;exact⟨_,rfl,k H1 ι1 S1 X1⟩
theorem LT.not {fa:Ev->Mo Bool}(σ:St)(H:Hp)(Q:Bool->Hp->Prop)(h:LT K (fun ρ=>do let k <- fa ρ;pure (!k)) σ H Q):tNot (LT K fa) σ H Q:=by
 obtain⟨ι,ρ,M,b,M',S,R,e,k⟩:=h;have e0:=bind_ok e;clear e;obtain⟨x,M1,e1,e⟩:=e0;have e0:=pure_ok e;clear e;obtain⟨rfl,rfl⟩:=e0;exact⟨ι,ρ,M,x,_,S,R,e1,fun H1 ι1 S1 X1=>k H1 ι1 S1 X1⟩
theorem LT.and {fa fb:Ev->Mo Bool}(σ:St)(H:Hp)(Q:Bool->Hp->Prop)(h:LT K (fun ρ=>do let k <- fa ρ;if k=true then fb ρ else pure false) σ H Q):tAnd (LT K fa) (LT K fb) σ H Q:=by
 obtain⟨ι,ρ,M,b,M',S,R,e,k⟩:=h;have e0:=bind_ok e;clear e;obtain⟨x,M1,e1,e⟩:=e0;refine⟨ι,ρ,M,x,M1,S,R,e1,fun H1 ι1 S1 X1=>?_⟩;split at e
 ·rename_i hb
  rw[if_pos hb];exact⟨ι1,ρ,_,b,M',S1,R.mono X1,e,fun H' ι' S' X'=>k H' ι' S' (X1.trans X')⟩
 ·rename_i hb
  rw[if_neg hb];have e0:=pure_ok e;clear e;obtain⟨rfl,rfl⟩:=e0;exact k H1 ι1 S1 X1
theorem LT.or {fa fb:Ev->Mo Bool}(σ:St)(H:Hp)(Q:Bool->Hp->Prop)(h:LT K (fun ρ=>do let k <- fa ρ;if k=true then pure true else fb ρ) σ H Q):tOr (LT K fa) (LT K fb) σ H Q:=by
 obtain⟨ι,ρ,M,b,M',S,R,e,k⟩:=h;have e0:=bind_ok e;clear e;obtain⟨x,M1,e1,e⟩:=e0;refine⟨ι,ρ,M,x,M1,S,R,e1,fun H1 ι1 S1 X1=>?_⟩;split at e
 ·rename_i hb
  rw[if_pos hb];have e0:=pure_ok e;clear e;obtain⟨rfl,rfl⟩:=e0;exact k H1 ι1 S1 X1
 ·rename_i hb
  rw[if_neg hb];exact⟨ι1,ρ,_,b,M',S1,R.mono X1,e,fun H' ι' S' X'=>k H' ι' S' (X1.trans X')⟩
theorem pt_tru {X:Cx}{a:Expr}{fa:DE}(ha:PE X a (LE X.K fa))(he:∀ whole,isTrue a X.env whole=(do let v <- whole;standAt a.pos;holding [v] (truthy v))):PT X a (LT X.K fun ρ=>do let x <- fa ρ;truD x):=by
 intro pins s σ H Q I h;obtain⟨ι,ρ,M,b,M',S,R,e,k⟩:=h;have e0:=bind_ok e;clear e;obtain⟨x,M1,e1,e⟩:=e0;refine isTrue_plain (thn (ha pins s σ H (fun v H1=>∃ ι M M' d b,Sim X.K ι M H1/\Rep X.K ι H1 d v/\truD d M=some (.ok b,M')/\(M'=M->Q b H1)) I ⟨ι,ρ,M,x,M1,S,R,e1,fun v1 H1 ι1 r1 S1 X1=>⟨ι1,M1,M',x,b,S1,r1,e,fun z=>by subst z;exact k H1 ι1 S1 X1⟩⟩) fun v s1 ⟨x,H1,I1,r1,q1⟩=>tru_all pins s1 σ H1 x v Q I1 r1 q1) (he _)
end
end L3
namespace L3
open PySem PySem.Spec PyProof.Rows L2
section
variable {Γ:Ctx}{n:Nat}
theorem mem_of_contains {x:Str}{l:List Str}(h:l.contains x=true):x∈l:=by simpa using h
noncomputable def clOf (cells:List (Str×Addr)):List (Str×NameKind)->List (Str×Addr)->List (Str×Addr)
 | [],acc=>acc
 | p::r,acc=>clOf cells r (if p.2==.free then (p.1,(cells.lookup p.1).getD 0)::acc else acc)
theorem clOf_look {cells:List (Str×Addr)}{y:Str}{c:Addr}:∀ {names:List (Str×NameKind)} {acc:List (Str×Addr)},(∀ p∈names,p.2=.free->∃ c,cells.lookup p.1=some c)->(acc.lookup y=some c->cells.lookup y=some c) ->
  (clOf cells names acc).lookup y=some c->cells.lookup y=some c
 | [],acc,_,ha,h=>ha h
 | p::r,acc,hf,ha,h=>by
  unfold clOf at h;refine clOf_look (names:=r) (fun q hq=>hf q (zF _ hq)) (fun h'=>?_) h;by_cases hp:p.2=.free
  ·rw[if_pos (by simpa using hp)]at h'
   obtain⟨c',hc'⟩:=hf p zJ hp;rw[hc',xN,yS]at h';by_cases hy:y=p.1
   ·subst hy
    simp at h';subst h';exact hc'
   ·have:(y==p.1)=false:=beq_eq_false_iff_ne.mpr hy
    rw[this]at h';exact ha h'
  ·rw[if_neg (by simpa using hp)]at h'
   exact ha h'
theorem clOf_acc {cells:List (Str×Addr)}{y:Str}:∀ {names:List (Str×NameKind)} {acc:List (Str×Addr)},(∃ c,acc.lookup y=some c)->∃ c,(clOf cells names acc).lookup y=some c
 | [],_,h=>h
 | p::r,acc,h=>by
  unfold clOf;refine clOf_acc (names:=r) ?_;split
  ·rw[yS]
   split
   ·exact⟨_,rfl⟩
   ·exact h
  ·exact h
theorem clOf_has {cells:List (Str×Addr)}{y:Str}:∀ {names:List (Str×NameKind)} {acc:List (Str×Addr)},(y,NameKind.free)∈names->∃ c,(clOf cells names acc).lookup y=some c
 | [],_,h=>by simp at h
 | p::r,acc,h=>by
  unfold clOf;rcases zG.mp h with h | h
  ·subst h
   refine clOf_acc ?_;rw[if_pos (by simp),yS];simp
  ·exact clOf_has h
theorem closureFor_eq {scope:Scope}{env:Env}(h:∀ p∈scope.names,p.2=.free->∃ c,env.cells.lookup p.1=some c):closureFor scope env=pure (clOf env.cells scope.names []):=by
 have gen:∀ (names:List (Str×NameKind)) (acc:List (Str×Addr)),(∀ p∈names,p.2=.free->∃ c,env.cells.lookup p.1=some c) ->
   (forIn names acc (fun (x:Str×NameKind) (r:List (Str×Addr))=>if (x.2==NameKind.free)=true then (cellOf env x.1 >>= fun a=>(pure (ForInStep.yield ((x.1,a)::r)):Sem (ForInStep (List (Str×Addr))))) else pure (ForInStep.yield r)):Sem (List (Str×Addr)))=pure (clOf env.cells names acc):=by
  intro names;induction names with
  | nil=>intro acc _;rfl
  | cons p r ih =>
   intro acc hf;rw[List.forIn_cons];obtain⟨name,kind⟩:=p;dsimp only;by_cases hk:kind=.free
   ·subst hk
    obtain⟨c,hc⟩:=hf (name,.free) zJ rfl;have e:cellOf env name=pure c:=by unfold cellOf;rw[hc]
    rw[if_pos (by rfl),e];simp only[pure_bind];rw[ih _ fun q hq=>hf q (zF _ hq)]
    conv=>rhs;unfold clOf
    dsimp only;rw[if_pos (by rfl),hc];rfl
   ·have hb:(kind==NameKind.free)=false:=by simpa using hk
    rw[if_neg (by rw[hb];exact zh)];simp only[pure_bind];rw[ih _ fun q hq=>hf q (zF _ hq)]
    conv=>rhs;unfold clOf
    dsimp only;rw[if_neg (by rw[hb];exact zh)]
 unfold closureFor;refine Eq.trans ?_ (gen scope.names [] h);exact bind_pure _
theorem compOk_sc {S:Sc}{X:Cx}{sc:Scope}{xs:List Str}(C:CxOk Γ S X)(hx:X.Ok)(h:compOk S sc xs=true):CompSc X sc (clOf X.env.cells sc.names []) xs (xs++blank S.N xs):=by
 unfold compOk at h;simp only[zk,yu,bne_iff_ne,ne_eq,beq_iff_eq,yU,decide_eq_true_eq]at h;obtain⟨⟨⟨⟨⟨⟨h1,h2⟩,h5⟩,h6⟩,h7⟩,h8⟩,h9⟩:=h;have hout:∀ y,sc.names.lookup y=some .free->X.env.kindOf y=some .cell\/X.env.kindOf y=some .free:=fun y hy=>by
  rcases h6 _ (lookup_mem hy) with z | z
  ·exact absurd rfl z
  ·have z':S.sc.names.lookup y=some .cell\/S.sc.names.lookup y=some .free:=z
   rcases z' with z | z
   ·obtain⟨k',q1,rfl | ⟨q2,_⟩⟩:=C.sc _ _ z
    ·exact .inl q1
    ·cases q2
   ·obtain⟨k',q1,rfl | ⟨_,rfl⟩⟩:=C.sc _ _ z
    ·exact .inr q1
    ·exact .inl q1
 have hfree:∀ p∈sc.names,p.2=.free->∃ c,X.env.cells.lookup p.1=some c:=fun p hp hf=>by
  refine hx.has p.1 (hout p.1 ?_);rw[(h7 p hp).1,hf]
 refine⟨h1,fun y hy=>(h5 y hy).1,fun x hx=>(h2 x hx).1.1,fun y hy hl=>by rw[(h7 y hy).1,hl],fun y hy=>?_,closureFor_eq hfree,fun y c=>clOf_look hfree (fun z=>by cases z),fun y hy=>clOf_has (lookup_mem hy),hout,h9,fun i y hy=>?_,fun i y hy=>?_,?_⟩
 ·rcases (h5 _ (lookup_mem hy)).2 with z | z
  ·exact absurd rfl z
  ·rcases z with z | z
   ·exact .inl (by simpa using z)
   ·exact .inr z
 ·rw[zd (zp.mp hy).1]
  exact hy
 ·have hy':(blank S.N xs)[i]?=some y:=by
   rw[zC (xV ..),wc]at hy;exact hy
  unfold blank at hy';rw[zv]at hy';cases q:S.N[i]? with
  | none=>rw[q]at hy';cases hy'
  | some z =>
   rw[q]at hy';simp only[xz,Option.some.injEq]at hy';by_cases hz:z∈xs
   ·rw[if_pos (by simpa using hz)]at hy'
    subst hy';refine⟨fun e=>(h2 _ e).2 rfl,by decide,.inr fun hv=>?_⟩;have nb:∀ k,sc.names.lookup ("" : Str)=some k->False:=fun k e=>(h7 _ (lookup_mem e)).2 rfl;rcases hv with e | e | e
    ·exact nb _ e
    ·exact nb _ e
    ·exact nb _ e
   ·rw[if_neg (by simpa using hz)]at hy'
    subst hy';exact⟨hz,h8 _ (zw q),.inl (by rw[C.n];exact q)⟩
 ·show (xs++blank S.N xs).length=X.N.length + xs.length
  unfold blank;rw[zt,zz,C.n,vf]
theorem comp_cx {S:Sc}{X:Cx}{sc:Scope}{x:List Str}(C:CxOk Γ S X)(h:compOk S sc x=true)(cl:List (Str×Addr))(Ca:Addr)(s:Shared)(H:Hp)(fp:List Addr):CxOk Γ (S.comp sc x) (cxComp X sc cl Ca (x++blank S.N x) s H fp) where
 n:=rfl
 sc:=fun y k hy=>by
  have e:(relabel sc X.env).names.lookup y=(sc.names.lookup y).map fun k=>if (k==NameKind.free&&X.env.scope.kind==.function&&X.env.kindOf y==some .cell) then NameKind.cell else k:=kind_relabel;have hy':sc.names.lookup y=some k:=hy;rw[hy']at e;refine⟨_,e,?_⟩;dsimp only;split
  ·rename_i hc
   simp only[zk,beq_iff_eq]at hc;exact .inr ⟨hc.1.1,rfl⟩
  ·exact .inl rfl
 calm:=C.calm
 hu:=C.hu
 nox:=rfl
 fns:=C.fns
 gls:=C.gls
 bls:=C.bls
 nd:=by
  unfold compOk at h;simp only[zk,decide_eq_true_eq]at h;exact h.2
theorem pg_own {X:Cx}{sc:Scope}{cl:List (Str×Addr)}{xs N':List Str}(CS:CompSc X sc cl xs N'){i:Nat}{x:Str}{px:Pos}(h:xs[i]?=some x)(Ca:Addr)(s:Shared)(H:Hp)(fp:List Addr):PG (cxComp X sc cl Ca N' s H fp) (.Name x px) (gName i) :=
 pg_name CS.nd (CS.n0 i x h) (.inl (lookup_relabel_local (CS.loc x (zw h)))) (.inr (lookup_relabel_local (CS.loc x (zw h))))
theorem pe_compS {S:Sc}{X:Cx}{sc:Scope}{x:Str}{px pos:Pos}{elt iter:Expr}{ifs:List Expr}{j:Nat}{fs:Ev->Mo Src}{fc:Ev->Mo Bool}{fe:DE}(C:CxOk Γ S X)(h:compOk S sc [x]=true)(hi:PI X (.Name x px) iter (LI X.K fs))(hs:∀ x,foldedSetIterable iter X.env x=pure x)
  (htc:∀ X',CxOk Γ (S.comp sc [x]) X'->X'.K=X.K->PTs X' ifs (LT X'.K fc)) (hte:∀ X',CxOk Γ (S.comp sc [x]) X'->X'.K=X.K->PE X' elt (LE X'.K fe)) :
  PE X (.ListComp elt [⟨.Name x px,iter,ifs,0⟩] sc pos) (LE X.K (fun ρ=>do
   let s <- fs ρ
   need (s.ds.length<=zj)
   let ys <- compD s.ck fc fe (ρ.set j none) s.ds
   newM (.lst ys))):=by
 intro pins s σ H Q I q;have CS:=compOk_sc C I.ok h;exact pe_comp C.calm CS (fun _ _ _ _=>pg_own CS rfl _ _ _ _) hi (fun Ca s H fp=>htc _ (comp_cx C h _ Ca s H fp) rfl) (fun Ca s H fp=>hte _ (comp_cx C h _ Ca s H fp) rfl) hs pins s σ H Q I (LE.comp σ H Q q)
theorem bl_boot {x:Str}{m:Nat}{b:Bl}(h:blOf x m=some b):bootBuiltins x=some (blVal b)/\∃ y:String,x=Str.ofString y:=by
 unfold blOf at h;have key:∀ (y:String) (k:Nat),(x==(Str.ofString y)&&m==k)=true->x=Str.ofString y:=fun y k e=>by
  simp only[zk,beq_iff_eq]at e;exact e.1
 split at h
 ·rename_i e;cases h;rw[key _ _ e];exact⟨by decide +kernel,_,rfl⟩
 split at h
 ·rename_i e;cases h;rw[key _ _ e];exact⟨by decide +kernel,_,rfl⟩
 split at h
 ·rename_i e;cases h;rw[key _ _ e];exact⟨by decide +kernel,_,rfl⟩
 split at h
 ·rename_i e;cases h;rw[key _ _ e];exact⟨by decide +kernel,_,rfl⟩
 split at h
 ·rename_i e;cases h;rw[key _ _ e];exact⟨by decide +kernel,_,rfl⟩
 split at h
 ·rename_i e;cases h;rw[key _ _ e];exact⟨by decide +kernel,_,rfl⟩
 split at h
 ·rename_i e;cases h;rw[key _ _ e];exact⟨by decide +kernel,_,rfl⟩
 split at h
 ·rename_i e;cases h;rw[key _ _ e];exact⟨by decide +kernel,_,rfl⟩
 split at h
 ·rename_i e;cases h;rw[key _ _ e];exact⟨by decide +kernel,_,rfl⟩
 split at h
 ·rename_i e;cases h;rw[key _ _ e];exact⟨by decide +kernel,_,rfl⟩
 split at h
 ·rename_i e;cases h;rw[key _ _ e];exact⟨by decide +kernel,_,rfl⟩
 ·cases h
theorem plainIx_of {b:Expr}(h:ixE b=true):PlainIx b:=by
 intro o i;cases b <;> first
  | rfl
  | exact absurd h zh
end
end L3
namespace L3
open PySem PySem.Spec PyProof.Rows L2
section
variable {X:Cx}
noncomputable def m0Id:M0->String
 | .clear=>"list.clear" | .pop=>"list.pop" | .reverse=>"list.reverse"
noncomputable def rM0 (m:M0):V->List V->Hp->VK->Prop:=fun x vs H Q=>∃ l xs y ys,x=.ref l/\vs=[]/\H l=some (.lst xs)/\m0G .non m xs=some (y,ys)/\Q y (upd H l (.lst ys))
theorem mt_m0 (m:M0):MtR X (m0Id m) (rM0 m):=by
 intro pins s σ H x vs v us Q I rx rv h;obtain⟨l,xs,y,ys,rfl,rfl,hH,hm,q⟩:=h;cases rx;cases rv;obtain⟨z,its,n,r,hl,e⟩:=I.lstM hH;cases m with
 | clear =>
  cases hm;refine call_meets F.slot_list_clear ⟨_,e,rfl⟩ F.entry_list_clear (F.args_list_clear_1 _) (AutoSeq1.list_clear_list_0 l its.toArray n (by rw[zl,<- hl];exact z)) ⟨e,?_⟩;exact⟨.non,_,I.lset (its':=[]) hH e rfl .nil (zI _),rfl,q⟩
 | reverse =>
  cases hm;refine call_meets F.slot_list_reverse ⟨_,e,rfl⟩ F.entry_list_reverse (F.args_list_reverse_1 _) (AutoSeq1.list_reverse_list_0 l its.toArray n (by rw[zl,<- hl];exact z)) ⟨e,?_⟩;refine⟨.non,_,I.lset (its':=its.reverse) hH e (by simp) r.reverse ?_,rfl,q⟩;rw[yQ];exact z
 | pop =>
  obtain⟨y',hy,e'⟩:=zu.mp hm;cases e';obtain⟨u,hu,ru⟩:=r.get hy;have hy':its.toArray[its.toArray.size - 1]?=some u:=by
   show its.toArray[its.length - 1]?=some u;rw[<- yI,<- hl];exact hu
  refine call_meets F.slot_list_pop ⟨_,e,rfl⟩ F.entry_list_pop (F.args_list_pop_1 _) (MeetsSeq.list_pop_last l its.toArray n u hy' (by rw[zl,<- hl];exact z)) ⟨e,?_⟩;refine⟨y,_,I.lset (its':=its.dropLast) hH e ?_ r.dropLast ?_,ru,q⟩
  ·show its.toArray.eraseIdxIfInBounds (its.toArray.size - 1)=its.dropLast.toArray
   rw[zl,List.eraseIdxIfInBounds_toArray,erase_last]
  ·rw[wx]
   exact zK (Nat.sub_le _ _) z
noncomputable def m0Name:M0->Str
 | .clear=>"clear" | .pop=>"pop" | .reverse=>"reverse"
theorem m0_name {m:Str}{k:M0}(h:m0Of m=some k):m=m0Name k:=by
 unfold m0Of at h;split at h
 ·rename_i e;cases h;exact beq_iff_eq.mp e
 split at h
 ·rename_i e;cases h;exact beq_iff_eq.mp e
 split at h
 ·rename_i e;cases h;exact beq_iff_eq.mp e
 ·cases h
theorem m0_fact (k:M0):Slot "list" (m0Name k) (m0Id k)/\typeOf (.builtin (m0Id k))=pure (.type "method_descriptor"):=by
 cases k
 ·exact⟨PySem.F.slot_list_clear,PySem.F.type_list_clear⟩
 ·exact⟨PySem.F.slot_list_pop,PySem.F.type_list_pop⟩
 ·exact⟨PySem.F.slot_list_reverse,PySem.F.type_list_reverse⟩
theorem m0_rev {K:PySem.W.Frag}{ι:List Addr}{H:Hp}:∀ {ds:List D} {vs:List V},Reps K ι H ds vs->Reps K ι H ds.reverse vs.reverse
 | _,_,.nil=>.nil
 | _,_,.cons r t=>by
  rw[xu,xu];exact(m0_rev t).append (.cons r .nil)
theorem m0_drop {K:PySem.W.Frag}{ι:List Addr}{H:Hp}:∀ {ds:List D} {vs:List V},Reps K ι H ds vs->Reps K ι H ds.dropLast vs.dropLast
 | _,_,.nil=>.nil
 | _,_,.cons _ .nil=>.nil
 | _,_,.cons r (.cons r2 t)=>.cons r (m0_drop (.cons r2 t))
theorem m0_reps {K:PySem.W.Frag}{ι:List Addr}{H:Hp}{m:M0}{ds es:List D}{vs:List V}{d:D}(r:Reps K ι H ds vs)(e:m0G .non m ds=some (d,es)):∃ v ws,m0G .non m vs=some (v,ws)/\Rep K ι H d v/\Reps K ι H es ws:=by
 cases m with
 | clear=>cases e;exact⟨_,_,rfl,.non,.nil⟩
 | reverse=>cases e;exact⟨_,_,rfl,.non,m0_rev r⟩
 | pop =>
  obtain⟨y,hy,e'⟩:=zu.mp e;cases e';obtain⟨v,hv,rv⟩:=r.get hy;rw[r.length]at hv;exact⟨v,_,by show (vs[vs.length - 1]?).map _=_;rw[hv];rfl,rv,m0_drop r⟩
theorem clr_sound {o:Expr}{m:Str}{k0:M0}{p2 p3:Pos}{fo:DE}(h:m0Of m=some k0)(hp:(p2.endLine==p3.line)=true)(ho:PE X o (LE X.K fo))(hb:∀ a w',attributeBase o a X.env w'=w') :
  PE X (.Call (.Attribute o m p2) [] [] p3) (LE X.K (fun ρ=>do let x <- fo ρ;clearO k0 x)):=by
 have hn:=m0_name h;subst hn;obtain⟨f1,f2⟩:=m0_fact k0;refine PE.imp (pe_bm0 (X:=X) (apos:=p2) (cpos:=p3) PySem.F.plainAttrs_list f1 f2 (mt_m0 k0) ho (hb _ _) (by simpa using hp)) fun σ H Q q=>?_;obtain⟨ι,ρ,M,d,M',S',R,e,k⟩:=q;obtain⟨x,M1,e1,e⟩:=bind_ok e;refine⟨ι,ρ,M,x,M1,S',R,e1,fun v1 H1 ι1 r1 S1 X1=>?_⟩;cases r1 with
 | ob t =>
  obtain⟨ds,M2,e2,ea⟩:=bind_ok e;obtain⟨g,rfl⟩:=getL_ok e2;obtain⟨⟨d',es⟩,M3,e3,eb⟩:=bind_ok ea;obtain⟨hm,rfl⟩:=lift_ok e3;obtain⟨_,M4,e4,ec⟩:=bind_ok eb;obtain⟨rfl,rfl⟩:=pure_ok ec;obtain⟨p,ws,h1,hi,h3,h4⟩:=sim_list S1 (.ob t) g;cases h1;obtain⟨v,ws',g1,g2,g3⟩:=m0_reps h4 hm;obtain⟨S2,X2⟩:=put_list (ds:=ds) S1 hi h3 g3 e4;exact⟨.inl ⟨rfl,_,SqL.of h3⟩,_,ws,v,ws',rfl,rfl,h3,g1,k _ _ _ (g2.mono X2) S2 (X1.trans X2)⟩
 | _=>exact(stop_ok e).elim
end
end L3
namespace L3
open PySem PySem.Spec PyProof.Rows L2
section
variable {X:Cx}
theorem call_intB:CallR X (.type "int") (fun xs H Q=>∃ b:Bool,xs=[.bl b]/\Q (.int (if b then 1 else 0)) H):=by
 intro pins s σ H xs us Q I rv h;obtain⟨b,rfl,q⟩:=h;obtain⟨u,rfl,ru⟩:=vals1 rv;cases ru;exact call_int_bool ⟨.int (if b then 1 else 0),H,I.tok _,⟨_,rfl⟩,q⟩
theorem int_sound {Γ:Ctx}{S:Sc}{f:Str}{a:Expr}{p1 p4:Pos}{fa:DE}(C:CxOk Γ S X)(h:(f==("int" : Str)&&okName f&&S.glo f&&S.bls.contains f)=true)(hp:plainE a=true)(ha:PE X a (LE X.K fa)) :
  PE X (.Call (.Name f p1) [a] [] p4) (LE X.K (fun ρ=>do let x <- fa ρ;let b <- lift (boolD x);pure (.int (if b then 1 else 0)))):=by
 simp only[zk,beq_iff_eq]at h;obtain⟨⟨⟨h1,h2⟩,h3⟩,h4⟩:=h;subst h1;obtain⟨o1,o2,o3⟩:=okName_debug h2;refine PE.imp (pe_callTy call_intB (C.glo h3) (C.bls _ (mem_of_contains h4)) PyProof.Rows.boot_int (pa_cons ha pa_nil (star_plain hp)) o3 o1 (star_plain hp) rfl) fun σ H Q q=>?_;obtain⟨ι,ρ,M,d,M',S',R,e,k⟩:=q;obtain⟨x,M1,e1,ea⟩:=bind_ok e;obtain⟨b,M2,e2,eb⟩:=bind_ok ea;obtain⟨hb,rfl⟩:=lift_ok e2;obtain⟨rfl,rfl⟩:=pure_ok eb;refine⟨ι,ρ,M,x,_,S',R,e1,fun v1 H1 ι1 r1 S1 X1=>?_⟩;cases r1 with
 | bl c=>cases hb;exact⟨_,rfl,k _ H1 ι1 (.int _) S1 X1⟩
 | _=>cases hb
end
end L3
namespace L3
open PySem PySem.Spec PyProof.Rows L2
section
variable {X:Cx}
theorem key_relV {prog:Program}{w:World}{k:Key}{v:Value}(h:(mixKind prog w).is k v=true):RelV (kV k) v:=by
 rcases keyIs_shape (show keyIs k v=true from h) with ⟨i,t,rfl,rfl⟩|⟨x,t,rfl,rfl⟩
 ·exact⟨_,rfl⟩
 ·exact⟨_,rfl⟩
theorem vals_keys {prog:Program}{w:World}:∀ {vs:List Value} {rs:List (Key×Value)},vs.length=rs.length->(∀ (j:Nat) (v:Value),vs[j]?=some v->∃ k x,rs[j]?=some (k,x)/\(mixKind prog w).is k v=true)->Vals (rs.map fun p=>kV p.1) vs
 | [],[],_,_=>.nil
 | v::vs,r::rs,hl,h=>by
  obtain⟨k,x,e,hk⟩:=h 0 v rfl;cases e;exact .cons (key_relV hk) (vals_keys (by simpa using hl) fun j v' e'=>by simpa using h (j + 1) v' (by simpa using e'))
 | [],_::_,hl,_=>by cases hl
 | _::_,[],hl,_=>by cases hl
theorem rep_dK {K:PySem.W.Frag}{ι:List Addr}{H:Hp}(k:Ky):Rep K ι H (dK k) (kV k):=by
 cases k with
 | inl i=>exact .int i
 | inr x=>exact .str x
theorem reps_keysK {K:PySem.W.Frag}{ι:List Addr}{H H2:Hp}:∀ {kvs:List (Ky×D)} {ws:List (Key×V)} {rs:List (Key×Value)},KR K ι H kvs ws->KV ws rs->Reps K ι H2 (kvs.map fun kv=>dK kv.1) (rs.map fun p=>kV p.1)
 | _,_,_,.nil,.nil=>.nil
 | _,_,_,.cons r t,.cons g g'=>.cons (by dsimp only;rw[r.1,g.1];exact rep_dK _) (reps_keysK t g')
theorem call_listK (hc:X.calm=true):CallR X (.type "list") (fun xs H Q=>∃ a ws ι M kvs,xs=[.ref a]/\H a=some (.dK ws)/\Sim X.K ι M H/\KR X.K ι H kvs ws /\
  ∀ v H' ι',Rep X.K ι' H' (.ob M.length) v->Sim X.K ι' (M++[.lst (kvs.map fun kv=>dK kv.1)]) H'->Ext X.K ι H ι' H'->Q v H'):=by
 intro pins s σ H xs us Q I rv h;obtain⟨a,ws,ι,M,kvs,rfl,ha,S,kr,k⟩:=h;obtain⟨u,rfl,ru⟩:=vals1 rv;cases ru;obtain⟨z,hd,rs,rel,dd⟩:=dk_rd I.hok (.inl ha);obtain⟨ep,hat⟩:=dd.dictAt;have lr:rs.length<=zj:=by rw[<- rel.length];exact z
 refine PySem.W.kdl_call (PySem.W.kdl_dict (knd:=mixKind X.prog X.w) (kvs:=rs) (ep:=ep) hd) (I.ok.hd hc) hat lr fun h' tk acc c kk hob hacc=>?_;have g4:Vals (rs.map fun p=>kV p.1) acc.toList:=vals_keys (prog:=X.prog) (w:=X.w) (by rw[zT,hacc.1]) fun j v e=>by
  rw[yI]at e;exact hacc.2 j v e
 have fr:H s.heap.objs.size=none:=I.hok.fresh (zr _);have hz:(rs.map fun p=>kV p.1).length<=zj:=by rw[zz];exact lr
 have I3:Inv X pins σ (upd H s.heap.objs.size (.lst (rs.map fun p=>kV p.1))) { s with heap:=h',toks:=tk } :=
  I.laid (t':=tk) kk (zr _) ⟨hz,acc.toList,c,g4,by rw[hob]⟩
 have X4:Ext X.K ι H (ι++[s.heap.objs.size]) (upd H s.heap.objs.size (.lst (rs.map fun p=>kV p.1))):=Ext.new fr;exact⟨.ref s.heap.objs.size,_,I3,rfl,k _ _ _ (.ob (by rw[<- S.len,zC (zr _),yN];rfl)) (S.new fr ⟨_,rfl,reps_keysK (KR.mono X4 kr) rel⟩) X4⟩
theorem lsk_sound {Γ:Ctx}{S:Sc}{f:Str}{a:Expr}{p1 p4:Pos}{fa:DE}(C:CxOk Γ S X)(h:(f==("list" : Str)&&okName f&&S.glo f&&S.bls.contains f)=true)(hp:plainE a=true)(ha:PE X a (LE X.K fa)) :
  PE X (.Call (.Name f p1) [a] [] p4) (LE X.K (fun ρ=>do let x <- fa ρ;keysL x)):=by
 simp only[zk,beq_iff_eq]at h;obtain⟨⟨⟨h1,h2⟩,h3⟩,h4⟩:=h;subst h1;obtain⟨o1,o2,o3⟩:=okName_debug h2;refine PE.imp (pe_callTy (call_listK C.calm) (C.glo h3) (C.bls _ (mem_of_contains h4)) PyProof.Rows.boot_list (pa_cons ha pa_nil (star_plain hp)) o3 o1 (star_plain hp) rfl) fun σ H Q q=>?_;obtain⟨ι,ρ,M,d,M',S',R,e,k⟩:=q;obtain⟨x,M1,e1,e⟩:=bind_ok e;refine⟨ι,ρ,M,x,M1,S',R,e1,fun v1 H1 ι1 r1 S1 X1=>?_⟩;cases r1 with
 | ob t =>
  obtain⟨kvs,M2,e2,ea⟩:=bind_ok e;obtain⟨g,rfl⟩:=getD_ok e2;obtain⟨rfl,rfl⟩:=newM_ok ea;obtain⟨a',ws,g1,g2,g3,g4⟩:=sim_dict S1 (.ob t) g;cases g1;exact⟨_,ws,ι1,_,kvs,rfl,g3,S1,g4,fun v H' ι' r' S'' X'=>k v H' ι' r' S'' (X1.trans X')⟩
 | _=>exact(stop_ok e).elim
end
end L3
namespace L3
open PySem PySem.Spec PyProof.Rows L2
section
variable {Γ:Ctx}{n:Nat}
noncomputable def SrtI (_:Ctx):Prop:=True
noncomputable def SrtL (Γ:Ctx):Prop:=∀ (S:Sc) (X:Cx) (f:Str) (a:Expr) (p1 p4:Pos) (fa:DE),CxOk Γ S X->(f==("sorted" : Str)&&okName f&&S.glo f&&S.bls.contains f)=true->plainE a=true->PE X a (LE X.K fa) ->
 PE X (.Call (.Name f p1) [a] [] p4) (LE X.K (fun ρ=>do let x <- fa ρ;let ds <- lstD x;let ys <- lift (Γ.srt ds);newM (.lst ys)))
noncomputable def SrtS (Γ:Ctx):Prop:=∀ (S:Sc) (X:Cx) (f:Str) (b:Expr) (p1 p2 p3 p4:Pos) (fb:DE),CxOk Γ S X->(f==("sorted" : Str)&&okName f&&S.glo f&&S.bls.contains f&&(S.glo ("set" : Str)&&S.bls.contains ("set" : Str)))=true->plainE b=true->PE X b (LE X.K fb) ->
 PE X (.Call (.Name f p1) [.Call (.Name "set" p2) [b] [] p3] [] p4) (LE X.K (fun ρ=>do let x <- fb ρ;setS x))
noncomputable def SrtD (Γ:Ctx):Prop:=∀ (S:Sc) (X:Cx) (f:Str) (a:Expr) (p1 p4:Pos) (fa:DE),CxOk Γ S X->(f==("sorted" : Str)&&okName f&&S.glo f&&S.bls.contains f)=true->plainE a=true->PE X a (LE X.K fa) ->
 PE X (.Call (.Name f p1) [a] [] p4) (LE X.K (fun ρ=>do let x <- fa ρ;keyS x))
noncomputable def SrtT (_:Ctx):Prop:=True
noncomputable def SrtOk (Γ:Ctx):Prop:=SrtI Γ/\SrtL Γ/\SrtS Γ/\SrtD Γ/\SrtT Γ
theorem base_of {o:Expr}{a:Str}{env:Env}{w':Sem Value}(h:bsE o=true):attributeBase o a env w'=w':=by
 cases o <;> first
  | rfl
  | exact absurd h zh
  | (rename_i f as ks p
     cases as with
     | nil=>exact absurd h zh
     | cons e es=>cases f <;> first | rfl | (cases ks <;> rfl))
theorem LE.neg {K:PySem.W.Frag}{fa:DE}(σ:St)(H:Hp)(Q:VK)(h:LE K (fun ρ=>do
  let x <- fa ρ
  (match x with
  | .int i=>pure (.int (-i))
  | _=>Mo.stop)) σ H Q):tUn (rU fun i=>.int (-i)) (LE K fa) σ H Q:=by
 obtain⟨ι,ρ,M,d,M',S,R,e,k⟩:=h;have e0:=bind_ok e;clear e;obtain⟨x,M1,e1,e⟩:=e0;refine⟨ι,ρ,M,x,M1,S,R,e1,fun v H1 ι1 r1 S1 X1=>?_⟩;cases r1 with
 | int i=>have e0:=pure_ok e;clear e;obtain⟨rfl,rfl⟩:=e0;exact⟨i,rfl,k _ H1 ι1 (.int _) S1 X1⟩
 | _=>exact(stop_ok e).elim
theorem not_any {α:Type}{l:List (Bool×α)}(h:l.any (·.1)=false):l.all (fun x=>!x.1)=true:=by
 rw[yu];intro x hx
 have:=yO.mp h x hx
 simpa using this
theorem isi_sound {S:Sc}{X:Cx}{f t:Str}{k:Ty}{a:Expr}{p1 p2 p3:Pos}{fa:DE}(C:CxOk Γ S X)(hs:isiOk S f t=true)(hk:tyOf t=some k)(ha:PE X a (LE X.K fa))(hp:plainE a=true) :
  PE X (.Call (.Name f p1) [a,.Name t p2] [] p3) (LE X.K (fun ρ=>do let x <- fa ρ;let b <- tyD k x;pure (.bl b))):=by
 unfold isiOk at hs;simp only[zk,beq_iff_eq]at hs;obtain⟨⟨⟨⟨⟨⟨h1,h2⟩,h3⟩,h4⟩,h5⟩,h6⟩,h7⟩:=hs;subst h1;obtain⟨o1,o2,o3⟩:=okName_debug h2;obtain⟨q1,q2,q3⟩:=okName_debug h5;have pt:PE X (.Name t p2) (tC (.ty (tyName k))):=pe_bltn (C.glo h6) (C.bls _ (mem_of_contains h7)) (ty_boot hk) rfl q3 q1;exact PE.imp (pe_callB (call_isi k) (C.glo h3) (C.bls _ (mem_of_contains h4)) PyProof.Rows.boot_isinstance (pa_cons ha (pa_cons pt pa_nil) (star_plain hp)) o3 o1 (star_plain hp) rfl) LE.isI
theorem call_sound {S:Sc}{X:Cx}{rs:List Expr->Option IEs}(hrs:∀ es i,rs es=some i->PA X es (LA X.K (semEs Γ i))/\es.all plainE=true){f:Str}{p1 pos:Pos}{a:Expr}{as:List Expr}{i:IE}(C:CxOk Γ S X)(h:callK S f (a::as).length (rs (a::as))=some i):PE X (.Call (.Name f p1) (a::as) [] pos) (LE X.K (semE Γ i)):=by
 unfold callK at h;split at h
 ·rename_i hs
  simp only[zk]at hs;obtain⟨o1,o2,o3⟩:=okName_debug hs.1;split at h
  ·rename_i hf
   obtain⟨xs,h1,rfl⟩:=zu.mp h;obtain⟨k,fa,fd,ps,g1,g2,g3,g4,g5,g6⟩:=C.fns f (mem_of_contains hf);obtain⟨pa,pl⟩:=hrs _ _ h1;rw[yv,zk]at pl;exact PE.imp (pe_call g4 g5 (C.glo hs.2) g1 g2 g3 .nil pass0 pa o1 (star_plain pl.1) (back_plain pl.2)) fun σ H Q q=>LE.call σ H Q g6 q
  ·split at h
   ·rename_i hb
    split at h
    ·rename_i b hbl
     obtain⟨xs,h1,rfl⟩:=zu.mp h;obtain⟨pa,pl⟩:=hrs _ _ h1;rw[yv,zk]at pl;have hbt:=(bl_boot hbl).1;have hmg:=C.bls f (mem_of_contains hb);have hc:=call_bl (X:=X) C.calm C.hu b;unfold blVal at hbt hc;split at hbt
     ·rename_i ht
      rw[if_pos ht]at hc;exact PE.imp (pe_callTy hc (C.glo hs.2) hmg hbt pa o3 o1 (star_plain pl.1) (back_plain pl.2)) LE.blt
     ·rename_i ht
      rw[if_neg ht]at hc;exact PE.imp (pe_callB hc (C.glo hs.2) hmg hbt pa o3 o1 (star_plain pl.1) (back_plain pl.2)) LE.blt
    ·cases h
   ·cases h
 ·cases h
section
variable {S:Sc}{X:Cx}{r:Expr->Option IE}{rs:List Expr->Option IEs}{ro:Option Expr->Option IEo}
theorem name_sound (C:CxOk Γ S X){x:Str}{pos:Pos}{i:IE}(h:nameK S x=some i):PE X (.Name x pos) (LE X.K (semE Γ i)):=by
 unfold nameK at h;split at h
 ·rename_i hok
  obtain⟨o1,o2,o3⟩:=okName_debug hok;split at h
  ·rename_i hv
   obtain⟨j,hs,rfl⟩:=zu.mp h;exact PE.imp (pe_var (by rw[C.n];exact slot_get hs) (C.vis hv) o1 o2) (LE.var)
  ·split at h
   ·rename_i hg
    cases h;simp only[zk]at hg;obtain⟨d,u,v,g1,g2,g3,g4⟩:=C.gls x (mem_of_contains hg.2);refine PE.imp (pe_glob (C.glo hg.1) g2 g3 o1) fun σ H Q h=>?_;refine LE.const g4 σ H Q ?_;have e:semE Γ (.glb x)=fun _=>(pure d:Mo D):=by funext ρ;show lift (Γ.gl x)=_;rw[g1];rfl
    rw[e]at h;exact h
   ·cases h
 ·cases h
theorem const_sound {c:Const}{k:Nat}{pos:Pos}{i:IE}(h:constK c=some i):PE X (.Constant c k pos) (LE X.K (semE Γ i)):=by
 cases c with
 | int j=>cases h;exact PE.imp pe_int (LE.const fun _ _=>.int _)
 | bool j=>cases h;exact PE.imp pe_bl (LE.const fun _ _=>.bl _)
 | none=>cases h;exact PE.imp pe_non (LE.const fun _ _=>.non)
 | str j=>cases h;exact PE.imp pe_str (LE.const fun _ _=>.str _)
 | _=>cases h
variable (hr:∀ e i,r e=some i->PE X e (LE X.K (semE Γ i)))
include hr
theorem cmp_sound (C:CxOk Γ S X){a:Expr}{ops:List CmpOp}{bs:List Expr}{pos:Pos}{i:IE}(h:cmpK r a ops bs=some i):PE X (.Compare a ops bs pos) (LE X.K (semE Γ i))/\PT X (.Compare a ops bs pos) (LT X.K (semC Γ (.cmp i))):=by
 unfold cmpK at h;split at h
 ·split at h
  ·cases h
  ·rename_i hm
   obtain⟨x,h1,h⟩:=obind h;obtain⟨y,h2,h⟩:=obind h;cases h;exact⟨PE.imp (pe_cmpR (op_cmp C.hu _) (hr _ _ h1) (hr _ _ h2) (by simpa using hm)) (LE.bin opS_R2S),PT.imp (pt_cmpR (op_cmp C.hu _) (hr _ _ h1) (hr _ _ h2) (by simpa using hm)) fun σ H Q q=>LE.bin opS_R2S σ H _ (LT.test σ H Q q)⟩
 ·split at h
  ·cases h
  ·rename_i op op' b c hm
   obtain⟨x,h1,h⟩:=obind h;obtain⟨y,h2,h⟩:=obind h;obtain⟨z,h3,h⟩:=obind h;cases h;exact⟨PE.imp (pe_chain (op_cmp C.hu op) (op_cmp C.hu op') (hr _ _ h1) (hr _ _ h2) (hr _ _ h3) (by show behindInMarks op' c=false;simpa using hm)) (LE.chain),PT.imp (pt_chain (op_cmp C.hu op) (op_cmp C.hu op') (hr _ _ h1) (hr _ _ h2) (hr _ _ h3) (by show behindInMarks op' c=false;simpa using hm)) fun σ H Q q=>LE.chain σ H _ (LT.test σ H Q q)⟩
 ·cases h
theorem bool_sound {op:BoolOp}{es:List Expr}{pos:Pos}{i:IE}(h:boolK r op es pos=some i):PE X (.BoolOp op es pos) (LE X.K (semE Γ i)):=by
 unfold boolK at h;split at h
 ·obtain⟨x,h1,h⟩:=obind h
  obtain⟨y,h2,h⟩:=obind h;cases h;cases op with
  | And=>exact PE.imp (pe_and (hr _ _ h1) (pe_one (hr _ _ h2))) (LE.and)
  | Or=>exact PE.imp (pe_or (hr _ _ h1) (pe_one (hr _ _ h2))) (LE.or)
 ·obtain⟨x,h1,h⟩:=obind h
  obtain⟨y,h2,h⟩:=obind h;cases h;cases op with
  | And=>exact PE.imp (pe_and (hr _ _ h1) (hr _ _ h2)) (LE.and)
  | Or=>exact PE.imp (pe_or (hr _ _ h1) (hr _ _ h2)) (LE.or)
 ·cases h
theorem un_sound {op:UnaryOp}{a:Expr}{pos:Pos}{i:IE}(h:unK r op a=some i):PE X (.UnaryOp op a pos) (LE X.K (semE Γ i)):=by
 cases op with
 | Not =>
  obtain⟨x,h1,h⟩:=obind h;cases h;exact PE.imp (pe_not (hr _ _ h1)) (LE.not)
 | USub =>
  obtain⟨x,h1,h⟩:=obind h;cases h;exact PE.imp (pe_un un_neg (hr _ _ h1)) (LE.neg)
 | _=>cases h
theorem sub_sound (C:CxOk Γ S X)(ho:∀ e i,ro e=some i->PO X e (LO X.K (semO Γ i))){a b:Expr}{pos:Pos}{i:IE}(h:subK r ro a b=some i):PE X (.Subscript a b pos) (LE X.K (semE Γ i)):=by
 unfold subK at h;split at h
 ·obtain⟨x,h1,h⟩:=obind h
  obtain⟨l,h2,h⟩:=obind h;obtain⟨q,h3,h⟩:=obind h;cases h;exact PE.imp (pe_slice sl_all (hr _ _ h1) (ho _ _ h2) (ho _ _ h3)) (LE.slc)
 ·split at h
  ·rename_i hix
   obtain⟨x,h1,h⟩:=obind h;obtain⟨y,h2,h⟩:=obind h;cases h;exact PE.imp (pe_ix (ix_get C.hu) (hr _ _ h1) (hr _ _ h2) (plainIx_of hix)) (LE.bin opS_R2S)
  ·cases h
omit hr in
theorem nm_eq {a:Expr}{m:Str}{p:Pos}(h:nmE a=some (m,p)):a=.Name m p:=by
 unfold nmE at h;split at h
 ·cases h;rfl
 ·cases h
omit hr in
theorem setE_eq {a b:Expr}{p q:Pos}(h:setE a=some (p,b,q)):∃ p',a=.Call (.Name "set" p') [b] [] q:=by
 unfold setE at h;split at h
 ·rename_i g _ _ _
  split at h
  ·rename_i hg
   cases h
   have:g=("set" : Str):=by simpa using hg
   subst this;exact⟨_,rfl⟩
  ·cases h
 ·cases h
theorem sort_sound (hsrt:SrtOk Γ)(C:CxOk Γ S X){f:Str}{as:List Expr}{p1 p4:Pos}{i:IE}(h:sortK S r f as=some i):PE X (.Call (.Name f p1) as [] p4) (LE X.K (semE Γ i)):=by
 unfold sortK at h;split at h
 ·rename_i a
  split at h
  ·cases h
  ·have fin:∀ {i:IE},(
    if dkName a then (if plainE a&&(f==("sorted" : Str)&&okName f&&S.glo f&&S.bls.contains f) then do let x <- r a;some (.srtK x) else none) else
    if plainE a&&(f==("sorted" : Str)&&okName f&&S.glo f&&S.bls.contains f) then do let x <- r a;some (.sortL x) else none)=some i->PE X (.Call (.Name f p1) [a] [] p4) (LE X.K (semE Γ i)):=fun {i} h=>by
    split at h
    ·split at h
     ·rename_i hs
      rw[zk]at hs;obtain⟨x,h1,h⟩:=obind h;cases h;exact hsrt.2.2.2.1 S X f _ p1 p4 (semE Γ x) C hs.2 hs.1 (hr _ _ h1)
     ·cases h
    rename_i nd;split at h
    ·rename_i hs
     rw[zk]at hs;obtain⟨x,h1,h⟩:=obind h;cases h;exact hsrt.2.1 S X f _ p1 p4 (semE Γ x) C hs.2 hs.1 (hr _ _ h1)
    ·cases h
   split at h
   ·rename_i p2 b q hg
    obtain⟨p2',e⟩:=setE_eq hg;rw[e];split at h
    ·rename_i hs
     rw[zk]at hs;obtain⟨x,h1,h⟩:=obind h;cases h;exact hsrt.2.2.1 S X f b p1 _ _ p4 (semE Γ x) C hs.2 hs.1 (hr _ _ h1)
    ·cases h
   exact fin h
 ·cases h
theorem cmpR_sound (C:CxOk Γ S X){a:Expr}{ops:List CmpOp}{bs:List Expr}{pos:Pos}{i:IE}(h:cmpR S r a ops bs=some i):PE X (.Compare a ops bs pos) (LE X.K (semE Γ i))/\PT X (.Compare a ops bs pos) (LT X.K (semC Γ (.cmp i))):=by
 unfold cmpR at h;split at h
 ·split at h
  ·cases h
  ·exact cmp_sound hr C h
 ·exact cmp_sound hr C h
theorem isiK_sound (C:CxOk Γ S X){f:Str}{as:List Expr}{p1 p4:Pos}{i:IE}(h:isiK S r f as=some i):PE X (.Call (.Name f p1) as [] p4) (LE X.K (semE Γ i)):=by
 unfold isiK at h;split at h
 ·split at h
  ·rename_i t' p hn
   rw[nm_eq hn];split at h
   ·rename_i hs
    rw[zk]at hs;split at h
    ·rename_i kk hk
     obtain⟨x,h1,h⟩:=obind h;cases h;exact isi_sound C hs.1 hk (hr _ _ h1) hs.2
    ·cases h
   ·cases h
  ·cases h
 ·cases h
variable (hrs:∀ es i,rs es=some i->PA X es (LA X.K (semEs Γ i))/\es.all plainE=true)
include hrs
theorem attr_sound (C:CxOk Γ S X){o:Expr}{m:Str}{p2 p3:Pos}{as:List Expr}{i:IE}(h:attrK r rs o m p2 p3 as=some i):PE X (.Call (.Attribute o m p2) as [] p3) (LE X.K (semE Γ i)):=by
 unfold attrK at h;split at h
 ·split at h
  ·rename_i hs
   simp only[zk,decide_eq_true_eq]at hs;obtain⟨hbs,hs⟩:=hs;split at h
   ·rename_i kk hk
    obtain⟨x,h1,h⟩:=obind h;obtain⟨xs,h2,h⟩:=obind h;cases h;obtain⟨pa,pl⟩:=hrs _ _ h2;have hnm:=mt_name hk;subst hnm;have pl':=pl;rw[yv,zk]at pl;refine PE.imp (pe_bmx (mt_all C.hu kk) (hr _ _ h1) pa (base_of hbs) ?_ hs.1 (star_plain pl.1) (back_plain pl.2)) LE.mth;rw[zk,zk];refine⟨⟨not_any (back_plain pl'),rfl⟩,?_⟩
    have:=hs.2
    simp only[zA,xU,List.isEmpty_nil,if_true]at this ⊢;exact decide_eq_true (by first | lia | omega)
   ·cases h
  ·cases h
 ·split at h
  ·rename_i hs
   rw[zk]at hs;split at h
   ·rename_i k0 hk0
    obtain⟨x,h1,h⟩:=obind h;cases h;exact clr_sound hk0 hs.2 (hr _ _ h1) (fun a w'=>base_of hs.1)
   ·cases h
  ·cases h
theorem intK_sound (C:CxOk Γ S X){f:Str}{as:List Expr}{p1 p4:Pos}{i:IE}{k:Option IE}(h:intK S r f as k=some i)(hk:k=some i->PE X (.Call (.Name f p1) as [] p4) (LE X.K (semE Γ i))):PE X (.Call (.Name f p1) as [] p4) (LE X.K (semE Γ i)):=by
 unfold intK at h;split at h
 ·split at h
  ·rename_i ho
   split at h
   ·rename_i hp
    obtain⟨x,h1,h⟩:=obind h;cases h;exact int_sound C ho hp (hr _ _ h1)
   ·cases h
  ·exact hk h
 ·exact hk h
theorem lskK_sound (C:CxOk Γ S X){f:Str}{as:List Expr}{p1 p4:Pos}{i:IE}{k:Option IE}(h:lskK S r f as k=some i)(hk:k=some i->PE X (.Call (.Name f p1) as [] p4) (LE X.K (semE Γ i))):PE X (.Call (.Name f p1) as [] p4) (LE X.K (semE Γ i)):=by
 unfold lskK at h;split at h
 ·split at h
  ·rename_i ho
   rw[zk]at ho;split at h
   ·rename_i hp
    obtain⟨x,h1,h⟩:=obind h;cases h;exact lsk_sound C ho.2 hp (hr _ _ h1)
   ·cases h
  ·exact hk h
 ·exact hk h
theorem fn_sound (hsrt:SrtOk Γ)(C:CxOk Γ S X){f:Str}{as:List Expr}{p1 p4:Pos}{i:IE}(h:fnK S r rs f as=some i):PE X (.Call (.Name f p1) as [] p4) (LE X.K (semE Γ i)):=by
 unfold fnK at h;split at h
 ·split at h
  ·exact sort_sound hr hsrt C h
  ·split at h
   ·exact isiK_sound hr C h
   ·
    refine intK_sound hr hrs C h fun h=>?_;refine lskK_sound hr hrs C h fun h=>?_;exact call_sound hrs C h
 ·cases h
theorem callE_sound (hsrt:SrtOk Γ)(C:CxOk Γ S X){f:Expr}{as:List Expr}{p:Pos}{i:IE}(h:callE S r rs f as p=some i):PE X (.Call f as [] p) (LE X.K (semE Γ i)):=by
 unfold callE at h;split at h
 ·exact fn_sound hr hrs hsrt C h
 ·exact attr_sound hr hrs C h
 ·cases h
end
theorem gens_eq {gs:List Comprehension}{x:Str}{p:Pos}{iter:Expr}{ifs:List Expr}(h:gensK gs=some (x,p,iter,ifs)):gs=[⟨.Name x p,iter,ifs,0⟩]:=by
 unfold gensK at h;split at h
 ·cases h;rfl
 ·cases h
theorem sound_E (hsrt:SrtOk Γ)(ih:Sound Γ n)(S:Sc)(X:Cx)(e:Expr)(i:IE)(C:CxOk Γ S X)(h:cE S (n + 1) e=some i):PE X e (LE X.K (semE Γ i)):=by
 have hr:∀ e i,cE S n e=some i->PE X e (LE X.K (semE Γ i)):=fun e i h=>ih.E _ _ _ _ C h;have hrs:∀ es i,cEs S n es=some i->PA X es (LA X.K (semEs Γ i))/\es.all plainE=true:=fun e i h=>ih.Es _ _ _ _ C h;cases e with
 | Name x p=>exact name_sound C h
 | Constant c k p=>exact const_sound h
 | BinOp a op b p =>
  have h:(if inDomOp op=true then (do let x <- cE S n a;let y <- cE S n b;some (IE.bin op x y)) else none)=some i:=h;split at h
  ·obtain⟨x,h1,h⟩:=obind h
   obtain⟨y,h2,h⟩:=obind h;cases h;exact PE.imp (pe_op (op_bin op) (hr _ _ h1) (hr _ _ h2)) (LE.bin opS_R2S)
  ·cases h
 | Compare a ops bs p=>exact(cmpR_sound hr C h).1
 | BoolOp op es p=>exact bool_sound hr h
 | UnaryOp op a p=>exact un_sound hr h
 | IfExp c a b p =>
  obtain⟨k,h0,h⟩:=obind h;obtain⟨x,h1,h⟩:=obind h;obtain⟨y,h2,h⟩:=obind h;cases h;exact PE.imp (pe_ifExp (ih.C _ _ _ _ C h0) (hr _ _ h1) (hr _ _ h2)) (LE.ite)
 | Tuple es k p =>
  obtain⟨x,h1,h⟩:=obind h;cases h;exact PE.imp (pe_tup (hrs _ _ h1).1) (LE.tup)
 | List es p =>
  obtain⟨x,h1,h⟩:=obind h;cases h;exact PE.imp (pe_lst (hrs _ _ h1).1) (LE.lst)
 | Dict ks vs p =>
  cases ks with
  | nil =>
   cases vs with
   | nil=>cases h;exact PE.imp pe_dnewK (LE.dic)
   | cons a l=>cases h
  | cons a l=>cases h
 | Subscript a b p=>exact sub_sound hr C (fun e i h=>ih.O _ _ _ _ C h) h
 | Call f as ks p =>
  have h:(if ks.isEmpty=true then callE S (cE S n) (cEs S n) f as p else none)=some i:=h;split at h
  ·rename_i hk
   have hk:ks=[]:=List.isEmpty_iff.mp hk;subst hk;exact callE_sound hr hrs hsrt C h
  ·cases h
 | ListComp elt gs sc p =>
  have h:(match gensK gs with
   | some (x,_,iter,ifs)=>if compOk S sc [x]=true then (do
     let it <- cT S n iter
     let c <- cCo (S.comp sc [x]) n ifs
     let e <- cE (S.comp sc [x]) n elt
     some (IE.comp ((slot S.N x).getD S.N.length) it c e)) else none
   | none=>none)=some i:=h
  split at h
  ·rename_i x px iter ifs hg
   rw[gens_eq hg];split at h
   ·rename_i hc
    obtain⟨it,h1,h⟩:=obind h;obtain⟨c,h2,h⟩:=obind h;obtain⟨y,h3,h⟩:=obind h;cases h;obtain⟨t1,t2⟩:=ih.T _ X (.Name x px) _ _ C h1;exact pe_compS C hc t1 t2 (fun X' C' _=>ih.Co _ _ _ _ C' h2) (fun X' C' _=>ih.E _ _ _ _ C' h3)
   ·cases h
  ·cases h
 | _=>cases h
theorem sound_Es (ih:Sound Γ n)(S:Sc)(X:Cx)(es:List Expr)(i:IEs)(C:CxOk Γ S X)(h:cEs S (n + 1) es=some i):PA X es (LA X.K (semEs Γ i))/\es.all plainE=true:=by
 cases es with
 | nil =>
  cases (show some IEs.nil=some i from h);exact⟨PA.imp pa_nil LA.nil,rfl⟩
 | cons e es =>
  replace h:(if plainE e then (do let x <- cE S n e;let xs <- cEs S n es;some (.cons x xs)) else none)=some i:=h;split at h
  ·rename_i hp
   obtain⟨x,h1,h⟩:=obind h;obtain⟨xs,h2,h⟩:=obind h;cases h;obtain⟨p1,p2⟩:=ih.Es _ _ _ _ C h2;exact⟨PA.imp (pa_cons (ih.E _ _ _ _ C h1) p1 (star_plain hp)) LA.cons,by rw[yv,hp,p2];rfl⟩
  ·cases h
theorem sound_O (ih:Sound Γ n)(S:Sc)(X:Cx)(e:Option Expr)(i:IEo)(C:CxOk Γ S X)(h:cO S (n + 1) e=some i):PO X e (LO X.K (semO Γ i)):=by
 cases e with
 | none =>
  cases (show some IEo.none=some i from h);exact PO.imp po_none LO.none
 | some e =>
  replace h:(do let x <- cE S n e;some (IEo.some x))=some i:=h;obtain⟨x,h1,h⟩:=obind h;cases h;exact PO.imp (po_some (ih.E _ _ _ _ C h1)) LO.some
theorem sound_Co (ih:Sound Γ n)(S:Sc)(X:Cx)(e:List Expr)(i:ICo)(C:CxOk Γ S X)(h:cCo S (n + 1) e=some i):PTs X e (LT X.K (semCo Γ i)):=by
 rcases e with _ | ⟨c,_ | ⟨c2,l⟩⟩
 ·cases (show some ICo.none=some i from h)
  exact PTs.imp pts_nil fun σ H Q q=>by
   obtain⟨ι,ρ,M,b,M',S,R,e,k⟩:=q;obtain⟨rfl,rfl⟩:=pure_ok e;exact k H ι S Ext.refl
 ·replace h:(do let k <- cC S n c;some (ICo.some k))=some i:=h
  obtain⟨x,h1,h⟩:=obind h;cases h;exact pts_one (ih.C _ _ _ _ C h1)
 ·cases (show (none:Option ICo)=some i from h)
theorem pw_imp {X:Cx}{e:Expr}{t t':TT}(h:PW X e t)(k:∀ σ H Q,t' σ H Q->t σ H Q):PW X e t':=fun whole pins s σ H Q I q=>h whole pins s σ H Q I (k σ H Q q)
theorem rngE_eq {b:Expr}{f:Str}{p q:Pos}{as:List Expr}(h:rngE b=some (f,p,as,q)):b=.Call (.Name f p) as [] q:=by
 unfold rngE at h;split at h
 ·cases h;rfl
 ·cases h
theorem fold_it {e:Expr}{env:Env}(h:itE e=true):∀ x,foldedSetIterable e env x=pure x:=by
 intro x;cases e <;> first | rfl | exact absurd h zh
theorem rngK_sound {S:Sc}{X:Cx}{r:Expr->Option IE}(hr:∀ e i,r e=some i->PE X e (LE X.K (semE Γ i)))(C:CxOk Γ S X){tg:Expr}{f:Str}{as:List Expr}{p q:Pos}{i:IT}(h:rngK S r f as=some i):PI X tg (.Call (.Name f p) as [] q) (LI X.K (semT Γ i)):=by
 unfold rngK at h;split at h
 ·rename_i hs
  unfold rngOk at hs;simp only[zk,beq_iff_eq]at hs;obtain⟨⟨⟨⟨h1,h2⟩,h3⟩,h4⟩,h5⟩:=hs;subst h1;split at h
  ·simp only[yv,vc,vj]at h5
   obtain⟨x,g1,h⟩:=obind h;cases h;exact PI.imp (pi_range1 (C.glo h3) (C.bls _ (mem_of_contains h4)) (pa_cons (hr _ _ g1) pa_nil (star_plain h5)) (star_plain h5)) LI.rng1
  ·simp only[yv,vc,vj,zk]at h5
   obtain⟨x,g1,h⟩:=obind h;obtain⟨y,g2,h⟩:=obind h;cases h;exact PI.imp (pi_range2 (C.glo h3) (C.bls _ (mem_of_contains h4)) (pa_cons (hr _ _ g1) (pa_cons (hr _ _ g2) pa_nil (star_plain h5.2)) (star_plain h5.1)) (by rw[star_plain h5.1,star_plain h5.2];rfl) (star_plain h5.2)) LI.rng2
  ·cases h
 ·cases h
theorem sound_T (ih:Sound Γ n)(S:Sc)(X:Cx)(tg e:Expr)(i:IT)(C:CxOk Γ S X)(h:cT S (n + 1) e=some i):PI X tg e (LI X.K (semT Γ i))/\∀ x,foldedSetIterable e X.env x=pure x:=by
 have seq:(cE S n e).map IT.seq=some i->PI X tg e (LI X.K (semT Γ i)):=fun h=>by
  obtain⟨x,h1,rfl⟩:=zu.mp h;exact PI.imp (pi_any (ih.E _ _ _ _ C h1)) LI.seq
 have h:(match rngE e with
  | some (f,_,as,_)=>if (f==("range" : Str))=true then rngK S (cE S n) f as else (cE S n e).map IT.seq
  | none=>if itE e=true then (cE S n e).map IT.seq else none)=some i:=h
 split at h
 ·rename_i f p as q hg
  have he:=rngE_eq hg;split at h
  ·refine⟨?_,by rw[he];exact fun _=>rfl⟩
   rw[he];exact rngK_sound (fun e i h=>ih.E _ _ _ _ C h) C h
  ·exact⟨seq h,by rw[he];exact fun _=>rfl⟩
 ·split at h
  ·rename_i hit
   exact⟨seq h,fold_it hit⟩
  ·cases h
theorem cond_sound {X:Cx}{r:Expr->Option IC}(hr:∀ e i,r e=some i->PT X e (LT X.K (semC Γ i))){op:BoolOp}{es:List Expr}{pos:Pos}{i:IC}(h:condK r op es=some i):PT X (.BoolOp op es pos) (LT X.K (semC Γ i)):=by
 unfold condK at h;split at h
 ·obtain⟨k,h1,h⟩:=obind h
  obtain⟨j,h2,h⟩:=obind h;cases h;cases op with
  | And=>exact PT.imp (pw_and (hr _ _ h1) (pw_and1 (hr _ _ h2))).pt LT.and
  | Or=>exact PT.imp (pw_or (hr _ _ h1) (pw_or1 (hr _ _ h2))).pt LT.or
 ·obtain⟨k,h1,h⟩:=obind h
  obtain⟨j,h2,h⟩:=obind h;obtain⟨l,h3,h⟩:=obind h;cases h;cases op with
  | And=>exact PT.imp (pw_and (hr _ _ h1) (pw_imp (pw_and (hr _ _ h2) (pw_and1 (hr _ _ h3))) LT.and)).pt LT.and
  | Or=>exact PT.imp (pw_or (hr _ _ h1) (pw_imp (pw_or (hr _ _ h2) (pw_or1 (hr _ _ h3))) LT.or)).pt LT.or
 ·cases h
theorem sound_C (ih:Sound Γ n)(S:Sc)(X:Cx)(e:Expr)(i:IC)(C:CxOk Γ S X)(h:cC S (n + 1) e=some i):PT X e (LT X.K (semC Γ i)):=by
 cases e with
 | UnaryOp op a p =>
  have h:(if (op==.Not)=true then (cC S n a).map IC.not else none)=some i:=h;split at h
  ·rename_i ho
   have ho:op=.Not:=by simpa using ho
   subst ho;obtain⟨k,h1,rfl⟩:=zu.mp h;exact PT.imp (pt_not (ih.C _ _ _ _ C h1)) LT.not
  ·cases h
 | BoolOp op es p=>exact cond_sound (fun e i h=>ih.C _ _ _ _ C h) h
 | Compare a ops bs p =>
  obtain⟨k,h1,rfl⟩:=zu.mp (show (cmpR S (cE S n) a ops bs).map IC.cmp=some i from h);exact(cmpR_sound (fun e i h=>ih.E _ _ _ _ C h) C h1).2
 | Name x p =>
  obtain⟨k,h1,rfl⟩:=zu.mp (show (cE S n (.Name x p)).map IC.tru=some i from h);exact pt_tru (ih.E _ _ _ _ C h1) fun _=>rfl
 | Call f as ks p =>
  obtain⟨k,h1,rfl⟩:=zu.mp (show (cE S n (.Call f as ks p)).map IC.tru=some i from h);exact pt_tru (ih.E _ _ _ _ C h1) fun _=>rfl
 | Subscript a b p =>
  obtain⟨k,h1,rfl⟩:=zu.mp (show (cE S n (.Subscript a b p)).map IC.tru=some i from h);exact pt_tru (ih.E _ _ _ _ C h1) fun _=>rfl
 | _=>cases h
theorem sound (hsrt:SrtOk Γ):∀ n,Sound Γ n
 | 0=>⟨(fun _ _ _ i _ h=>by cases (show (none:Option IE)=some i from h)),(fun _ _ _ i _ h=>by cases (show (none:Option IEs)=some i from h)),(fun _ _ _ i _ h=>by cases (show (none:Option IEo)=some i from h)),(fun _ _ _ _ i _ h=>by cases (show (none:Option IT)=some i from h)),(fun _ _ _ i _ h=>by cases (show (none:Option IC)=some i from h)),(fun _ _ _ i _ h=>by cases (show (none:Option ICo)=some i from h))⟩
 | n + 1=>⟨sound_E hsrt (sound hsrt n),sound_Es (sound hsrt n),sound_O (sound hsrt n),sound_T (sound hsrt n),sound_C (sound hsrt n),sound_Co (sound hsrt n)⟩
end
end L3
namespace L3
open PySem PySem.Spec PyProof.Rows L2
section
variable {Γ:Ctx}{n:Nat}{K:PySem.W.Frag}
theorem LS.set {i:Nat}{fe:DE}(D:Ends)(σ:St)(H:Hp)(h:LS K (fun ρ=>do let x <- fe ρ;pure (.nx (ρ.set i (some x)))) D σ H):tAsg (LE K fe) (gName i) D σ H:=by
 obtain⟨ι,ρ,M,fl,M',S,R,e,k⟩:=h;have e0:=bind_ok e;clear e;obtain⟨x,M1,e1,e⟩:=e0;have e0:=pure_ok e;clear e;obtain⟨rfl,rfl⟩:=e0;exact⟨ι,ρ,M,x,_,S,R,e1,fun v H1 ι1 r1 S1 X1=>k H1 ι1 S1 X1 _ ((R.mono X1).set r1 i)⟩
theorem LS.setIx {fo fi fe:DE}(D:Ends)(σ:St)(H:Hp)(h:LS K (fun ρ=>do let v <- fe ρ;let x <- fo ρ;let y <- fi ρ;setIx x y v;pure (.nx ρ)) D σ H):tAsg (LE K fe) (gSub (LE K fo) (LE K fi) (RSet K)) D σ H:=by
 obtain⟨ι,ρ,M,fl,M',S,R,e,k⟩:=h;have e0:=bind_ok e;clear e;obtain⟨v,M1,e1,e⟩:=e0;have e0:=bind_ok e;clear e;obtain⟨x,M2,e2,e⟩:=e0;have e0:=bind_ok e;clear e;obtain⟨y,M3,e3,e⟩:=e0;have e0:=bind_ok e;clear e;obtain⟨u,M4,e4,e⟩:=e0;have e0:=pure_ok e;clear e;obtain⟨rfl,rfl⟩:=e0;refine⟨ι,ρ,M,v,M1,S,R,e1,fun v1 H1 ι1 r1 S1 X1=>?_⟩;refine⟨ι1,ρ,M1,x,M2,S1,R.mono X1,e2,fun v2 H2 ι2 r2 S2 X2=>?_⟩;refine⟨ι2,ρ,M2,y,M3,S2,(R.mono X1).mono X2,e3,fun v3 H3 ι3 r3 S3 X3=>?_⟩;exact⟨ι3,M3,_,x,y,v,u,S3,r2.mono X3,r3,(r1.mono X2).mono X3,e4,fun H4 S4 X4=>k H4 ι3 S4 (((X1.trans X2).trans X3).trans X4) σ ((((R.mono X1).mono X2).mono X3).mono X4)⟩
theorem LS.expr {fe:DE}(D:Ends)(σ:St)(H:Hp)(h:LS K (fun ρ=>do let _ <- fe ρ;pure (.nx ρ)) D σ H):tDrop (LE K fe) D σ H:=by
 obtain⟨ι,ρ,M,fl,M',S,R,e,k⟩:=h;have e0:=bind_ok e;clear e;obtain⟨x,M1,e1,e⟩:=e0;have e0:=pure_ok e;clear e;obtain⟨rfl,rfl⟩:=e0;exact⟨ι,ρ,M,x,_,S,R,e1,fun v H1 ι1 r1 S1 X1=>k H1 ι1 S1 X1 _ (R.mono X1)⟩
theorem LS.ret {fe:DE}(D:Ends)(σ:St)(H:Hp)(h:LS K (fun ρ=>do let x <- fe ρ;pure (.rt x)) D σ H):tRet (LE K fe) D σ H:=by
 obtain⟨ι,ρ,M,fl,M',S,R,e,k⟩:=h;have e0:=bind_ok e;clear e;obtain⟨x,M1,e1,e⟩:=e0;have e0:=pure_ok e;clear e;obtain⟨rfl,rfl⟩:=e0;exact⟨ι,ρ,M,x,_,S,R,e1,fun v H1 ι1 r1 S1 X1=>k H1 ι1 S1 X1 v r1⟩
theorem LS.flow {fl:Ev->Fl}(D:Ends)(σ:St)(H:Hp)(h:LS K (fun ρ=>pure (fl ρ)) D σ H):∃ ι ρ,EnvR K ι H ρ σ/\FlP K D ι H (fl ρ):=by
 obtain⟨ι,ρ,M,f,M',S,R,e,k⟩:=h;have e0:=pure_ok e;clear e;obtain⟨rfl,rfl⟩:=e0;exact⟨ι,ρ,R,k H ι S Ext.refl⟩
theorem LS.ifS {fc:Ev->Mo Bool}{fa fb:Ev->Mo Fl}(D:Ends)(σ:St)(H:Hp)(h:LS K (fun ρ=>do let k <- fc ρ;if k=true then fa ρ else fb ρ) D σ H):tIfS (LT K fc) (LS K fa) (LS K fb) D σ H:=by
 obtain⟨ι,ρ,M,fl,M',S,R,e,k⟩:=h;have e0:=bind_ok e;clear e;obtain⟨b,M1,e1,e⟩:=e0;refine⟨ι,ρ,M,b,M1,S,R,e1,fun H1 ι1 S1 X1=>?_⟩;split at e
 ·rename_i hb
  rw[if_pos hb];exact⟨ι1,ρ,_,fl,M',S1,R.mono X1,e,fun H' ι' S' X'=>k H' ι' S' (X1.trans X')⟩
 ·rename_i hb
  rw[if_neg hb];exact⟨ι1,ρ,_,fl,M',S1,R.mono X1,e,fun H' ι' S' X'=>k H' ι' S' (X1.trans X')⟩
theorem LS.seq {fa fb:Ev->Mo Fl}(D:Ends)(σ:St)(H:Hp)(h:LS K (fun ρ=>do
  let f <- fa ρ
  (match f with
  | .nx ρ'=>fb ρ'
  | .rt v=>pure (.rt v)
  | .bk ρ'=>pure (.bk ρ')
  | .ct ρ'=>pure (.ct ρ'))) D σ H):tSeq (LS K fa) (LS K fb) D σ H:=by
 obtain⟨ι,ρ,M,fl,M',S,R,e,k⟩:=h;have e0:=bind_ok e;clear e;obtain⟨f,M1,e1,e⟩:=e0;refine⟨ι,ρ,M,f,M1,S,R,e1,fun H1 ι1 S1 X1=>?_⟩;cases f with
 | nx ρ1=>exact fun σ1 R1=>⟨ι1,ρ1,M1,fl,M',S1,R1,e,fun H' ι' S' X'=>k H' ι' S' (X1.trans X')⟩
 | rt v=>have e0:=pure_ok e;clear e;obtain⟨rfl,rfl⟩:=e0;exact k H1 ι1 S1 X1
 | bk ρ1=>have e0:=pure_ok e;clear e;obtain⟨rfl,rfl⟩:=e0;exact k H1 ι1 S1 X1
 | ct ρ1=>have e0:=pure_ok e;clear e;obtain⟨rfl,rfl⟩:=e0;exact k H1 ι1 S1 X1
structure SoundS (Γ:Ctx) (n:Nat):Prop where
 S:∀ (S:Sc) (X:Cx) (e:Stmt) (i:IS),CxOk Γ S X->(∀ x,X.fn x=true)->cS S n e=some i->PS X e (LS X.K (semS Γ i))
 Ss:∀ (S:Sc) (X:Cx) (e:List Stmt) (i:ISs),CxOk Γ S X->(∀ x,X.fn x=true)->cSs S n e=some i->PSs X e (LS X.K (semSs Γ i))
end
section
variable {Γ:Ctx}{n:Nat}
theorem sw_sub {e o i:Expr}{p:Pos}{l:Nat}{env:Env}:swapsWithSole [.Subscript o i p] e l env=pure false/\swappedStores [.Subscript o i p] e env=pure none:=by
 constructor
 ·cases e <;> rfl
 ·cases e <;> rfl
theorem sw_name {e:Expr}{x:Str}{p:Pos}{l:Nat}{env:Env}(hn:noComp e=true):swapsWith e (some (.Name x p)) l env=pure false:=by
 cases e <;> first | rfl | cases hn
theorem sw_none {e:Expr}{l:Nat}{env:Env}(hn:noComp e=true):swapsWith e none l env=pure false:=by
 cases e <;> first | rfl | cases hn
theorem as_sub {o i:Expr}{p:Pos}{env:Env}(h:ixE i=true):∀ v,assign (.Subscript o i p) env v=(do
   let ov <- holding [v] (eval o env)
   let iv <- holding [v,ov] (eval i env)
   standAt p
   holding [v,ov,iv] (setItem ov iv v)
   release [v,ov,iv] []):=by
 intro v;cases i <;> first | rfl | exact absurd h zh
theorem ps_compS {S:Sc}{X:Cx}{sc:Scope}{x y:Str}{px pos py spos:Pos}{elt iter:Expr}{ifs:List Expr}{j i:Nat}{fs:Ev->Mo Src}{fc:Ev->Mo Bool}{fe:DE}(C:CxOk Γ S X)(h:compOk S sc [x]=true)(hi:PI X (.Name x px) iter (LI X.K fs))(hs:∀ x,foldedSetIterable iter X.env x=pure x)
  (htc:∀ X',CxOk Γ (S.comp sc [x]) X'->X'.K=X.K->PTs X' ifs (LT X'.K fc)) (hte:∀ X',CxOk Γ (S.comp sc [x]) X'->X'.K=X.K->PE X' elt (LE X'.K fe)) (hy:X.N[i]?=some y) (hl:Loc X.env.scope y) (hf:X.fn y=true) :
  PS X (.Assign [.Name y py] (.ListComp elt [⟨.Name x px,iter,ifs,0⟩] sc pos) spos) (LS X.K (fun ρ=>do
   let v <- (do
    let s <- fs ρ
    need (s.ds.length<=zj)
    let ys <- compD s.ck fc fe (ρ.set j none) s.ds
    newM (.lst ys))
   pure (.nx (ρ.set i (some v))))):=by
 intro pins s σ H D I q;have CS:=compOk_sc C I.ok h;have q2:=LS.set D σ H q;exact ps_comp C.calm CS (fun _ _ _ _=>pg_own CS rfl _ _ _ _) hi (fun Ca s H fp=>htc _ (comp_cx C h _ Ca s H fp) rfl) (fun Ca s H fp=>hte _ (comp_cx C h _ Ca s H fp) rfl) hs C.nd hy hl (.inl hf) pins s σ H D I (LE.comp σ H _ q2)
theorem comp_of {v elt:Expr}{gs:List Comprehension}{sc:Scope}(h:compP v=some (elt,gs,sc)):∃ p,v=.ListComp elt gs sc p:=by
 cases v with
 | ListComp a b c p=>cases h;exact⟨p,rfl⟩
 | _=>cases h
theorem enum_sound (hE:∀ n,Sound Γ n){S:Sc}{X:Cx}(C:CxOk Γ S X){es:List Expr}{k1:Nat}{p1 p q:Pos}{f:Str}{as:List Expr}{i:IP}(h1:f = "enumerate")(h:enumK S (cE S n) f as=some i):PI X (.Tuple es k1 p1) (.Call (.Name f p) as [] q) (LI2 X.K (semP Γ i)):=by
 rcases as with _ | ⟨a,_ | ⟨_,_⟩⟩
 ·cases h
 ·replace h:(if okName f&&S.glo f&&S.bls.contains f&&plainE a then (cE S n a).map IP.enum else none)=some i:=h
  split at h
  ·rename_i hs
   simp only[zk]at hs;obtain⟨⟨⟨h2,h3⟩,h4⟩,h5⟩:=hs;obtain⟨x,g,rfl⟩:=zu.mp h;subst h1;exact PI.imp (pi_enum (C.glo h3) (C.bls _ (mem_of_contains h4)) (pa_cons ((hE n).E _ _ _ _ C g) pa_nil (star_plain h5)) (star_plain h5)) LI2.enum
  ·cases h
 ·cases h
theorem sound_P (hE:∀ n,Sound Γ n){S:Sc}{X:Cx}(C:CxOk Γ S X){es:List Expr}{k1:Nat}{p1:Pos}{e:Expr}{i:IP}(h:cP S n e=some i):PI X (.Tuple es k1 p1) e (LI2 X.K (semP Γ i))/\∀ x,foldedSetIterable e X.env x=pure x:=by
 have seq:(cE S n e).map IP.seq=some i->PI X (.Tuple es k1 p1) e (LI2 X.K (semP Γ i)):=fun h=>by
  obtain⟨x,h1,rfl⟩:=zu.mp h;exact PI.imp (pi_any ((hE n).E _ _ _ _ C h1)) fun σ H R q=>LI.seq σ H R (LI2.to σ H R q)
 delta cP at h;cases hr:rngE e with
 | some q =>
  obtain⟨f,p,as,q⟩:=q;rw[hr]at h;dsimp only at h;have he:=rngE_eq hr;split at h
  ·rename_i hf
   refine⟨?_,by rw[he];exact fun _=>rfl⟩;rw[he];exact enum_sound hE C (by simpa using hf) h
  ·exact⟨seq h,by rw[he];exact fun _=>rfl⟩
 | none =>
  rw[hr]at h;dsimp only at h;split at h
  ·rename_i hit
   exact⟨seq h,fold_it hit⟩
  ·cases h
theorem nmE_eq {e:Expr}{x:Str}{p:Pos}(h:nmE e=some (x,p)):e=.Name x p:=by
 cases e <;> first | cases h;rfl | cases h
theorem pair_sound (hE:∀ n,Sound Γ n){S:Sc}{X:Cx}(C:CxOk Γ S X)(hf:∀ x,X.fn x=true)(hp:PassesOwn (model X.prog X.w) X.A X.env X.xe){a b iter:Expr}{body:List Stmt}{r:Option ISs}{i:IS}{k1:Nat}{p1 p:Pos}(hb:∀ y,r=some y->PSs X body (LS X.K (semSs Γ y)))
  (h:pair2 S n a b iter r=some i):PS X (.For (.Tuple [a,b] k1 p1) iter body [] p) (LS X.K (semS Γ i)):=by
 delta pair2 at h;cases ha:nmE a with
 | none=>rw[ha]at h;cases h
 | some q =>
  obtain⟨x,pa⟩:=q;rw[ha]at h;dsimp only at h;cases hb2:nmE b with
  | none=>rw[hb2]at h;cases h
  | some q =>
   obtain⟨y,pb⟩:=q;rw[hb2]at h;dsimp only at h;obtain rfl:=nmE_eq ha;obtain rfl:=nmE_eq hb2;split at h
   ·rename_i hl
    rw[zk]at hl;obtain⟨i1,h1,h⟩:=obind h;obtain⟨j1,h2,h⟩:=obind h;obtain⟨it,h3,h⟩:=obind h;obtain⟨z,h4,h⟩:=obind h;cases h;have hN1:=slot_get h1;rw[<- C.n]at hN1;have hN2:=slot_get h2;rw[<- C.n]at hN2;obtain⟨t1,t2⟩:=sound_P hE C h3;exact PS.imp (ps_for hp C.calm t1 (pg_tup C.calm (pgs_cons (pg_name C.nd hN1 (C.loc hl.1) (.inl (hf x))) (pgs_cons (pg_name C.nd hN2 (C.loc hl.2) (.inl (hf y))) pgs_nil))) (hb _ h4) t2) LS.lpair
   ·cases h
theorem sound_S (hE:∀ n,Sound Γ n)(ih:SoundS Γ n)(S:Sc)(X:Cx)(e:Stmt)(i:IS)(C:CxOk Γ S X)(hf:∀ x,X.fn x=true)(h:cS S (n + 1) e=some i):PS X e (LS X.K (semS Γ i)):=by
 have hp:PassesOwn (model X.prog X.w) X.A X.env X.xe:=by rw[C.nox];exact PassesOwn.never
 cases e with
 | Assign ts v pos =>
  replace h:asgK S n ts v=some i:=h;rcases ts with _ | ⟨t,_ | ⟨t2,ts⟩⟩
  ·cases h
  ·replace h:asgT S n t v=some i:=h
   cases t with
   | Name x p =>
    replace h:asgN S n x v=some i:=h;delta asgN at h;cases hc:compP v with
    | some q =>
     obtain⟨elt,gs,sc⟩:=q;rw[hc]at h;dsimp only at h;cases hg:gensK gs with
     | none=>rw[hg]at h;cases h
     | some q =>
      obtain⟨y,py,iter,ifs⟩:=q;rw[hg]at h;dsimp only at h;obtain⟨cp,rfl⟩:=comp_of hc;obtain rfl:=gens_eq hg;split at h
      ·rename_i hl
       rw[zk]at hl;obtain⟨i',h1,h⟩:=obind h;obtain⟨it,g1,h⟩:=obind h;obtain⟨c,g2,h⟩:=obind h;obtain⟨y',g3,h⟩:=obind h;cases h;have hN:=slot_get h1;rw[<- C.n]at hN;obtain⟨t1,t2⟩:=(hE n).T _ X (.Name y py) _ _ C g1;exact ps_compS C hl.2 t1 t2 (fun X' C' _=>(hE n).Co _ _ _ _ C' g2) (fun X' C' _=>(hE n).E _ _ _ _ C' g3) hN (C.loc hl.1) (hf x)
      ·cases h
    | none =>
     rw[hc]at h;dsimp only at h;split at h
     ·rename_i hl
      rw[zk]at hl;obtain⟨j,h1,h⟩:=obind h;obtain⟨y,h2,h⟩:=obind h;cases h;have hN:=slot_get h1;rw[<- C.n]at hN;exact PS.imp (ps_set C.nd hN (C.loc hl.1) ((hE n).E _ _ _ _ C h2) (sw_name hl.2) (.inl (hf x))) LS.set
     ·cases h
   | Subscript o ix p =>
    delta asgT at h;dsimp only at h;split at h
    ·rename_i hix
     obtain⟨y,h1,h⟩:=obind h;obtain⟨a,h2,h⟩:=obind h;obtain⟨b,h3,h⟩:=obind h;cases h;exact PS.imp (ps_asg ((hE n).E _ _ _ _ C h1) (pg_sub ((hE n).E _ _ _ _ C h2) ((hE n).E _ _ _ _ C h3) (set_ix C.hu) (as_sub hix)) sw_sub.1 (sw_sub (l:=0)).2 rfl) LS.setIx
    ·cases h
   | _=>cases h
  ·cases h
 | Expr e pos =>
  replace h:(if noComp e then (do let y <- cE S n e;some (.expr y)) else none)=some i:=h;split at h
  ·rename_i hn
   obtain⟨y,h1,h⟩:=obind h;cases h;exact PS.imp (ps_expr ((hE n).E _ _ _ _ C h1) (sw_none hn)) LS.expr
  ·cases h
 | Return o pos =>
  cases o with
  | some e =>
   replace h:(do let y <- cE S n e;some (.ret y))=some i:=h;obtain⟨y,h1,h⟩:=obind h;cases h;exact PS.imp (ps_ret ((hE n).E _ _ _ _ C h1)) LS.ret
  | none =>
   cases h;exact PS.imp ps_retN fun D σ H q=>by
    obtain⟨ι,ρ,R,k⟩:=LS.flow D σ H q;exact k .non .non
 | Raise a b c =>
  cases h;intro pins s σ H D I q;obtain⟨ι,ρ,M,fl,M',S',R,e,k⟩:=q;exact(stop_ok e).elim
 | Pass p =>
  cases h;exact PS.imp ps_pass fun D σ H q=>by
   obtain⟨ι,ρ,R,k⟩:=LS.flow D σ H q;exact k σ R
 | Break p =>
  cases h;exact PS.imp ps_break fun D σ H q=>by
   obtain⟨ι,ρ,R,k⟩:=LS.flow D σ H q;exact k σ R
 | Continue p =>
  cases h;exact PS.imp ps_continue fun D σ H q=>by
   obtain⟨ι,ρ,R,k⟩:=LS.flow D σ H q;exact k σ R
 | If c a b p =>
  replace h:(do let k <- cC S n c;let x <- cSs S n a;let y <- cSs S n b;some (.ifS k x y))=some i:=h;obtain⟨k,h0,h⟩:=obind h;obtain⟨x,h1,h⟩:=obind h;obtain⟨y,h2,h⟩:=obind h;cases h;exact PS.imp (ps_if ((hE n).C _ _ _ _ C h0) (ih.Ss _ _ _ _ C hf h1) (ih.Ss _ _ _ _ C hf h2)) LS.ifS
 | For t iter b o p =>
  replace h:noneK o (forT S n t iter (cSs S n b))=some i:=h;cases o with
  | cons _ _=>cases h
  | nil =>
   replace h:forT S n t iter (cSs S n b)=some i:=h;cases t with
   | Name x p =>
    replace h:(if S.loc x then (do let i <- slot S.N x;let it <- cT S n iter;let y <- cSs S n b;some (.forS i it y)) else none)=some i:=h;split at h
    ·rename_i hl
     obtain⟨j,h0,h⟩:=obind h;obtain⟨it,h1,h⟩:=obind h;obtain⟨y,h2,h⟩:=obind h;cases h;have hN:=slot_get h0;rw[<- C.n]at hN;obtain⟨t1,t2⟩:=(hE n).T _ X (.Name x p) _ _ C h1;exact PS.imp (ps_for hp C.calm t1 (pg_name C.nd hN (C.loc hl) (.inl (hf x))) (ih.Ss _ _ _ _ C hf h2) t2) LS.loop
    ·cases h
   | Tuple ts k1 p1 =>
    replace h:pairT S n ts iter (cSs S n b)=some i:=h;rcases ts with _ | ⟨a,_ | ⟨b2,_ | ⟨_,_⟩⟩⟩
    ·cases h
    ·cases h
    ·replace h:pair2 S n a b2 iter (cSs S n b)=some i:=h
     exact pair_sound hE C hf hp (fun y h2=>ih.Ss _ _ _ _ C hf h2) h
    ·cases h
   | _=>cases h
 | _=>cases h
theorem sound_Ss (ih:SoundS Γ n)(S:Sc)(X:Cx)(e:List Stmt)(i:ISs)(C:CxOk Γ S X)(hf:∀ x,X.fn x=true)(h:cSs S (n + 1) e=some i):PSs X e (LS X.K (semSs Γ i)):=by
 unfold cSs at h;cases e with
 | nil =>
  cases h;exact PSs.imp pss_nil fun D σ H q=>by
   obtain⟨ι,ρ,R,k⟩:=LS.flow D σ H q;exact k σ R
 | cons s r =>
  obtain⟨x,h1,h⟩:=obind h;obtain⟨y,h2,h⟩:=obind h;cases h;exact PSs.imp (pss_cons (ih.S _ _ _ _ C hf h1) (ih.Ss _ _ _ _ C hf h2)) LS.seq
theorem soundS (hE:∀ n,Sound Γ n):∀ n,SoundS Γ n
 | 0=>⟨(fun _ _ _ _ _ _ h=>by cases h),(fun _ _ _ _ _ _ h=>by unfold cSs at h;cases h)⟩
 | n + 1=>⟨sound_S hE (soundS hE n),sound_Ss (soundS hE n)⟩
end
end L3
namespace L3
open PySem PySem.Spec PyProof.Rows L2
theorem on1 {α:Type}{P:List α->Prop}(h:∀ a,P [a]):∀ us:List α,us.length=1->P us
 | [a],_=>h a
theorem on2 {α:Type}{P:List α->Prop}(h:∀ a b,P [a,b]):∀ us:List α,us.length=2->P us
 | a::r,z9=>on1 (P:=fun r=>P (a::r)) (fun b=>h a b) r (Nat.succ.inj z9)
theorem on3 {α:Type}{P:List α->Prop}(h:∀ a b c,P [a,b,c]):∀ us:List α,us.length=3->P us
 | a::r,z9=>on2 (P:=fun r=>P (a::r)) (fun b c=>h a b c) r (Nat.succ.inj z9)
theorem on4 {α:Type}{P:List α->Prop}(h:∀ a b c d,P [a,b,c,d]):∀ us:List α,us.length=4->P us
 | a::r,z9=>on3 (P:=fun r=>P (a::r)) (fun b c d=>h a b c d) r (Nat.succ.inj z9)
theorem on5 {α:Type}{P:List α->Prop}(h:∀ a b c d e,P [a,b,c,d,e]):∀ us:List α,us.length=5->P us
 | a::r,z9=>on4 (P:=fun r=>P (a::r)) (fun b c d e=>h a b c d e) r (Nat.succ.inj z9)
theorem on6 {α:Type}{P:List α->Prop}(h:∀ a b c d e f,P [a,b,c,d,e,f]):∀ us:List α,us.length=6->P us
 | a::r,z9=>on5 (P:=fun r=>P (a::r)) (fun b c d e f=>h a b c d e f) r (Nat.succ.inj z9)
structure Ent where
 x:Str
 st:Stmt
 N:List Str
 ps:List Str
 b:ISs
noncomputable def tabOf (es:List Ent):List (Str×Fd):=es.map fun e=>(e.x,⟨e.N.length,e.ps.length,e.b⟩)
noncomputable def DefR (K:PySem.W.Frag)(mg:Str->Option Value)(es:List Ent)(gls bls:List Str)(e:Ent):Prop:=∃ (fa:Addr) (fd:FuncData),Fun K e.x e.x e.st fa fd/\mg e.x=some (.ref fa)/\Binds K fd e.ps []/\FnScope e.N e.ps (defScope e.st) /\
 cSs ⟨defScope e.st,e.N,es.map (·.x),gls,bls⟩ 200 (defBody e.st)=some e.b/\(tabOf es).lookup e.x=some ⟨e.N.length,e.ps.length,e.b⟩
noncomputable def GlR (K:PySem.W.Frag)(mg:Str->Option Value)(gl:Str->Option D)(x:Str):Prop:=∃ d u v,gl x=some d/\mg x=some u/\RelV v u/\∀ ι H,Rep K ι H d v
section
variable {P:Program}{w:World}{K:PySem.W.Frag}{mg:Str->Option Value}{base:Heap}{es:List Ent}{gls bls:List Str}{gl:Str->Option D}{srt:List D->Option (List D)}{wh:Nat}
theorem env_start {ι:List Addr}{H:Hp}{ds:List D}{vs:List V}{N:List Str}(r:Reps K ι H ds vs):EnvR K ι H (ds.map some++ya (N.length - ds.length) none) (start N vs) where
 len:=by
  unfold L2.start;rw[zt,zt,zz,zz,yt,yt,r.length]
 val:=fun i d e=>by
  unfold L2.start;by_cases hi:i < ds.length
  ·rw[zd (by rw[zz];exact hi),zv]at e
   rw[zd (by rw[zz,<- r.length];exact hi),zv];cases q:ds[i]? with
   | none=>rw[q]at e;cases e
   | some d' =>
    rw[q]at e;cases e;obtain⟨v,hv,rv⟩:=r.get q;exact⟨v,by rw[hv];rfl,rv⟩
  ·rw[zC (by rw[zz];omega),xx]at e
   split at e <;> cases e
theorem hu100 {A:Around}{k:Nat}(hr:Room k A):A.units + 100 < cLine:=by have:=hr.un;omega
theorem fns_ok (hsrt:∀ k,SrtOk (CtxN (tabOf es) gl srt wh k))(hd:∀ e∈es,DefR K mg es gls bls e)(hg:∀ x∈gls,GlR K mg gl x)(hb:∀ x∈bls,mg x=none):∀ (k:Nat) (e:Ent),e∈es->∃ (fa:Addr) (fd:FuncData),Fun K e.x e.x e.st fa fd /\
  mg e.x=some (.ref fa)/\PySem.W.keepIn K (.ref fa)=true/\Binds K fd e.ps []/\FnOk P w K mg base CX0 k fa fd e.ps (spOf K e.ps.length ((CtxN (tabOf es) gl srt wh k).fn e.x)) /\
  ∀ ds M d M',(CtxN (tabOf es) gl srt wh k).fn e.x ds M=some (.ok d,M')->ds.length=e.ps.length:=by
 intro k;induction k with
 | zero =>
  intro e he;obtain⟨fa,fd,F,hm,hbn,_⟩:=hd e he;refine⟨fa,fd,F,hm,F.kp,hbn,⟨fun vs H Q E h=>h.1,fun A outer s H args us vs Q E _ _ _ _ h=>?_⟩,fun ds M d M' h=>?_⟩
  ·obtain⟨_,_,_,_,_,_,_,_,e,_⟩:=h
   exact(stop_ok e).elim
  ·exact(stop_ok h).elim
 | succ k ih =>
  intro e he;obtain⟨fa,fd,F,hm,hbn,hS,hc,ht⟩:=hd e he;have hfn:(CtxN (tabOf es) gl srt wh (k + 1)).fn e.x=fun xs=>(do need (xs.length=e.ps.length);semF (CtxN (tabOf es) gl srt wh k) e.N.length e.b xs:Mo D):=by
   funext xs;show (match (tabOf es).lookup e.x with
    | some d=>(do need (xs.length=d.p);semF (CtxN (tabOf es) gl srt wh k) d.n d.b xs:Mo D)
    | none=>Mo.stop)=_
   rw[ht]
  refine⟨fa,fd,F,hm,F.kp,hbn,?_,fun ds M d M' h=>?_⟩
  ·refine F.ok hS (fun vs H Q E h=>h.1) (fun cdv A outer s H vs Q E hr h=>?_)
   obtain⟨hl,ι,M,M',ds,d,S,r,eq,kk⟩:=h;rw[hfn]at eq;obtain⟨_,M0,e1,eq1⟩:=bind_ok eq;obtain⟨hn,hM⟩:=need_ok e1;rw[hM]at eq1;obtain⟨f,M1,e2,eq2⟩:=bind_ok eq1;have C:CxOk (CtxN (tabOf es) gl srt wh k) ⟨defScope e.st,e.N,es.map (·.x),gls,bls⟩ (cxOf CX0 P w K mg base e.N e.x (defScope e.st) fa cdv A outer s H E).nox:={
    n:=rfl
    sc:=fun x q hx=>⟨q,hx,.inl rfl⟩
    calm:=rfl
    hu:=hu100 hr
    nox:=rfl
    fns:=fun x hx=>by
     obtain⟨e',he',rfl⟩:=zU.mp hx;obtain⟨fa',fd',_,g1,g2,g3,g4,g5⟩:=ih e' he';exact⟨k,fa',fd',e'.ps,g1,g2,g3,g4,hr,g5⟩
    gls:=fun x hx=>by
     obtain⟨d',u,v,g1,g2,g3,g4⟩:=hg x hx;refine⟨d',u,v,?_,g2,g3,g4⟩;cases k <;> exact g1
    bls:=hb
    nd:=hS.nd }
   refine⟨_,(soundS (sound (hsrt k)) 200).Ss _ _ _ _ C (fun _=>rfl) hc,?_⟩;refine⟨ι,_,_,f,M1,S,env_start (N:=e.N) r,e2,fun H' ι' S' X'=>?_⟩;cases f with
   | nx ρ=>obtain⟨rfl,rfl⟩:=pure_ok eq2;exact fun σ _=>kk .non H' ι' .non S' X'
   | rt v=>obtain⟨rfl,rfl⟩:=pure_ok eq2;exact fun v' r'=>kk v' H' ι' r' S' X'
   | bk ρ=>exact(stop_ok eq2).elim
   | ct ρ=>exact(stop_ok eq2).elim
  ·rw[hfn]at h
   obtain⟨_,_,e1,_⟩:=bind_ok h;exact(need_ok e1).1
theorem law_fn (hsrt:∀ k,SrtOk (CtxN (tabOf es) gl srt wh k))(hd:∀ e∈es,DefR K mg es gls bls e)(hg:∀ x∈gls,GlR K mg gl x)(hb:∀ x∈bls,mg x=none)(k:Nat){e:Ent}(he:e∈es){fa:Addr}{fd:FuncData}(F:Fun K e.x e.x e.st fa fd)(hm:mg e.x=some (.ref fa)) :
  FnOk P w K mg base CX0 k fa fd e.ps (spOf K e.ps.length ((CtxN (tabOf es) gl srt wh k).fn e.x)):=by
 obtain⟨fa',fd',F',hm',_,_,g,_⟩:=fns_ok (P:=P) (w:=w) (base:=base) hsrt hd hg hb k e he;rw[hm]at hm';cases hm';obtain⟨_,_,_,_,_,_,_,_,_,_,l1,_⟩:=F.ex;obtain⟨_,_,_,_,_,_,_,_,_,_,l2,_⟩:=F'.ex;rw[l1]at l2;cases l2;exact g
end
theorem ints_reps {K:PySem.W.Frag}{ι:List Addr}{H:Hp}:∀ ns:List Int,Reps K ι H (ns.map D.int) (ns.map V.int)
 | []=>.nil
 | n::r=>.cons (.int n) (ints_reps r)
theorem fz_of {K:PySem.W.Frag}{H:Hp}{a:Addr}{xs:List V}(hO:Only H)(h:SqL K H a xs):FzL K H a xs:=by
 rcases h with (h | h) | h
 ·rcases hO a with z | ⟨o,ys,z⟩
  ·rw[z]at h;cases h
  ·rw[z]at h;cases h
 ·exact .inl h
 ·exact .inr h
theorem sp_law {K:PySem.W.Frag}{H:Hp}{a:Addr}{ns:List Int}{g:List D->Mo D}{E:XK}(hO:Only H)(hS:SqL K H a (ns.map V.int))(hg:∃ M',g [.fl (ns.map .int)] []=some (.ok (.bl true),M')):spOf K 1 g [.ref a] H (fun v _=>v=.bl true) E:=by
 obtain⟨M',e⟩:=hg;refine⟨rfl,[],[],M',_,_,⟨rfl,fun i j a h=>by simp at h,fun i a o h=>by simp at h⟩,.cons (.fl (fz_of hO hS) (ints_reps ns)) .nil,e,fun v H' ι' r _ _=>?_⟩;cases r;rfl
end L3
namespace L3
open PySem PySem.Spec PyProof.Rows L2
noncomputable def evalK {α:Type}(lt:Nat->Nat->Option Bool):PySem.W.KasT α->Option α
 | .ret a=>some a
 | .ask i j k=>match lt i j with
  | none=>none
  | some b=>evalK lt (k b)
theorem evalK_wp {α:Type}{lt:Nat->Nat->Option Bool}{cmp:Nat->Nat->(Bool->Shared->Prop)->Shared->Prop}{s:Shared}{a:α}{Q:α->Shared->Prop}(hc:∀ i j b (C:Bool->Shared->Prop),lt i j=some b->C b s->cmp i j C s)(q:Q a s) :
  ∀ (t:PySem.W.KasT α),evalK lt t=some a->t.kasWp cmp Q s
 | .ret b,h=>by cases h;exact q
 | .ask i j k,h=>by
  unfold evalK at h;cases e:lt i j with
  | none=>rw[e]at h;cases h
  | some b =>
   rw[e]at h;exact hc i j b _ e (evalK_wp hc q (k b) h)
section
variable {prog:Program}{w:World}{A:Around}{E:Value->Shared->Prop}{s:Shared}{a:Addr}{vs:List Value}{n:Nat}{P:PySem.Fin->Shared->Prop}
theorem list_sort_small (ho:s.heap.get? a=some (seqObj "list" vs.toArray n))(h2:vs.length < 2)
  (h:∀ h' c,(∀ b o,b≠a->s.heap.get? b=some o->h'.get? b=some o)->h'.get? a=some (seqObj "list" vs.toArray c)->P (.done (.ret .none)) { s with heap:=h' }) :
  wpAny (model prog w) A (Builtin.«list.sort» ⟨[.ref a],[]⟩) P E s:=by
 rw[list_sort_plain];have ha:a < s.heap.objs.size:=zf ho;refine zy (listItems_at ho rfl ?_);refine zy (listUpdate_at ho rfl ?_ (by rw[zl,sizeLine_eq];omega) (zI _));obtain⟨e1,ho1⟩:∃ e1,(s.heap.update a (Obj.mapSeq fun _=>#[])).get? a=some (seqObj "list" #[] e1):=⟨_,get?_update_seq ho (fun _=>#[])⟩;refine zy (seqEpoch_at ho1 rfl ?_);refine zy (wpAny_newTuple ?_ (by show vs.length<=_;rw[sizeLine_eq];omega));refine zy (wpAny_newList ?_ (zI _));refine wpAny_holding ?_;have ho6:(((s.heap.update a (Obj.mapSeq fun _=>#[])).push (seqObj "tuple" vs.toArray 0)).push (seqObj "list" #[] 0)).get? a=some (seqObj "list" #[] e1):=by
  rw[yn _ _ _ (by rw[size_push',ye];exact za (yB ha)),yn _ _ _ (by rw[ye];exact za ha)];exact ho1
 show wpAny (model prog w) A _ P E { s with heap:=((s.heap.update a (Obj.mapSeq fun _=>#[])).push (seqObj "tuple" vs.toArray 0)).push (seqObj "list" #[] 0) };dsimp only;have hlt:vs.toArray.size < 2:=by rw[zl];exact h2
 rw[if_pos hlt,if_pos hlt];refine zy (zq ?_);rw[StateT.run_pure];refine zy (zq ?_);dsimp only;have hz:∀ l:List Value,(l.toArray.zip l.toArray).map (fun x=>x.2)=l.toArray:=fun l=>by
  apply xi.mp;simp only[Array.toList_map,Array.toList_zip];induction l with
  | nil=>rfl
  | cons x r ih=>simpa using ih
 refine zy (seqEpoch_at ho6 rfl ?_);refine zy (listUpdate_at ho6 rfl ?_ (zI _) (hsz2:=by rw[hz,zl,sizeLine_eq];omega));simp only[bne_self_eq_false,yH,if_false];rw[hz];obtain⟨c2,hc2⟩:∃ c2,((((s.heap.update a (Obj.mapSeq fun _=>#[])).push (seqObj "tuple" vs.toArray 0)).push (seqObj "list" #[] 0)).update a (Obj.mapSeq fun _=>vs.toArray)).get? a=some (seqObj "list" vs.toArray c2):=⟨_,get?_update_seq ho6 fun _=>vs.toArray⟩;refine zq (h _ c2 (fun b o hb e=>?_) hc2);have hlt:b < s.heap.objs.size:=zf e;rw[yR _ _ _ _ hb,yn _ _ _ (by rw[size_push',ye];exact za (yB hlt)),yn _ _ _ (by rw[ye];exact za hlt),yR _ _ _ _ hb];exact e
theorem list_sort_any {κ:SortKind}{lt:Nat->Nat->Option Bool}{p:Array Nat}(ho:s.heap.get? a=some (seqObj "list" vs.toArray n))(h2:2<=vs.length)(h64:vs.length < 64)
  (hk:∀ h',(∀ b o,b≠a->s.heap.get? b=some o->h'.get? b=some o)->∀ (Q:SortKind->Shared->Prop),Q κ { s with heap:=h' }->wpAny (model prog w) A (keyKind' vs.toArray) Q (fun _ _=>False) { s with heap:=h' })
  (hc:∀ h',(∀ b o,b≠a->s.heap.get? b=some o->h'.get? b=some o)->∀ i j b (C:Bool->Shared->Prop),lt i j=some b->C b { s with heap:=h' }->PySem.W.kas_ask prog w A κ vs i j C { s with heap:=h' })
  (he:evalK lt (PySem.W.kas_sort vs.length)=some p)
  (h:∀ h' c,p.size=vs.length->(∀ b o,b≠a->s.heap.get? b=some o->h'.get? b=some o)->h'.get? a=some (seqObj "list" (List.toArray (p.toList.map fun i=>vs.getD i Value.none)) c)->P (.done (.ret .none)) { s with heap:=h' }) :
  wpAny (model prog w) A (Builtin.«list.sort» ⟨[.ref a],[]⟩) P E s:=by
 have ha:a < s.heap.objs.size:=zf ho;obtain⟨e1,ho1⟩:∃ e1,(s.heap.update a (Obj.mapSeq fun _=>(#[]:Array Value))).get? a=some (seqObj "list" #[] e1):=⟨_,get?_update_seq ho fun _=>#[]⟩;have keep:∀ b o,b≠a->s.heap.get? b=some o->(((s.heap.update a (Obj.mapSeq fun _=>(#[]:Array Value))).push (seqObj "tuple" vs.toArray 0)).push (seqObj "list" #[] 0)).get? b=some o:=fun b o hb e=>by
  have hlt:b < s.heap.objs.size:=zf e;rw[yn _ _ _ (by rw[size_push',ye];exact za (yB hlt)),yn _ _ _ (by rw[ye];exact za hlt),yR _ _ _ _ hb];exact e
 have ho6:(((s.heap.update a (Obj.mapSeq fun _=>(#[]:Array Value))).push (seqObj "tuple" vs.toArray 0)).push (seqObj "list" #[] 0)).get? a=some (seqObj "list" #[] e1):=by
  rw[yn _ _ _ (by rw[size_push',ye];exact za (yB ha)),yn _ _ _ (by rw[ye];exact za ha)];exact ho1
 rw[list_sort_plain];refine zy (listItems_at ho rfl ?_);refine zy (listUpdate_at ho rfl ?_ (by rw[zl,sizeLine_eq];omega) (zI _));refine zy (seqEpoch_at ho1 rfl ?_);refine zy (wpAny_newTuple ?_ (by show vs.length<=_;rw[sizeLine_eq];omega));refine zy (wpAny_newList ?_ (zI _));refine wpAny_holding ?_;show wpAny (model prog w) A _ P E { s with heap:=((s.heap.update a (Obj.mapSeq fun _=>(#[]:Array Value))).push (seqObj "tuple" vs.toArray 0)).push (seqObj "list" #[] 0) };dsimp only;have hn2:¬ vs.toArray.size < 2:=by rw[zl];omega
 rw[if_neg hn2,if_neg hn2];refine zy (wpAny_mono (hk _ keep (fun κ' s'=>κ'=κ/\s' = { s with heap:=((s.heap.update a (Obj.mapSeq fun _=>(#[]:Array Value))).push (seqObj "tuple" vs.toArray 0)).push (seqObj "list" #[] 0) }) ⟨rfl,rfl⟩) (fun κ' s0 hq=>?_) fun _ _ x=>x.elim);obtain⟨rfl,rfl⟩:=hq;refine zy (wpAny_mono (PySem.W.kat_run (Q:=fun st' s'=>∃ q:Array Nat,q.size=vs.length/\arrOf st'=q.map (PySem.W.kas_item (vs.toArray.zip vs.toArray))/\failedOf st'=none/\q=p/\s' = { s with heap:=((s.heap.update a (Obj.mapSeq fun _=>(#[]:Array Value))).push (seqObj "tuple" vs.toArray 0)).push (seqObj "list" #[] 0) })
  (G:=fun q s'=>q=p/\s' = { s with heap:=((s.heap.update a (Obj.mapSeq fun _=>(#[]:Array Value))).push (seqObj "tuple" vs.toArray 0)).push (seqObj "list" #[] 0) })
  rfl h2 h64 (fun p' st' s' a1 a2 a3 a4=>⟨p',a1,a2,a3,a4.1,a4.2⟩) (evalK_wp (hc _ keep) ⟨rfl,rfl⟩ _ he)) ?_ fun _ _ e=>e)
 rintro ⟨⟨⟩,st'⟩ s' ⟨q,hp,har,hf,rfl,rfl⟩;dsimp only;have hout:=PySem.W.kat_snds rfl har;have hsz:(List.toArray (q.toList.map fun i=>vs.getD i Value.none)).size=vs.length:=by rw[zl,zz,zT,hp]
 rw[hout];obtain⟨c2,hc2⟩:∃ c2,((((s.heap.update a (Obj.mapSeq fun _=>(#[]:Array Value))).push (seqObj "tuple" vs.toArray 0)).push (seqObj "list" #[] 0)).update a (Obj.mapSeq fun _=>List.toArray (q.toList.map fun i=>vs.getD i Value.none))).get? a=some (seqObj "list" (List.toArray (q.toList.map fun i=>vs.getD i Value.none)) c2):=⟨_,get?_update_seq ho6 fun _=>List.toArray (q.toList.map fun i=>vs.getD i Value.none)⟩;refine zy (seqEpoch_at ho6 rfl ?_);refine zy (listUpdate_at ho6 rfl ?_ (zI _) (zK (yc hsz) (by rw[sizeLine_eq];omega)));rw[hf];simp only[bne_self_eq_false,yH,if_false];refine zq (h _ c2 hp (fun b o hb e=>?_) hc2);rw[yR _ _ _ _ hb];exact keep b o hb e
end
end L3
namespace L3
open PySem PySem.Spec PyProof.Rows L2
noncomputable def lexK:List D->List D->Option Bool
 | [],[]=>some false
 | [],_::_=>some true
 | _::_,[]=>some false
 | x::xs,y::ys=>if (flatD x&&flatD y)=true then (if eqF x y=true then lexK xs ys else ltD x y) else none
noncomputable def firstStr:D->Bool
 | .tup (.str _::_)=>true
 | _=>false
noncomputable def firstInt:D->Bool
 | .tup (.int _::_)=>true
 | _=>false
noncomputable def cmpT (ds:List D)(i j:Nat):Option Bool:=match ds[i]?,ds[j]? with
 | some (.tup xs),some (.tup ys)=>lexK xs ys
 | _,_=>none
noncomputable def sortT (ds:List D):Option (List D):=if ds.length < 2 then some ds else if (decide (ds.length < 64)&&(ds.all firstStr||ds.all firstInt))=true then
 (evalK (cmpT ds) (PySem.W.kas_sort ds.length)).map fun p=>p.toList.map fun i=>ds.getD i .non else none
noncomputable def sortD (ds:List D):Option (List D):=match sortF ds with
 | some ys=>if ds.length < 64 then some ys else none
 | none=>sortT ds
theorem sortD_str {xs:List Str}(h:xs.length < 64):sortD (xs.map .str)=some ((sortS xs).map .str):=by
 unfold sortD sortF;rw[allS_map];dsimp only;rw[if_pos (by rw[zz];exact h)]
section
variable {X:Cx}{pins:List (Addr×Obj)}{σ:St}{H:Hp}{s:Shared}{ι:List Addr}{A:Around}
noncomputable def TupAt (h:Heap)(u:Value)(us:List Value):Prop:=∃ a o n,u=.ref a/\h.get? a=some o/\o.cls=.type "tuple"/\o.data=.seq us.toArray n
theorem tupAt_of (I:Inv X pins σ H s){d:D}{ds:List D}{v:V}{u:Value}(r:Rep X.K ι H (.tup ds) v)(ru:RelV v u):∃ vs us,Reps X.K ι H ds vs/\Vals vs us/\TupAt s.heap u us:=by
 cases r with
 | tup t q =>
  obtain⟨its,rv,⟨o,h1,h2,n,h3⟩,_⟩:=I.tuple (sqt t);cases ru;exact⟨_,its,q,rv,_,o,n,rfl,h1,h2,h3⟩
theorem lex_wp {b fin:Bool}{Q:Bool->Shared->Prop}{xs:List D}:∀ {ys:List D} {vs ws:List V} {us zs:List Value} {c:Bool} {i:Nat} {s:Shared},Reps X.K ι H xs vs->Reps X.K ι H ys ws->Vals vs us->Vals ws zs->lexK xs ys=some c->(decide (xs.length < ys.length)=fin) ->
  Q c s->(b=true->i=0->∃ x y xs' ys',xs=x::xs'/\ys=y::ys'/\((∃ p q,x=.str p/\y=.str q)\/∃ p q,x=.int p/\y=.int q))->PySem.W.KatLex X.prog X.w A b fin Q (us.zip zs) i s:=by
 induction xs with
 | nil =>
  intro ys vs ws us zs c i s r1 r2 g1 g2 h hf q _;cases r1;cases g1;cases r2 with
  | nil =>
   cases g2;simp only[lexK,Option.some.injEq]at h;subst h
   have:fin=false:=by rw[<- hf];rfl
   subst this;exact PySem.W.kat_nil q
  | cons r2 t2 =>
   cases g2 with
   | cons g2 k2 =>
    simp only[lexK,Option.some.injEq]at h;subst h
    have:fin=true:=by rw[<- hf];simp
    subst this;exact PySem.W.kat_nil q
 | cons x xs ih =>
  intro ys vs ws us zs c i s r1 r2 g1 g2 h hf q h0;cases r1 with
  | cons r1 t1 =>
  cases g1 with
  | cons g1 k1 =>
  cases ys with
  | nil =>
   cases r2;cases g2;simp only[lexK,Option.some.injEq]at h;subst h
   have:fin=false:=by rw[<- hf];simp
   subst this;exact PySem.W.kat_nil q
  | cons y ys =>
  cases r2 with
  | cons r2 t2 =>
  cases g2 with
  | cons g2 k2 =>
  simp only[lexK]at h;split at h
  ·rename_i hfl
   rw[zk]at hfl;rw[List.zip_cons_cons];have eq:=eqAt_V (A:=A) (s:=s) g1 g2 (flat_rep r1 hfl.1) (flat_rep r2 hfl.2);refine PySem.W.kat_cons (eq X.prog X.w _ _ ?_);rw[eq_rep r1 r2 hfl.1 hfl.2];split at h
   ·rename_i he
    rw[he];refine PySem.W.kat_yes (ih t1 t2 k1 k2 h (by rw[<- hf];simp) q fun _ z=>by omega)
   ·rename_i he
    have he':eqF x y=false:=by simpa using he
    rw[he'];refine PySem.W.kat_no ?_;cases hb:(b&&i==0) with
    | true =>
     cases r1 <;> cases r2 <;> simp only[ltD,Option.some.injEq,reduceCtorEq]at h
     ·obtain⟨t,rfl⟩:=g1
      obtain⟨t',rfl⟩:=g2;exact oneLt_int (by rw[h];exact q)
     ·obtain⟨t,rfl⟩:=g1
      obtain⟨t',rfl⟩:=g2;exact oneLt_str (by rw[h];exact q)
    | false =>
     refine PySem.W.kat_one _ _ ?_;cases r1 <;> cases r2 <;> simp only[ltD,Option.some.injEq,reduceCtorEq]at h
     ·obtain⟨t,rfl⟩:=g1
      obtain⟨t',rfl⟩:=g2;exact lt_int (by show Q (decide _) s;rw[h];exact q)
     ·obtain⟨t,rfl⟩:=g1
      obtain⟨t',rfl⟩:=g2;exact lt_str (by show Q (decide _) s;rw[h];exact q)
  ·cases h
end
end L3
namespace L3
open PySem PySem.Spec PyProof.Rows L2
section
variable {X:Cx}{pins:List (Addr×Obj)}{σ:St}{H:Hp}{s:Shared}{ι:List Addr}{M:MH}
theorem firsts_of (I:Inv X pins σ H s){T:Value}{ds:List D}:∀ {vs:List V} {us:List Value},Reps X.K ι H ds vs->Vals vs us->(∀ d∈ds,∃ x xs,d=.tup (x::xs)/\∀ (v:V) (u:Value),Rep X.K ι H x v->RelV v u->typeOf u=pure T) ->
  ∃ fs,(∀ h',(∀ b o,s.heap.get? b=some o->o.cls=.type "tuple"->h'.get? b=some o)->PySem.W.KatTups h' us fs)/\fs.length=us.length/\∀ f∈fs,typeOf f=pure T:=by
 induction ds with
 | nil =>
  intro vs us r g _;cases r;cases g;exact⟨[],fun _ _=>.nil,rfl,fun _ h=>by simp at h⟩
 | cons d ds ih =>
  intro vs us r g h;cases r with
  | cons r t =>
  cases g with
  | cons g k =>
  obtain⟨x,xs,rfl,hx⟩:=h d zJ;obtain⟨fs,h1,h2,h3⟩:=ih t k fun e he=>h e (zF _ he);obtain⟨vs',us',q,rv,a,o,n,rfl,ho,hc,hd⟩:=tupAt_of (d:=.non) I r g;cases q with
  | cons q1 q2 =>
   cases rv with
   | cons g1 g2 =>
    rename_i v1 vr u1 ur;refine⟨u1::fs,fun h' kk=>PySem.W.KatTups.cons (kk _ _ ho hc) hc hd (by simp) (h1 h' kk),by rw[zA,zA,h2],fun f hf=>?_⟩;rcases zG.mp hf with rfl | hf
    ·exact hx v1 _ q1 g1
    ·exact h3 f hf
theorem vals_getD {vs:List V}{us:List Value}(r:Vals vs us)(i:Nat):RelV (vs.getD i .non) (us.getD i Value.none):=by
 rw[zg,zg];cases e:vs[i]? with
 | none=>rw[r.none_of e];rfl
 | some v =>
  obtain⟨u,hu,ru⟩:=r.get e;rw[hu];exact ru
theorem reps_getD {ds:List D}{vs:List V}(r:Reps X.K ι H ds vs)(i:Nat):Rep X.K ι H (ds.getD i .non) (vs.getD i .non):=by
 rw[zg,zg];cases e:ds[i]? with
 | none =>
  have:vs[i]?=none:=yK.mpr (by rw[<- r.length];exact yK.mp e)
  rw[this];exact .non
 | some d =>
  obtain⟨v,hv,rv⟩:=r.get e;rw[hv];exact rv
theorem vals_map {α:Type}{f:α->V}{g:α->Value}(h:∀ i,RelV (f i) (g i)):∀ l:List α,Vals (l.map f) (l.map g)
 | []=>.nil
 | i::l=>.cons (h i) (vals_map h l)
theorem reps_map {α:Type}{f:α->D}{g:α->V}(h:∀ i,Rep X.K ι H (f i) (g i)):∀ l:List α,Reps X.K ι H (l.map f) (l.map g)
 | []=>.nil
 | i::l=>.cons (h i) (reps_map h l)
theorem strsA:∀ {xs:List Str} {vs:List V} {us:List Value},Reps X.K ι H (xs.map .str) vs->Vals vs us->StrsAre us xs
 | [],_,_,.nil,.nil=>.nil
 | x::xs,_,_,.cons r t,.cons g k=>by
  cases r;obtain⟨t',rfl⟩:=g;exact .cons x t' (strsA t k)
theorem ofStrsA:∀ {xs:List Str} {us:List Value},StrsAre us xs->Vals (xs.map V.str) us/\Reps X.K ι H (xs.map .str) (xs.map V.str)
 | _,_,.nil=>⟨.nil,.nil⟩
 | _,_,.cons x t h=>⟨.cons ⟨t,rfl⟩ (ofStrsA h).1,.cons (.str x) (ofStrsA h).2⟩
theorem ofIntsA:∀ {xs:List Int} {us:List Value},IntsAre us xs->Vals (xs.map V.int) us/\Reps X.K ι H (xs.map .int) (xs.map V.int)
 | _,_,.nil=>⟨.nil,.nil⟩
 | _,_,.cons x t h=>⟨.cons ⟨t,rfl⟩ (ofIntsA h).1,.cons (.int x) (ofIntsA h).2⟩
theorem rising_pw:∀ {p:Str} {l:List Str},risingS p l=true->(p::l).Pairwise fun a b=>leS a b=true
 | p,[],_=>List.pairwise_singleton _ _
 | p,x::r,h=>by
  have h:(!ltCps x.cps.toList p.cps.toList&&risingS x r)=true:=h;rw[zk,ltCps_eq]at h;have h2:=rising_pw h.2;refine List.pairwise_cons.mpr ⟨fun b hb=>?_,h2⟩;rcases zG.mp hb with rfl | hb
  ·exact h.1
  ·exact leS_trans _ _ _ h.1 (List.rel_of_pairwise_cons h2 hb)
theorem sorted_pw {l:List Str}(h:sortedS l=true):l.Pairwise fun a b=>leS a b=true:=by
 cases l with
 | nil=>exact .nil
 | cons x r=>exact rising_pw h
theorem sort_tracked {A:Around}{E:Value->Shared->Prop}(hu:A.units + 10 < cLine)(I:Inv X pins σ H s){l:Addr}{vs:List V}{ds ys:List D}(hl:H l=some (.lst vs))(r:Reps X.K ι H ds vs)(hs:sortD ds=some ys){Q:Value->Shared->Prop}
  (q:∀ (ws:List V) (s':Shared),Reps X.K ι H ys ws->Inv X pins σ (upd H l (.lst ws)) s'->Q .none s'):wpAny (model X.prog X.w) A (call (.builtin "list.sort") [.ref l]) Q E s:=by
 obtain⟨hz,its,n,rv,hg⟩:=I.hok l _ hl;have hlen:ds.length=its.length:=by rw[r.length,rv.length]
 have fin:∀ (ws:List V) (us:List Value) (h':Heap) (c:Nat),Reps X.K ι H ys ws->Vals ws us->ws.length<=zj->(∀ b o,b≠l->s.heap.get? b=some o->h'.get? b=some o)->h'.get? l=some (seqObj "list" us.toArray c)->Q .none { s with heap:=h' }:=fun ws us h' c hr hv hw kk hg' =>
  q ws _ hr (I.write (x:=l) (e:=l) (t':=s.toks) (by rw[hl];trivial) (.inl rfl) kk ⟨_,hg'⟩ ⟨hw,us,c,hv,hg'⟩)
 refine wpAny_call_entry slot_list_sort ⟨_,hg,rfl⟩ entry_list_sort ?_ (args_list_sort _);have hout:∀ {out:Array Value} (b:Addr) (o:Obj),b≠l->s.heap.get? b=some o->(sortedHeap s.heap l its out).get? b=some o:=fun b o hb e=>by
  rw[sortedHeap_old hb (zf e)];exact e
 unfold sortD at hs;split at hs
 ·rename_i ys' hf
  split at hs
  ·rename_i h64
   cases hs;have h64':its.length < 64:=by rw[<- hlen];exact h64
   unfold sortF at hf;split at hf
   ·rename_i xs hx
    cases hf;have ex:=allS_eq hx;subst ex;have hS:=strsA r rv;refine list_sort_treeK strKind_oneLt hg hS.keysOf (fun v₁ v₂ rest e=>keyKind_strs (by rw[<- e];exact hS)) h64' fun st' hp hs=>?_;obtain⟨ss',h1,h2,h3⟩:=sorted_out_str hS hp hs;have e:=sortS_uniq h2 (sorted_pw h3);subst e;obtain⟨g1,g2⟩:=ofStrsA (X:=X) (H:=H) (ι:=ι) h1;obtain⟨c,hc⟩:=sortedHeap_at (out:=(arrOf st').map (·.2)) hg;exact⟨_,rfl,fin _ _ _ c g2 g1 (by rw[zz,(sortS_perm xs).length_eq,sizeLine_eq];rw[zz]at h64;omega) hout (by rw[hc])⟩
   ·split at hf
    ·rename_i xs hx
     cases hf;have ex:=allI_eq hx;subst ex;have hS:=intsA r rv;refine list_sort_tree hg hS h64' fun out ss' h1 h2 h3=>?_;have e:=sortI_uniq h2 h3;subst e;obtain⟨g1,g2⟩:=ofIntsA (X:=X) (H:=H) (ι:=ι) h1;obtain⟨c,hc⟩:=sortedHeap_at (out:=out) hg;exact⟨_,rfl,fin _ _ _ c g2 g1 (by rw[zz,(sortI_perm xs).length_eq,sizeLine_eq];rw[zz]at h64;omega) hout (by rw[hc])⟩
    ·cases hf
  ·cases hs
 unfold sortT at hs;split at hs
 ·rename_i h2
  cases hs;exact list_sort_small hg (by rw[<- hlen];exact h2) fun h' c kk hg'=>⟨_,rfl,fin vs its h' c r rv hz kk hg'⟩
 ·rename_i h2
  split at hs
  ·rename_i hb
   simp only[zk,decide_eq_true_eq,yU]at hb;cases he:evalK (cmpT ds) (PySem.W.kas_sort ds.length) with
   | none=>rw[he]at hs;cases hs
   | some p =>
    rw[he]at hs;simp only[xz,Option.some.injEq]at hs;subst hs;have key:∀ T:Value,(T==T)=true->(∀ d∈ds,∃ x xs,d=.tup (x::xs)/\∀ (v:V) (u:Value),Rep X.K ι H x v->RelV v u->typeOf u=pure T)->T≠.type "tuple" ->
      wpAny (model X.prog X.w) A.in1 (Builtin.«list.sort» ⟨[.ref l],[]⟩) (fun fin s'=>∃ v,fin=.done (.ret v)/\Q v s') E s:=fun T hT hd hne=>by
     obtain⟨fs,f1,f2,f3⟩:=firsts_of I r rv hd;have tk:∀ {h':Heap},(∀ b o,b≠l->s.heap.get? b=some o->h'.get? b=some o)->∀ b o,s.heap.get? b=some o->o.cls=.type "tuple"->h'.get? b=some o:=fun {h'} kk b o e hc=>kk b o (fun z=>by
      subst z;rw[hg]at e;cases e;exact absurd hc (by show ¬ (Value.type "list" = Value.type "tuple");decide)) e
     refine list_sort_any (κ:=tuples' (T != Value.type "tuple")) (lt:=cmpT ds) (p:=p) hg (by first | lia | omega) (by first | lia | omega) (fun h' kk Q' hq=>?_) (fun h' kk i j b C hlt hC=>?_) (by rw[<- hlen];exact he) (fun h' c hps kk hg'=>?_)
     ·exact PySem.W.kat_kind (f1 h' (tk kk)) (by rw[f2];omega) (fun f hf=>PySem.W.Looks.of_pure (f3 f hf)) hT hq
     ·unfold cmpT at hlt
      split at hlt
      ·rename_i xs ys hx hy
       obtain⟨v1,hv1,q1⟩:=r.get hx;obtain⟨v2,hv2,q2⟩:=r.get hy;obtain⟨u1,hu1,ru1⟩:=rv.get hv1;obtain⟨u2,hu2,ru2⟩:=rv.get hv2;have hmx:=hd _ (zw hx);have hmy:=hd _ (zw hy);obtain⟨vs1,us1,g1,g2,a1,o1,n1,e1,ho1,hc1,hd1⟩:=tupAt_of (d:=.non) I q1 ru1;obtain⟨vs2,us2,k1,k2,a2,o2,n2,e2,ho2,hc2,hd2⟩:=tupAt_of (d:=.non) I q2 ru2;unfold PySem.W.kas_ask;have z1:its.getD i Value.none=.ref a1:=by rw[zg,hu1,e1];rfl
       have z2:its.getD j Value.none=.ref a2:=by rw[zg,hu2,e2];rfl
       rw[z1,z2];refine PySem.W.kat_lt (s:={ s with heap:=h' }) (tk kk _ _ ho1 hc1) hd1 (tk kk _ _ ho2 hc2) hd2 ?_;refine lex_wp (X:=X) (xs:=xs) (ys:=ys) g1 k1 (by simpa using g2) (by simpa using k2) hlt ?_ hC ?_
       ·have l1:=g1.length
        have l2:=g2.length;have l3:=k1.length;have l4:=k2.length;simp only[zl];congr 1;rw[eq_iff_iff];first | lia | omega
       ·intro _ _
        obtain⟨x,xr,ex,hx'⟩:=hmx;obtain⟨y,yr,ey,hy'⟩:=hmy;cases ex;cases ey;rcases hb.2 with z | z
        ·have a1:=yu.mp z _ (zw hx)
         have a2:=yu.mp z _ (zw hy);cases x <;> simp[firstStr]at a1;cases y <;> simp[firstStr]at a2;exact⟨_,_,_,_,rfl,rfl,.inl ⟨_,_,rfl,rfl⟩⟩
        ·have a1:=yu.mp z _ (zw hx)
         have a2:=yu.mp z _ (zw hy);cases x <;> simp[firstInt]at a1;cases y <;> simp[firstInt]at a2;exact⟨_,_,_,_,rfl,rfl,.inr ⟨_,_,rfl,rfl⟩⟩
      ·cases hlt
     ·refine⟨_,rfl,fin (p.toList.map fun i=>vs.getD i .non) _ h' c (reps_map (fun i=>reps_getD r i) _) (vals_map (fun i=>vals_getD rv i) _) ?_ kk hg'⟩
      rw[zz,zT,hps,sizeLine_eq];omega
    rcases hb.2 with z | z
    ·refine key (.type "str") (by decide) (fun d hd=>?_) (by decide)
     have a1:=yu.mp z _ hd;cases d <;> simp[firstStr]at a1;rename_i ds';cases ds' with
     | nil=>simp[firstStr]at a1
     | cons x xs =>
      cases x <;> simp[firstStr]at a1;refine⟨_,_,rfl,fun v u r1 r2=>?_⟩;cases r1;obtain⟨t,rfl⟩:=r2;rfl
    ·refine key (.type "int") (by decide) (fun d hd=>?_) (by decide)
     have a1:=yu.mp z _ hd;cases d <;> simp[firstInt]at a1;rename_i ds';cases ds' with
     | nil=>simp[firstInt]at a1
     | cons x xs =>
      cases x <;> simp[firstInt]at a1;refine⟨_,_,rfl,fun v u r1 r2=>?_⟩;cases r1;obtain⟨t,rfl⟩:=r2;rfl
  ·cases hs
end
end L3
namespace L3
open PySem PySem.Spec PyProof.Rows L2
section
variable {X:Cx}
end
section
variable {X:Cx}
theorem call_sortedL (hu:X.A.units + 100 < cLine):CallR X (.builtin "sorted") (fun xs H Q=>∃ p vs ι M ds ys,xs=[.ref p]/\SqL X.K H p vs/\Sim X.K ι M H/\Reps X.K ι H ds vs/\sortD ds=some ys /\
  ∀ v H' ι',Rep X.K ι' H' (.ob M.length) v->Sim X.K ι' (M++[.lst ys]) H'->Ext X.K ι H ι' H'->Q v H'):=by
 intro pins s σ H xs us Q I rv h;obtain⟨p,vs,ι,M,ds,ys,rfl,hp,S,r,hs,k⟩:=h;obtain⟨u,rfl,ru⟩:=vals1 rv;cases ru;obtain⟨its,rel,pl,hz⟩:=I.list hp;have hl:its.length<=zj:=by rw[<- rel.length];exact hz
 refine Calls.call_function_entry kind_sorted plain_sorted entry_sorted (args_sorted1 _) ?_;unfold Builtin.«sorted»;refine zy (m:=checkCount "sorted" 1 1 _) (zq ?_);refine zy (collect_list pl.isList ?_ hl);generalize hh:(s.heap.push (seqObj "list" #[] 0)).update s.heap.objs.size (Obj.mapSeq (·++its.toArray))=h';have keep:∀ b o,s.heap.get? b=some o->h'.get? b=some o:=fun b o q=>by
  have hlt:b < s.heap.objs.size:=zf q;rw[<- hh,yR _ _ _ _ (za hlt),yn _ _ _ (za hlt)];exact q
 have I1:Inv X pins σ H { s with heap:=h' }:=I.kept (t':=s.toks) keep;refine zy (wpAny_newList ?_ hl);have fr:H h'.objs.size=none:=I1.hok.fresh (zr _);have I3:Inv X pins σ (upd H h'.objs.size (.lst vs)) { s with heap:=h'.push { cls:=.type "list",data:=.seq its.toArray } } :=
  I1.laid (t':=s.toks) (fun b o e=>zo _ e) (zr _) ⟨hz,its,0,rel,zc _ rfl⟩
 have R3:=r.mono (Ext.tupN (ho:=.lst vs) fr);refine zy (wpAny_holding (sort_tracked (ι:=ι) (by first | (show X.A.units + 1 + 10 < cLine;omega) | (show X.A.units + 10 < cLine;omega)) I3 upd_same R3 hs fun ws' s' hr hI=>?_))
 refine zq ⟨_,rfl,?_⟩;rw[upd_upd]at hI;have X4:Ext X.K ι H (ι++[h'.objs.size]) (upd H h'.objs.size (.lst ws')):=Ext.new fr;have W:Ext X.K ι (upd H h'.objs.size (.lst vs)) ι (upd (upd H h'.objs.size (.lst vs)) h'.objs.size (.lst ws')):=Ext.write upd_same (mut_l _);rw[upd_upd]at W;have R4:Reps X.K (ι++[h'.objs.size]) (upd H h'.objs.size (.lst ws')) ys ws':=hr.mono { W with pre:=fun i b e=>(by rw[zd (zp.mp e).1];exact e) };exact⟨.ref h'.objs.size,_,hI,rfl,k _ _ _ (.ob (by rw[<- S.len,zC (zr _),yN];rfl)) (S.new fr ⟨ws',rfl,R4⟩) X4⟩
end
theorem srt_l {Γ:Ctx}(hs:Γ.srt=sortD):SrtL Γ:=by
 intro S X f a p1 p4 fa C h hp ha;simp only[zk,beq_iff_eq]at h;obtain⟨⟨⟨h1,h2⟩,h3⟩,h4⟩:=h;subst h1;obtain⟨o1,o2,o3⟩:=okName_debug h2;refine PE.imp (pe_callB (call_sortedL C.hu) (C.glo h3) (C.bls _ (mem_of_contains h4)) PyProof.Rows.boot_sorted (pa_cons ha pa_nil (star_plain hp)) o3 o1 (star_plain hp) rfl) fun σ H Q q=>?_;obtain⟨ι,ρ,M,d,M',S',R,e,k⟩:=q;obtain⟨x,M1,e1,ea⟩:=bind_ok e;obtain⟨ds,M2,e2,eb⟩:=bind_ok ea;obtain⟨ys,M3,e3,ec⟩:=bind_ok eb;obtain⟨hy,hM3⟩:=lift_ok e3;rw[hM3]at ec;refine⟨ι,ρ,M,x,M1,S',R,e1,fun v1 H1 ι1 r1 S1 X1=>?_⟩;have fact:M2=M1/\∃ p vs,v1=.ref p/\SqL X.K H1 p vs/\Reps X.K ι1 H1 ds vs:=by
  cases r1 with
  | fl t q=>obtain⟨rfl,rfl⟩:=pure_ok e2;exact⟨rfl,_,_,rfl,t.seq,q⟩
  | ob t =>
   obtain⟨g,rfl⟩:=getL_ok e2;obtain⟨p,ws,g1,g2,g3,g4⟩:=sim_list S1 (.ob t) g;exact⟨rfl,p,ws,g1,SqL.of g3,g4⟩
  | _=>exact(stop_ok e2).elim
 obtain⟨rfl,p,vs,rfl,hq,hr⟩:=fact;obtain⟨rfl,rfl⟩:=newM_ok ec;exact⟨p,vs,ι1,_,ds,ys,rfl,hq,S1,hr,by rw[<- hs];exact hy,fun v H' ι' r' S'' X'=>k v H' ι' r' S'' (X1.trans X')⟩
theorem srt_i {Γ:Ctx}(_:Γ.srt=sortD):SrtI Γ:=trivial
end L3
namespace L3
open PySem PySem.Spec PyProof.Rows L2
section
variable {X:Cx}{pins:List (Addr×Obj)}{σ:St}{H:Hp}{s:Shared}
theorem Inv.drew (I:Inv X pins σ H s)(d:Drawn):Inv X pins σ H { s with drawn:=d }:=by
 cases I
 constructor <;> assumption
theorem strs_of:∀ {ds:List D} {vs:List V} {us:List Value} {xs:List Str} {ι:List Addr},Reps X.K ι H ds vs->Vals vs us->allS ds=some xs->StrsAre us xs:=fun r g h=>by
 have:=allS_eq h
 subst this;exact strsA r g
theorem mix_str {prog:Program}{w:World}{x:Str}{v:Value}(h:(mixKind prog w).is (.inr x) v=true):∃ u,v=Value.str x u:=by
 rcases keyIs_shape (show keyIs (.inr x) v=true from h) with ⟨i,t,e,_⟩|⟨y,t,e,rfl⟩
 ·cases e
 ·cases e
  exact⟨t,rfl⟩
theorem strs_all:∀ {vs:List Value} {ts:List Str},vs.length=ts.length->(∀ (j:Nat) (v:Value),vs[j]?=some v->∃ x u,ts[j]?=some x/\v=Value.str x u)->StrsAre vs ts
 | [],[],_,_=>.nil
 | v::vs,t::ts,hl,h=>by
  obtain⟨x,u,e,rfl⟩:=h 0 v rfl;cases e;exact .cons _ u (strs_all (by simpa using hl) fun j v' e'=>by simpa using h (j + 1) v' (by simpa using e'))
 | [],_::_,hl,_=>by cases hl
 | _::_,[],hl,_=>by cases hl
noncomputable def rSet (X:Cx):List V->Hp->VK->Prop:=fun xs H Q=>∃ p vs ι ds ts,xs=[.ref p]/\SqL X.K H p vs/\Reps X.K ι H ds vs/\allS ds=some ts/\(addAll [] ts).length < 64/\∀ q,H q=none->Q (.ref q) (upd H q (.ext fun h=>SSet X.prog X.w h q (addAll [] ts) (ledOf X.w)))
theorem call_setS (hc:X.calm=true):CallR X (.type "set") (rSet X):=by
 intro pins s σ H xs us Q I rv h;obtain⟨p,vs,ι,ds,ts,rfl,hp,r,ha,hz,k⟩:=h;obtain⟨u,rfl,ru⟩:=vals1 rv;cases ru;obtain⟨its,rel,pl,hl⟩:=I.list hp;have hst:=strs_of r rel ha;refine call_set_strs (I.ok.hd hc) pl.isList hst (by unfold scanBound;omega) fun h' tk hS kk=>?_;refine⟨.ref s.heap.objs.size,_,I.laid (t':=tk) (o:=.ext fun h=>SSet X.prog X.w h s.heap.objs.size (addAll [] ts) (ledOf X.w)) kk (zr _) ?_,rfl,k _ (I.hok.fresh (zr _))⟩;exact⟨hS,by obtain⟨o,_,_,_,e,_⟩:=hS;exact⟨o,e⟩,fun h1 h2 x k=>x.at k⟩
theorem call_sortedS (hc:X.calm=true)(hu:X.A.units + 100 < cLine):CallR X (.builtin "sorted") (fun xs H Q=>∃ p ts ι M,xs=[.ref p]/\H p=some (.ext fun h=>SSet X.prog X.w h p ts (ledOf X.w))/\Sim X.K ι M H/\ts.length < 64 /\
  ∀ v H' ι',Rep X.K ι' H' (.ob M.length) v->Sim X.K ι' (M++[.lst ((sortS ts).map .str)]) H'->Ext X.K ι H ι' H'->Q v H'):=by
 intro pins s σ H xs us Q I rv h;obtain⟨p,ts,ι,M,rfl,hp,S,h64,k⟩:=h;obtain⟨u,rfl,ru⟩:=vals1 rv;cases ru;obtain⟨hS,_,_⟩:=I.hok p _ hp;refine Calls.call_function_entry kind_sorted plain_sorted entry_sorted (args_sorted1 _) ?_;unfold Builtin.«sorted»;refine zy (m:=checkCount "sorted" 1 1 _) (zq ?_);refine zy (collect_set (A:=X.A.in1) (I.ok.hd hc) hS fun h' tk d vs ys kk hst hperm=>?_);have I1:Inv X pins σ H { s with heap:=h',toks:=tk,drawn:=d }:=Inv.drew (I.kept (t':=tk) kk) d;obtain⟨g1,g2⟩:=ofStrsA (X:=X) (H:=H) (ι:=ι) hst;have ly:ys.length < 64:=by rw[hperm.length_eq];exact h64
 have lv:vs.length=ys.length:=by rw[<- g1.length,zz]
 have hz:(ys.map V.str).length<=zj:=by rw[zz,sizeLine_eq];omega
 refine zy (wpAny_newList ?_ (by rw[lv,sizeLine_eq];omega));have fr:H h'.objs.size=none:=I1.hok.fresh (zr _);have I3:Inv X pins σ (upd H h'.objs.size (.lst (ys.map V.str))) { s with heap:=h'.push { cls:=.type "list",data:=.seq vs.toArray },toks:=tk,drawn:=d } :=
  I1.laid (t':=tk) (fun b o e=>zo _ e) (zr _) ⟨hz,vs,0,g1,zc _ rfl⟩
 have R3:=g2.mono (Ext.tupN (K:=X.K) (ι:=ι) (ho:=.lst (ys.map V.str)) fr);refine zy (wpAny_holding (sort_tracked (ι:=ι) (by first | (show X.A.units + 1 + 10 < cLine;omega) | (show X.A.units + 10 < cLine;omega)) I3 upd_same R3 (sortD_str ly) fun ws' s' hr hI=>?_))
 refine zq ⟨_,rfl,?_⟩;rw[upd_upd]at hI;rw[sortS_same hperm]at hr;have X4:Ext X.K ι H (ι++[h'.objs.size]) (upd H h'.objs.size (.lst ws')):=Ext.new fr;have W:Ext X.K ι (upd H h'.objs.size (.lst (ys.map V.str))) ι (upd (upd H h'.objs.size (.lst (ys.map V.str))) h'.objs.size (.lst ws')):=Ext.write upd_same (mut_l _);rw[upd_upd]at W;have R4:Reps X.K (ι++[h'.objs.size]) (upd H h'.objs.size (.lst ws')) ((sortS ts).map .str) ws':=hr.mono { W with pre:=fun i b e=>(by rw[zd (zp.mp e).1];exact e) };exact⟨.ref h'.objs.size,_,hI,rfl,k _ _ _ (.ob (by rw[<- S.len,zC (zr _),yN];rfl)) (S.new fr ⟨ws',rfl,R4⟩) X4⟩
theorem strKeys_eq {K:PySem.W.Frag}{ι:List Addr}{H:Hp}:∀ {kvs:List (Ky×D)} {ws:List (Key×V)} {rs:List (Key×Value)} {xs:List Str},KR K ι H kvs ws->KV ws rs->strKeys kvs=some xs->rs.map (·.1)=xs.map Sum.inr
 | _,_,_,_,.nil,.nil,h=>by cases h;rfl
 | kv::kvs,_,_,xs,.cons r t,.cons g g',h=>by
  unfold strKeys at h;split at h
  ·rename_i x xs' e1 e2
   cases h;rw[zD,zD,strKeys_eq t g' e2,<- g.1,<- r.1,e1]
  ·cases h
theorem call_sortedK (hc:X.calm=true)(hu:X.A.units + 100 < cLine):CallR X (.builtin "sorted") (fun xs H Q=>∃ a ws ι M kvs ts,xs=[.ref a]/\H a=some (.dK ws)/\Sim X.K ι M H/\KR X.K ι H kvs ws/\strKeys kvs=some ts/\ts.length < 64 /\
  ∀ v H' ι',Rep X.K ι' H' (.ob M.length) v->Sim X.K ι' (M++[.lst ((sortS ts).map .str)]) H'->Ext X.K ι H ι' H'->Q v H'):=by
 intro pins s σ H xs us Q I rv h;obtain⟨a,ws,ι,M,kvs,ts,rfl,ha,S,kr,hk,h64,k⟩:=h;obtain⟨u,rfl,ru⟩:=vals1 rv;cases ru;obtain⟨z,hd,rs,rel,dd⟩:=dk_rd I.hok (.inl ha);obtain⟨ep,hat⟩:=dd.dictAt;have hks:=strKeys_eq kr rel hk;have lr:rs.length=ts.length:=by rw[<- zz (f:=(·.1)),hks,zz]
 refine Calls.call_function_entry kind_sorted plain_sorted entry_sorted (args_sorted1 _) ?_;unfold Builtin.«sorted»;refine zy (m:=checkCount "sorted" 1 1 _) (zq ?_);refine zy (PySem.W.kdu_collect (A:=X.A.in1) (PySem.W.kdl_dict (knd:=mixKind X.prog X.w) (kvs:=rs) (ep:=ep) hd) (I.ok.hd hc) hat (by rw[lr,sizeLine_eq];omega) fun h' tk acc kk hacc=>?_);have hst:StrsAre acc.toList ts:=by
  have all:∀ (j:Nat) (v:Value),acc.toList[j]?=some v->∃ x u,ts[j]?=some x/\v=Value.str x u:=fun j v e=>by
   rw[yI]at e;obtain⟨key,y,e1,e2⟩:=hacc.2 j v e;have e3:(rs.map (·.1))[j]?=some key:=by rw[zv,e1];rfl
   rw[hks,zv]at e3;obtain⟨x,hx,rfl⟩:=zu.mp e3;obtain⟨u,rfl⟩:=mix_str e2;exact⟨x,u,hx,rfl⟩
  exact strs_all (by rw[zT,hacc.1,lr]) all
 have I1:Inv X pins σ H { s with heap:=h',toks:=tk }:=I.kept (t':=tk) kk;obtain⟨g1,g2⟩:=ofStrsA (X:=X) (H:=H) (ι:=ι) hst;have lv:acc.toList.length=ts.length:=by rw[<- g1.length,zz]
 have hz:(ts.map V.str).length<=zj:=by rw[zz,sizeLine_eq];omega
 refine zy (wpAny_newList ?_ (by rw[lv,sizeLine_eq];omega));have fr:H h'.objs.size=none:=I1.hok.fresh (zr _);have I3:Inv X pins σ (upd H h'.objs.size (.lst (ts.map V.str))) { s with heap:=h'.push { cls:=.type "list",data:=.seq acc.toList.toArray },toks:=tk } :=
  I1.laid (t':=tk) (fun b o e=>zo _ e) (zr _) ⟨hz,acc.toList,0,g1,zc _ rfl⟩
 have R3:=g2.mono (Ext.tupN (K:=X.K) (ι:=ι) (ho:=.lst (ts.map V.str)) fr);refine zy (wpAny_holding (sort_tracked (ι:=ι) (by first | (show X.A.units + 1 + 10 < cLine;omega) | (show X.A.units + 10 < cLine;omega)) I3 upd_same R3 (sortD_str h64) fun ws' s' hr hI=>?_))
 refine zq ⟨_,rfl,?_⟩;rw[upd_upd]at hI;have X4:Ext X.K ι H (ι++[h'.objs.size]) (upd H h'.objs.size (.lst ws')):=Ext.new fr;have W:Ext X.K ι (upd H h'.objs.size (.lst (ts.map V.str))) ι (upd (upd H h'.objs.size (.lst (ts.map V.str))) h'.objs.size (.lst ws')):=Ext.write upd_same (mut_l _);rw[upd_upd]at W;have R4:Reps X.K (ι++[h'.objs.size]) (upd H h'.objs.size (.lst ws')) ((sortS ts).map .str) ws':=hr.mono { W with pre:=fun i b e=>(by rw[zd (zp.mp e).1];exact e) };exact⟨.ref h'.objs.size,_,hI,rfl,k _ _ _ (.ob (by rw[<- S.len,zC (zr _),yN];rfl)) (S.new fr ⟨ws',rfl,R4⟩) X4⟩
end
theorem srt_d {Γ:Ctx}:SrtD Γ:=by
 intro S X f a p1 p4 fa C h hp ha;simp only[zk,beq_iff_eq]at h;obtain⟨⟨⟨h1,h2⟩,h3⟩,h4⟩:=h;subst h1;obtain⟨o1,o2,o3⟩:=okName_debug h2;refine PE.imp (pe_callB (call_sortedK C.calm C.hu) (C.glo h3) (C.bls _ (mem_of_contains h4)) PyProof.Rows.boot_sorted (pa_cons ha pa_nil (star_plain hp)) o3 o1 (star_plain hp) rfl) fun σ H Q q=>?_;obtain⟨ι,ρ,M,d,M',S',R,e,k⟩:=q;obtain⟨x,M1,e1,e⟩:=bind_ok e;refine⟨ι,ρ,M,x,M1,S',R,e1,fun v1 H1 ι1 r1 S1 X1=>?_⟩;cases r1 with
 | ob t =>
  obtain⟨kvs,M2,e2,ea⟩:=bind_ok e;obtain⟨g,rfl⟩:=getD_ok e2;obtain⟨xs,M3,e3,eb⟩:=bind_ok ea;obtain⟨hx,rfl⟩:=lift_ok e3;obtain⟨_,M4,e4,ec⟩:=bind_ok eb;obtain⟨hn,rfl⟩:=need_ok e4;obtain⟨rfl,rfl⟩:=newM_ok ec;obtain⟨a',ws,g1,g2,g3,g4⟩:=sim_dict S1 (.ob t) g;cases g1;exact⟨_,ws,ι1,_,kvs,xs,rfl,g3,S1,g4,hx,hn,fun v H' ι' r' S'' X'=>k v H' ι' r' S'' (X1.trans X')⟩
 | _=>exact(stop_ok e).elim
theorem srt_s {Γ:Ctx}:SrtS Γ:=by
 intro S X f b p1 p2 p3 p4 fb C h hp ha;simp only[zk,beq_iff_eq]at h;obtain⟨⟨⟨⟨h1,h2⟩,h3⟩,h4⟩,h5,h6⟩:=h;subst h1;obtain⟨o1,o2,o3⟩:=okName_debug h2;have ps:=pe_callTy (X:=X) (p:=p2) (pos:=p3) (call_setS C.calm) (C.glo h5) (C.bls _ (mem_of_contains h6)) PyProof.Rows.boot_set (pa_cons ha pa_nil (star_plain hp)) (by decide) (by decide) (star_plain hp) rfl;refine PE.imp (pe_callB (call_sortedS C.calm C.hu) (C.glo h3) (C.bls _ (mem_of_contains h4)) PyProof.Rows.boot_sorted (pa_cons ps pa_nil) o3 o1) fun σ H Q q=>?_;obtain⟨ι,ρ,M,d,M',S',R,e,k⟩:=q;obtain⟨x,M1,e1,e⟩:=bind_ok e;refine⟨ι,ρ,M,x,M1,S',R,e1,fun v1 H1 ι1 r1 S1 X1=>?_⟩;obtain⟨ds,M2,e2,ea⟩:=bind_ok e;have fact:M2=M1/\∃ p vs,v1=.ref p/\SqL X.K H1 p vs/\Reps X.K ι1 H1 ds vs:=by
  cases r1 with
  | fl t q=>obtain⟨rfl,rfl⟩:=pure_ok e2;exact⟨rfl,_,_,rfl,t.seq,q⟩
  | ob t =>
   obtain⟨g,rfl⟩:=getL_ok e2;obtain⟨p,ws,g1,g2,g3,g4⟩:=sim_list S1 (.ob t) g;exact⟨rfl,p,ws,g1,SqL.of g3,g4⟩
  | _=>exact(stop_ok e2).elim
 obtain⟨rfl,p,vs,rfl,hq,hr⟩:=fact;obtain⟨xs,M3,e3,eb⟩:=bind_ok ea;obtain⟨hx,rfl⟩:=lift_ok e3;obtain⟨_,M4,e4,ec⟩:=bind_ok eb;obtain⟨hn,rfl⟩:=need_ok e4;obtain⟨rfl,rfl⟩:=newM_ok ec;refine⟨p,vs,ι1,ds,xs,rfl,hq,hr,hx,hn,fun q' hq'=>?_⟩;have X2:Ext X.K ι1 H1 ι1 (upd H1 q' (.ext fun h=>SSet X.prog X.w h q' (addAll [] xs) (ledOf X.w))):=Ext.tupN hq';exact⟨q',addAll [] xs,ι1,_,rfl,upd_same,S1.tupN hq',hn,fun v H' ι' r' S'' X'=>k v H' ι' r' S'' ((X1.trans X2).trans X')⟩
theorem srt_t {Γ:Ctx}(_:Γ.srt=sortD):SrtT Γ:=trivial
theorem srt_ok {Γ:Ctx}(hs:Γ.srt=sortD):SrtOk Γ:=⟨srt_i hs,srt_l hs,srt_s,srt_d,srt_t hs⟩
end L3
namespace L3
open PySem PySem.Spec PySem.Calls PyProof.Rows L2
noncomputable def heapK (h:Heap):PySem.W.Frag:=(List.range h.objs.size).filterMap fun a=>(h.get? a).map fun o=>(a,o)
theorem look_fm {h:Heap}{a:Addr}:∀ l:List Nat,(l.filterMap fun a=>(h.get? a).map fun o=>(a,o)).lookup a=if a∈l then h.get? a else none
 | []=>rfl
 | b::l=>by
  rw[yP];by_cases e:a=b
  ·subst e
   rw[if_pos (zJ ..)];cases g:h.get? a with
   | none =>
    simp only[wY];rw[look_fm l,g];split <;> rfl
   | some o=>simp only[xz,List.lookup_cons_self]
  ·have hb:(a==b)=false:=by simpa using e
   have hm:(a∈b::l)=(a∈l):=by simp[e]
   simp only[hm];cases g:h.get? b with
   | none=>simp only[wY];exact look_fm l
   | some o=>simp only[xz,yS,hb];exact look_fm l
theorem heapK_look {h:Heap}{a:Addr}{o:Obj}(e:h.get? a=some o):(heapK h).lookup a=some o:=by
 unfold heapK;rw[look_fm,if_pos,e];rw[yx];unfold Heap.get? at e;by_cases q:a < h.objs.size
 ·exact q
 ·rw[xp (wM q)]at e
  simp at e
theorem heapK_in (h:Heap):(heapK h).In h:=by
 intro a o e;unfold heapK at e;rw[look_fm]at e;split at e
 ·exact e
 ·cases e
theorem code_in {h:Heap}{cd:Value}{x:Str}(c:h.CodeRec cd x):PySem.W.codeIn (heapK h) cd x=true:=by
 obtain⟨c,o,vs,t,rfl,e,d,v⟩:=c;have e':=heapK_look e;obtain⟨oc,od,da,sl⟩:=o;cases d;unfold PySem.W.codeIn;simp only[e'];rw[<- yI]at v;cases q:vs.toList with
 | nil=>rw[q]at v;cases v
 | cons y r =>
  cases r with
  | nil=>rw[q]at v;cases v
  | cons z r =>
   rw[q]at v;cases v;simp
noncomputable def defPos:Stmt->Pos
 | .FunctionDef _ _ _ _ _ _ _ _ _ pos=>pos
 | _=>⟨0,0,0,0⟩
noncomputable def recT (x:Str)(st:Stmt):DefRec:=⟨x,defArgs st,defBody st,defScope st,defPos st⟩
section
variable {q:Program}{lo:List Str}{mean:ExcName->Option Value}{mg mb:Str->Option Value}{h:Heap}{es:List Ent}{gls bls:List Str}{gl:Str->Option D}
theorem DefR.mkT (T:Top q lo mean mg mb h){rs:List DefRec}(hr:recsOf q=rs)(i:Nat){e:Ent}(hm:rs[i]?=some (recT e.x e.st))
  (hb:∀ (kV doc pm:Value) (an:Option Addr) (cdv ct:Value) (us:List Value),us.length=e.ps.length->bindArgs (PySem.W.fnOf e.x e.x (defArgs e.st) (defBody e.st) (defScope e.st) .none kV doc pm an cdv ct) ⟨us,[]⟩=pure (e.ps.zip us))
  (S:FnScope e.N e.ps (defScope e.st)) (hc:cSs ⟨defScope e.st,e.N,es.map (·.x),gls,bls⟩ 200 (defBody e.st)=some e.b) (ht:(tabOf es).lookup e.x=some ⟨e.N.length,e.ps.length,e.b⟩):DefR (heapK h) mg es gls bls e:=by
 obtain⟨a,o,pm,code,doc,h1,h2,h3,h4⟩:=T.fn _ (zw (hr ▸ hm));obtain⟨oc,od,da,sl⟩:=o;cases h3;have l:=heapK_look h2;have F:Fun (heapK h) e.x e.x e.st a _:=fun_mk (st:=e.st) (cdv:=code) l (code_in h4) (by unfold PySem.W.keepIn;simp only[l]);exact⟨a,_,F,h1,F.binds hb,S,hc,ht⟩
noncomputable def freeB (q:Program)(lo bls:List Str):Bool:=bls.all fun x=>!(startupNames.contains x||lo.contains x||((recsOf q).map (·.name)).contains x||((litsOf q).map (·.1)).contains x||((clssOf q lo).map (·.name)).contains x)
theorem free_of (T:Top q lo mean mg mb h)(e:freeB q lo bls=true):∀ x∈bls,mg x=none:=by
 intro x hx
 have:=yu.mp e x hx
 simp only[xt,Bool.or_eq_false_iff,List.contains_eq_mem,decide_eq_false_iff_not]at this;obtain⟨⟨⟨⟨h1,h2⟩,h3⟩,h4⟩,h5⟩:=this;exact T.free x h1 h2 h3 h4 h5
theorem law_mkT {srt:List D->Option (List D)}{wh:Nat}{P:Program}{w:World}(hsrt:∀ k,SrtOk (CtxN (tabOf es) gl srt wh k))(hd:∀ e∈es,DefR (heapK h) mg es gls bls e)(hg:∀ x∈gls,GlR (heapK h) mg gl x)(hb:∀ x∈bls,mg x=none)(k:Nat){e:Ent}(he:e∈es){x:Str}(hx:e.ps=[x])
  (hb1:∀ (kV doc pm:Value) (an:Option Addr) (cdv ct u:Value),bindArgs (PySem.W.fnOf e.x e.x (defArgs e.st) (defBody e.st) (defScope e.st) .none kV doc pm an cdv ct) ⟨[u],[]⟩=pure [(x,u)]) {fa:Addr} (hfa:mg e.x=some (.ref fa)) :
  ∃ fd:FuncData,(∀ (s:Shared) (u:Value),BindsTo s fd ⟨[u],[]⟩ [(x,u)])/\∀ base:Heap,(heapK h).In base->base.Ns mainGlobals mg->FnOk P w (heapK h) mg base CX0 k fa fd [x] (spOf (heapK h) 1 ((CtxN (tabOf es) gl srt wh k).fn e.x)):=by
 obtain⟨fa',fd,F,hm,_⟩:=hd e he;rw[hfa]at hm;cases hm;refine⟨fd,fun s u=>?_,fun base _ _=>?_⟩
 ·obtain⟨_,_,kV,doc,pm,an,cdv,ct,_,rfl,_⟩:=F.ex
  exact .of_eq (hb1 kV doc pm an cdv ct u)
 ·have:=law_fn (P:=P) (w:=w) (base:=base) hsrt hd hg hb k he F hfa
  rw[hx]at this;exact this
end
theorem walkT {l:PySem.W.OpenLaw}{q:Program}{loose:List Str}{XP:(Str->Option Value)->Heap->Prop}{YP:World->Heap->Prop}{d:DefRec}{x:Str}{k:Nat}{g:List D->Mo D}(hk:Room k callerA)(hn:l.most=some 63)(hdf:d.params.defaults=[])
  (hg:∀ ns:List Int,ns.length<=63->∃ M',g [.fl (ns.map .int)] []=some (.ok (.bl true),M'))
  (F:∀ (w:World) (mean:ExcName->Option Value) (mg mb:Str->Option Value) (fa:Addr) (h:Heap),Top q (PySem.W.looseW q loose) mean mg mb h->mg d.name=some (.ref fa) ->
   ∃ fd:FuncData,(∀ (s:Shared) (u:Value),BindsTo s fd ⟨[u],[]⟩ [(x,u)])/\∀ base:Heap,(heapK h).In base->base.Ns mainGlobals mg->FnOk l.prog w (heapK h) mg base CX0 k fa fd [x] (spOf (heapK h) 1 g)) :
  PySem.W.WalkO q loose XP YP l.row.toRowW d [] (fun f vs=>PySem.call f vs):=by
 refine Att.attach_call hn hdf fun w s₀ s₁ mg mb fa o pm cd doc a vs ns G Y ho hd hcd hmg hobj hints hlen hg'=>?_;obtain⟨fd,hb,hF⟩:=F w _ mg mb fa _ G.T hmg;exact law_call (heapK_in _) G.T.g G.T.b G.T.builtins G.T.nolimit hg' hobj hints (zK hlen (by decide)) hk hF hb (fun H hO hS=>sp_law hO hS (hg ns hlen)) fun _ _ _ z=>z
end L3
namespace L3
open PySem
theorem q_semE_var {Γ:Ctx}:∀ i ρ,semE Γ (.var i) ρ=(varD ρ i):=fun _ _=>rfl
theorem q_semE_cint {Γ:Ctx}:∀ i ρ,semE Γ (.cint i) ρ=(pure (.int i)):=fun _ _=>rfl
theorem q_semE_cbl {Γ:Ctx}:∀ b ρ,semE Γ (.cbl b) ρ=(pure (.bl b)):=fun _ _=>rfl
theorem q_semE_cnon {Γ:Ctx}:∀ ρ,semE Γ (.cnon) ρ=(pure .non):=fun _=>rfl
theorem q_semE_cstr {Γ:Ctx}:∀ x ρ,semE Γ (.cstr x) ρ=(pure (.str x)):=fun _ _=>rfl
theorem q_semE_glb {Γ:Ctx}:∀ x ρ,semE Γ (.glb x) ρ=(lift (Γ.gl x)):=fun _ _=>rfl
theorem q_semE_bin {Γ:Ctx}:∀ op a b ρ,semE Γ (.bin op a b) ρ=(do let x <- semE Γ a ρ;let y <- semE Γ b ρ;opD op x y):=fun _ _ _ _=>rfl
theorem q_semE_cmp {Γ:Ctx}:∀ op a b ρ,semE Γ (.cmp op a b) ρ=(do let x <- semE Γ a ρ;let y <- semE Γ b ρ;let k <- cmpD op x y;pure (.bl k)):=fun _ _ _ _=>rfl
theorem q_semE_cmp2 {Γ:Ctx}:∀ op op' a b c ρ,semE Γ (.cmp2 op op' a b c) ρ=(do
  let x <- semE Γ a ρ
  let y <- semE Γ b ρ
  let k <- cmpD op x y
  if k=true then do let z <- semE Γ c ρ;let k' <- cmpD op' y z;pure (.bl k') else pure (.bl false)):=fun _ _ _ _ _ _=>rfl
theorem q_semE_and {Γ:Ctx}:∀ a b ρ,semE Γ (.and a b) ρ=(do let x <- semE Γ a ρ;let k <- lift (boolD x);if k=true then semE Γ b ρ else pure (.bl false)):=fun _ _ _=>rfl
theorem q_semE_or {Γ:Ctx}:∀ a b ρ,semE Γ (.or a b) ρ=(do let x <- semE Γ a ρ;let k <- lift (boolD x);if k=true then pure (.bl true) else semE Γ b ρ):=fun _ _ _=>rfl
theorem q_semE_not {Γ:Ctx}:∀ a ρ,semE Γ (.not a) ρ=(do let x <- semE Γ a ρ;let k <- lift (boolD x);pure (.bl (!k))):=fun _ _=>rfl
theorem q_semE_ifE {Γ:Ctx}:∀ c a b ρ,semE Γ (.ifE c a b) ρ=(do let k <- semC Γ c ρ;if k=true then semE Γ a ρ else semE Γ b ρ):=fun _ _ _ _=>rfl
theorem q_semE_tup {Γ:Ctx}:∀ es ρ,semE Γ (.tup es) ρ=(do let xs <- semEs Γ es ρ;need (xs.length<=zj);pure (.tup xs)):=fun _ _=>rfl
theorem q_semE_lst {Γ:Ctx}:∀ es ρ,semE Γ (.lst es) ρ=(do let xs <- semEs Γ es ρ;need (xs.length<=zj);newM (.lst xs)):=fun _ _=>rfl
theorem q_semE_dic0 {Γ:Ctx}:∀ ρ,semE Γ (.dic0) ρ=(newM (.dic [])):=fun _=>rfl
theorem q_semE_idx {Γ:Ctx}:∀ a b ρ,semE Γ (.idx a b) ρ=(do let x <- semE Γ a ρ;let y <- semE Γ b ρ;getIx x y):=fun _ _ _=>rfl
theorem q_semE_slc {Γ:Ctx}:∀ a lo hi ρ,semE Γ (.slc a lo hi) ρ=(do let x <- semE Γ a ρ;let l <- semO Γ lo ρ;let h <- semO Γ hi ρ;sliceD x l h):=fun _ _ _ _=>rfl
theorem q_semE_call {Γ:Ctx}:∀ f es ρ,semE Γ (.call f es) ρ=(do let xs <- semEs Γ es ρ;Γ.fn f xs):=fun _ _ _=>rfl
theorem q_semE_blt {Γ:Ctx}:∀ b es ρ,semE Γ (.blt b es) ρ=(do let xs <- semEs Γ es ρ;blD b xs):=fun _ _ _=>rfl
theorem q_semE_comp {Γ:Ctx}:∀ j it c e ρ,semE Γ (.comp j it c e) ρ=(do
  let s <- semT Γ it ρ
  need (s.ds.length<=zj)
  let ys <- compD s.ck (semCo Γ c) (semE Γ e) (ρ.set j none) s.ds
  newM (.lst ys)):=fun _ _ _ _ _=>rfl
theorem q_semE_sortL {Γ:Ctx}:∀ a ρ,semE Γ (.sortL a) ρ=(do
  let x <- semE Γ a ρ
  let ds <- lstD x
  let ys <- lift (Γ.srt ds)
  newM (.lst ys)):=fun _ _=>rfl
theorem q_semE_intB {Γ:Ctx}:∀ a ρ,semE Γ (.intB a) ρ=(do let x <- semE Γ a ρ;let b <- lift (boolD x);pure (.int (if b then 1 else 0))):=fun _ _=>rfl
theorem q_semE_clr {Γ:Ctx}:∀ m a ρ,semE Γ (.clr m a) ρ=(do let x <- semE Γ a ρ;clearO m x):=fun _ _ _=>rfl
theorem q_semE_neg {Γ:Ctx}:∀ a ρ,semE Γ (.neg a) ρ=(do
  let x <- semE Γ a ρ
  (match x with
  | .int i=>pure (.int (-i))
  | _=>Mo.stop)):=fun _ _=>rfl
theorem q_semE_isI {Γ:Ctx}:∀ a t ρ,semE Γ (.isI a t) ρ=(do let x <- semE Γ a ρ;let k <- tyD t x;pure (.bl k)):=fun _ _ _=>rfl
theorem q_semE_mth {Γ:Ctx}:∀ m a es ρ,semE Γ (.mth m a es) ρ=(do let x <- semE Γ a ρ;rcvD m x;let xs <- semEs Γ es ρ;mtD m x xs):=fun _ _ _ _=>rfl
theorem q_semEs_nil {Γ:Ctx}:∀ ρ,semEs Γ (.nil) ρ=(pure []):=fun _=>rfl
theorem q_semEs_cons {Γ:Ctx}:∀ e es ρ,semEs Γ (.cons e es) ρ=(do let x <- semE Γ e ρ;let xs <- semEs Γ es ρ;pure (x::xs)):=fun _ _ _=>rfl
theorem q_semO_none {Γ:Ctx}:∀ ρ,semO Γ (.none) ρ=(pure none):=fun _=>rfl
theorem q_semO_some {Γ:Ctx}:∀ e ρ,semO Γ (.some e) ρ=(do
  let x <- semE Γ e ρ
  (match x with
  | .int i=>pure (some i)
  | _=>Mo.stop)):=fun _ _=>rfl
theorem q_semT_seq {Γ:Ctx}:∀ e ρ,semT Γ (.seq e) ρ=(do let x <- semE Γ e ρ;srcD x):=fun _ _=>rfl
theorem q_semT_rng1 {Γ:Ctx}:∀ a ρ,semT Γ (.rng1 a) ρ=(do
  let x <- semE Γ a ρ
  (match x with
  | .int i=>do need (small i);pure ⟨none,rngD 0 i⟩
  | _=>Mo.stop)):=fun _ _=>rfl
theorem q_semT_rng2 {Γ:Ctx}:∀ a b ρ,semT Γ (.rng2 a b) ρ=(do
  let x <- semE Γ a ρ
  let y <- semE Γ b ρ
  (match x,y with
  | .int i,.int j=>do need (small i/\small j);pure ⟨none,rngD i j⟩
  | _,_=>Mo.stop)):=fun _ _ _=>rfl
theorem q_semC_cmp {Γ:Ctx}:∀ e ρ,semC Γ (.cmp e) ρ=(do let x <- semE Γ e ρ;lift (boolD x)):=fun _ _=>rfl
theorem q_semC_tru {Γ:Ctx}:∀ e ρ,semC Γ (.tru e) ρ=(do let x <- semE Γ e ρ;truD x):=fun _ _=>rfl
theorem q_semC_not {Γ:Ctx}:∀ c ρ,semC Γ (.not c) ρ=(do let k <- semC Γ c ρ;pure (!k)):=fun _ _=>rfl
theorem q_semC_and {Γ:Ctx}:∀ a b ρ,semC Γ (.and a b) ρ=(do let k <- semC Γ a ρ;if k=true then semC Γ b ρ else pure false):=fun _ _ _=>rfl
theorem q_semC_or {Γ:Ctx}:∀ a b ρ,semC Γ (.or a b) ρ=(do let k <- semC Γ a ρ;if k=true then pure true else semC Γ b ρ):=fun _ _ _=>rfl
theorem q_semCo_none {Γ:Ctx}:∀ ρ,semCo Γ (.none) ρ=(pure true):=fun _=>rfl
theorem q_semCo_some {Γ:Ctx}:∀ c ρ,semCo Γ (.some c) ρ=(semC Γ c ρ):=fun _ _=>rfl
theorem q_semP_seq {Γ:Ctx}:∀ e ρ,semP Γ (.seq e) ρ=(do let x <- semE Γ e ρ;srcD x):=fun _ _=>rfl
theorem q_semP_enum {Γ:Ctx}:∀ e ρ,semP Γ (.enum e) ρ=(do let x <- semE Γ e ρ;enumS x):=fun _ _=>rfl
theorem q_semS_set {Γ:Ctx}:∀ i e ρ,semS Γ (.set i e) ρ=(do let x <- semE Γ e ρ;pure (.nx (ρ.set i (some x)))):=fun _ _ _=>rfl
theorem q_semS_setIx {Γ:Ctx}:∀ o i e ρ,semS Γ (.setIx o i e) ρ=(do let v <- semE Γ e ρ;let x <- semE Γ o ρ;let y <- semE Γ i ρ;setIx x y v;pure (.nx ρ)):=fun _ _ _ _=>rfl
theorem q_semS_expr {Γ:Ctx}:∀ e ρ,semS Γ (.expr e) ρ=(do let _ <- semE Γ e ρ;pure (.nx ρ)):=fun _ _=>rfl
theorem q_semS_ret {Γ:Ctx}:∀ e ρ,semS Γ (.ret e) ρ=(do let x <- semE Γ e ρ;pure (.rt x)):=fun _ _=>rfl
theorem q_semS_retN {Γ:Ctx}:∀ ρ,semS Γ (.retN) ρ=(pure (.rt .non)):=fun _=>rfl
theorem q_semS_pass {Γ:Ctx}:∀ ρ,semS Γ (.pass) ρ=(pure (.nx ρ)):=fun _=>rfl
theorem q_semS_brk {Γ:Ctx}:∀ ρ,semS Γ (.brk) ρ=(pure (.bk ρ)):=fun _=>rfl
theorem q_semS_cnt {Γ:Ctx}:∀ ρ,semS Γ (.cnt) ρ=(pure (.ct ρ)):=fun _=>rfl
theorem q_semS_halt {Γ:Ctx}:∀ ρ,semS Γ (.halt) ρ=(Mo.stop):=fun _=>rfl
theorem q_semS_ifS {Γ:Ctx}:∀ c a b ρ,semS Γ (.ifS c a b) ρ=(do let k <- semC Γ c ρ;if k=true then semSs Γ a ρ else semSs Γ b ρ):=fun _ _ _ _=>rfl
theorem q_semS_forS {Γ:Ctx}:∀ i it b ρ,semS Γ (.forS i it b) ρ=(do let s <- semT Γ it ρ;loopD s.ck i (semSs Γ b) s.ds ρ):=fun _ _ _ _=>rfl
theorem q_semS_forP {Γ:Ctx}:∀ i j it b ρ,semS Γ (.forP i j it b) ρ=(do let s <- semP Γ it ρ;loopP s.ck i j (semSs Γ b) s.ds ρ):=fun _ _ _ _ _=>rfl
theorem q_semSs_nil {Γ:Ctx}:∀ ρ,semSs Γ (.nil) ρ=(pure (.nx ρ)):=fun _=>rfl
theorem q_semSs_cons {Γ:Ctx}:∀ s r ρ,semSs Γ (.cons s r) ρ=(do
  let f <- semS Γ s ρ
  (match f with
  | .nx ρ'=>semSs Γ r ρ'
  | .rt v=>pure (.rt v)
  | .bk ρ'=>pure (.bk ρ')
  | .ct ρ'=>pure (.ct ρ'))):=fun _ _ _=>rfl
end L3
namespace L3
open PySem
theorem need_run {p:Prop}[Decidable p](h:p)(M:MH):need p M=some (.ok (),M):=by unfold need;rw[if_pos h];rfl
theorem lift_run {α:Type}(a:α)(M:MH):lift (some a) M=some (.ok a,M):=rfl
theorem getM_run {i:Nat}{o:MO}{M:MH}(h:M[i]?=some o):getM i M=some (.ok o,M):=by unfold getM;rw[h]
theorem getL_run {i:Nat}{ds:List D}{M:MH}(h:M[i]?=some (.lst ds)):getL i M=some (.ok ds,M):=by unfold getL;rw[h]
theorem getD_run {i:Nat}{ds:List (Ky×D)}{M:MH}(h:M[i]?=some (.dic ds)):getD i M=some (.ok ds,M):=by unfold getD;rw[h]
theorem newM_run (o:MO)(M:MH):newM o M=some (.ok (.ob M.length),M++[o]):=rfl
theorem putM_run {i:Nat}{o:MO}{M:MH}(h:i < M.length):putM i o M=some (.ok (),M.set i o):=by unfold putM;rw[if_pos h]
theorem atD_nat {α:Type}{xs:List α}{j:Nat}{v:α}(h:xs[j]?=some v):atD xs (j:Int)=some v:=by
 have hj:j < xs.length:=(zp.mp h).1;unfold atD ixD;rw[if_pos (by first | lia | omega),if_pos (by first | lia | omega)]
 simpa using h
theorem get_new (M:MH)(o:MO):(M++[o])[M.length]?=some o:=by simp
structure Gr (M M':MH):Prop where
 keep:∀ (i:Nat) (o:MO),M[i]?=some o->M'[i]?=some o
 len:M.length<=M'.length
theorem Gr.refl {M:MH}:Gr M M:=⟨fun _ _ h=>h,zr _⟩
theorem Gr.trans {M M1 M2:MH}(a:Gr M M1)(b:Gr M1 M2):Gr M M2:=⟨fun i o e=>b.keep i o (a.keep i o e),zK a.len b.len⟩
theorem Gr.app (M X:MH):Gr M (M++X):=⟨fun i o e=>by rw[zd (zp.mp e).1];exact e,by rw[zt];omega⟩
theorem Gr.snoc {M M1:MH}(g:Gr M M1)(o:MO):Gr M (M1++[o]):=g.trans (Gr.app _ _)
theorem Gr.set {M M1:MH}(g:Gr M M1){j:Nat}(h:M.length<=j)(o:MO):Gr M (M1.set j o):=⟨fun i q e=>by
 have hi:i < M.length:=(zp.mp e).1;rw[zi (by first | lia | omega)]
 exact g.keep i q e,by rw[zQ];exact g.len⟩
theorem set_get {M:MH}{j:Nat}{o q:MO}(h:M[j]?=some q):(M.set j o)[j]?=some o:=zL (zp.mp h).1
theorem lt_of_get {α:Type}{M:List α}{j:Nat}{q:α}(h:M[j]?=some q):j < M.length:=(zp.mp h).1
theorem mapM_bools (bs:List Bool):(bs.map D.bl).mapM boolD=some bs:=by
 induction bs with
 | nil=>rfl
 | cons b r ih=>rw[zD,xC,ih];rfl
theorem mapM_strs (bs:List Str):(bs.map D.str).mapM strD=some bs:=by
 induction bs with
 | nil=>rfl
 | cons b r ih=>rw[zD,xC,ih];rfl
theorem ev_var {Γ:Ctx}{ρ:Ev}{M:MH}{d:D}{i:Nat}(h:ρ[i]?=some (some d)):semE Γ (.var i) ρ M=some (.ok d,M):=by
 show varD ρ i M=_;unfold varD;rw[h];rfl
theorem rng_len {lo hi:Int}:(rngD lo hi).length=(hi - lo).toNat:=by unfold rngD;rw[zz,zR]
theorem rng_get {lo hi:Int}{j:Nat}{d:D}(h:(rngD lo hi)[j]?=some d):d=.int (lo + j)/\j < (hi - lo).toNat:=by
 unfold rngD at h;rw[zv]at h;cases q:(List.range (hi - lo).toNat)[j]? with
 | none=>rw[q]at h;cases h
 | some n =>
  rw[q]at h;obtain⟨h1,h2⟩:=zp.mp q;rw[zR]at h1;rw[xD]at h2;subst h2;cases h;exact⟨rfl,h1⟩
end L3
namespace L3
open PySem
theorem atD_in {α:Type}{xs:List α}{i:Int}(h0:0<=i)(h1:i < xs.length):∃ v,atD xs i=some v/\v∈xs:=by
 obtain⟨n,rfl⟩:=yD h0;have hj:n < xs.length:=by first | lia | omega
 exact⟨xs[n],atD_nat (zx hj),yG hj⟩
theorem len_app (x y:Str):(x++y).length=x.length + y.length:=by
 show (x.cps++y.cps).size=x.cps.size + y.cps.size;simp
theorem len_toList (x:Str):x.cps.toList.length=x.length:=by simp[Str.length]
theorem line_big:(100000:Nat)<=zj:=by unfold zj;decide
theorem up_ {a b c d:Int}(h:a<=b)(h2:b + c<=d):a + c<=d:=Int.le_trans (Int.add_le_add_right h c) h2
end L3
namespace L3
open PySem
noncomputable def Wp {α:Type}(m:Mo α)(M:MH)(Q:α->MH->Prop):Prop:=∃ a M',m M=some (.ok a,M')/\Q a M'
inductive Dum {α:Type} (Q:α->MH->Prop):Type where
 | mk
noncomputable def W {α:Type}(m:Mo α)(M:MH)(Q:α->MH->Prop)(_:Dum Q:=.mk):Prop:=Wp m M Q
theorem W_eq {α:Type}{m:Mo α}{M:MH}{Q R:α->MH->Prop}(h:∀ a M,Q a M=R a M):W m M Q=W m M R:=by
 have:Q=R:=funext fun a=>funext fun M=>h a M
 subst this;rfl
theorem W.mono {α:Type}{m:Mo α}{M:MH}{Q R:α->MH->Prop}(h:W m M Q)(f:∀ a M',Q a M'->R a M'):W m M R:=by
 obtain⟨a,M',e,q⟩:=h;exact⟨a,M',e,f a M' q⟩
theorem W.of {α:Type}{m:Mo α}{M M':MH}{a:α}{Q:α->MH->Prop}(e:m M=some (.ok a,M'))(q:Q a M'):W m M Q:=⟨a,M',e,q⟩
theorem w_pure {α:Type}(a:α)(M:MH)(Q:α->MH->Prop):W (pure a:Mo α) M Q=Q a M:=by
 refine propext ⟨fun ⟨b,M',e,q⟩=>?_,fun q=>⟨a,M,rfl,q⟩⟩;cases e;exact q
theorem w_ret {α:Type}(a:α)(M:MH)(Q:α->MH->Prop):W (fun M=>some (.ok a,M)) M Q=Q a M:=w_pure a M Q
theorem w_bind {α β:Type}(m:Mo α)(k:α->Mo β)(M:MH)(Q:β->MH->Prop):W (m >>= k) M Q=W m M fun a M'=>W (k a) M' Q:=by
 refine propext ⟨fun ⟨b,M',e,q⟩=>?_,fun ⟨a,M1,e,b,M2,e2,q⟩=>⟨b,M2,by rw[ok_bind e];exact e2,q⟩⟩;obtain⟨a,M1,e1,e2⟩:=bind_ok e;exact⟨a,M1,e1,b,M',e2,q⟩
theorem w_need {p:Prop}[Decidable p](M:MH)(Q:Unit->MH->Prop):W (need p) M Q=(p/\Q () M):=by
 refine propext ⟨fun ⟨b,M',e,q⟩=>?_,fun ⟨hp,q⟩=>⟨(),M,need_run hp M,q⟩⟩;unfold need at e;split at e
 ·rename_i hp
  cases e;exact⟨hp,q⟩
 ·cases e
theorem w_lift {α:Type}(o:Option α)(M:MH)(Q:α->MH->Prop):W (lift o) M Q = ∃ a,o=some a/\Q a M:=by
 refine propext ⟨fun ⟨b,M',e,q⟩=>?_,fun ⟨a,ho,q⟩=>⟨a,M,by rw[ho];rfl,q⟩⟩;cases o with
 | none=>cases e
 | some a=>cases e;exact⟨_,rfl,q⟩
theorem w_getM (i:Nat)(M:MH)(Q:MO->MH->Prop):W (getM i) M Q = ∃ o,M[i]?=some o/\Q o M:=by
 refine propext ⟨fun ⟨b,M',e,q⟩=>?_,fun ⟨a,ho,q⟩=>⟨a,M,getM_run ho,q⟩⟩;unfold getM at e;split at e
 ·rename_i o h;cases e;exact⟨_,h,q⟩
 ·cases e
theorem w_getL (i:Nat)(M:MH)(Q:List D->MH->Prop):W (getL i) M Q = ∃ ds,M[i]?=some (.lst ds)/\Q ds M:=by
 refine propext ⟨fun ⟨b,M',e,q⟩=>?_,fun ⟨a,ho,q⟩=>⟨a,M,getL_run ho,q⟩⟩;unfold getL at e;split at e
 ·rename_i o h;cases e;exact⟨_,h,q⟩
 ·cases e
theorem w_getD (i:Nat)(M:MH)(Q:List (Ky×D)->MH->Prop):W (getD i) M Q = ∃ ds,M[i]?=some (.dic ds)/\Q ds M:=by
 refine propext ⟨fun ⟨b,M',e,q⟩=>?_,fun ⟨a,ho,q⟩=>⟨a,M,getD_run ho,q⟩⟩;unfold getD at e;split at e
 ·rename_i o h;cases e;exact⟨_,h,q⟩
 ·cases e
theorem w_newM (o:MO)(M:MH)(Q:D->MH->Prop):W (newM o) M Q=Q (.ob M.length) (M++[o]):=by
 refine propext ⟨fun ⟨b,M',e,q⟩=>?_,fun q=>⟨_,_,newM_run o M,q⟩⟩;cases e;exact q
theorem w_putM (i:Nat)(o:MO)(M:MH)(Q:Unit->MH->Prop):W (putM i o) M Q=(i < M.length/\Q () (M.set i o)):=by
 refine propext ⟨fun ⟨b,M',e,q⟩=>?_,fun ⟨h,q⟩=>⟨_,_,putM_run h,q⟩⟩;unfold putM at e;split at e
 ·rename_i h;cases e;exact⟨h,q⟩
 ·cases e
theorem w_stop {α:Type}(M:MH)(Q:α->MH->Prop):W (Mo.stop:Mo α) M Q=False:=by
 refine propext ⟨fun ⟨b,M',e,q⟩=>?_,fun q=>q.elim⟩;cases e
theorem w_if {α:Type}(b:Bool)(m n:Mo α)(M:MH)(Q:α->MH->Prop):W (if b=true then m else n) M Q=((b=true->W m M Q)/\(b=false->W n M Q)):=by
 cases b <;> simp
section
variable {α β:Type}
theorem v_pure (a:α)(M:MH)(Q:α->MH->Prop):Wp (pure a:Mo α) M Q=Q a M:=w_pure a M Q
theorem v_bind (m:Mo α)(k:α->Mo β)(M:MH)(Q:β->MH->Prop):Wp (m >>= k) M Q=Wp m M fun a M'=>Wp (k a) M' Q:=w_bind m k M Q
theorem v_need {p:Prop}[Decidable p](M:MH)(Q:Unit->MH->Prop):Wp (need p) M Q=(p/\Q () M):=w_need M Q
theorem v_lift (o:Option α)(M:MH)(Q:α->MH->Prop):Wp (lift o) M Q = ∃ a,o=some a/\Q a M:=w_lift o M Q
theorem v_getM (i:Nat)(M:MH)(Q:MO->MH->Prop):Wp (getM i) M Q = ∃ o,M[i]?=some o/\Q o M:=w_getM i M Q
theorem v_getL (i:Nat)(M:MH)(Q:List D->MH->Prop):Wp (getL i) M Q = ∃ ds,M[i]?=some (.lst ds)/\Q ds M:=w_getL i M Q
theorem v_getD (i:Nat)(M:MH)(Q:List (Ky×D)->MH->Prop):Wp (getD i) M Q = ∃ ds,M[i]?=some (.dic ds)/\Q ds M:=w_getD i M Q
theorem v_newM (o:MO)(M:MH)(Q:D->MH->Prop):Wp (newM o) M Q=Q (.ob M.length) (M++[o]):=w_newM o M Q
theorem v_putM (i:Nat)(o:MO)(M:MH)(Q:Unit->MH->Prop):Wp (putM i o) M Q=(i < M.length/\Q () (M.set i o)):=w_putM i o M Q
theorem v_stop (M:MH)(Q:α->MH->Prop):Wp (Mo.stop:Mo α) M Q=False:=w_stop M Q
theorem v_if (b:Bool)(m n:Mo α)(M:MH)(Q:α->MH->Prop):Wp (if b=true then m else n) M Q=((b=true->Wp m M Q)/\(b=false->Wp n M Q)):=w_if b m n M Q
end
section
variable {Γ:Ctx}{ρ:Ev}{M:MH}{a b c:IE}{Q:D->MH->Prop}{es:IEs}
theorem we_var {i:Nat}:W (semE Γ (.var i) ρ) M Q = ∃ d,ρ[i]?=some (some d)/\Q d M:=by
 refine propext ⟨fun ⟨b,M',e,q⟩=>?_,fun ⟨d,h,q⟩=>⟨d,M,ev_var h,q⟩⟩;simp only[q_semE_var]at e;unfold varD at e;cases h:ρ[i]? with
 | none=>rw[h]at e;cases e
 | some o =>
  rw[h]at e;cases o with
  | none=>cases e
  | some d=>cases e;exact⟨_,rfl,q⟩
theorem we_int {i:Int}:W (semE Γ (.cint i) ρ) M Q=Q (.int i) M:=w_pure _ M Q
theorem we_bl {i:Bool}:W (semE Γ (.cbl i) ρ) M Q=Q (.bl i) M:=w_pure _ M Q
theorem we_non:W (semE Γ .cnon ρ) M Q=Q .non M:=w_pure _ M Q
theorem we_str {i:Str}:W (semE Γ (.cstr i) ρ) M Q=Q (.str i) M:=w_pure _ M Q
theorem we_glb {i:Str}:W (semE Γ (.glb i) ρ) M Q = ∃ d,Γ.gl i=some d/\Q d M:=w_lift _ M Q
theorem we_bin {op:Operator}:W (semE Γ (.bin op a b) ρ) M Q=W (semE Γ a ρ) M fun x M1=>W (semE Γ b ρ) M1 fun y M2=>W (opD op x y) M2 Q:=by
 delta W;simp only[q_semE_bin,v_bind]
theorem we_cmp {op:CmpOp}:W (semE Γ (.cmp op a b) ρ) M Q=W (semE Γ a ρ) M fun x M1=>W (semE Γ b ρ) M1 fun y M2=>W (cmpD op x y) M2 fun k M3=>Q (.bl k) M3:=by
 delta W;simp only[q_semE_cmp,v_bind,v_pure]
theorem we_cmp2 {op op':CmpOp}:W (semE Γ (.cmp2 op op' a b c) ρ) M Q=W (semE Γ a ρ) M fun x M1=>W (semE Γ b ρ) M1 fun y M2=>W (cmpD op x y) M2 fun k M3=>(k=true->W (semE Γ c ρ) M3 fun z M4=>W (cmpD op' y z) M4 fun k' M5=>Q (.bl k') M5)/\(k=false->Q (.bl false) M3):=by
 delta W;simp only[q_semE_cmp2,v_bind,v_pure,v_if]
theorem we_and:W (semE Γ (.and a b) ρ) M Q=W (semE Γ a ρ) M fun x M1=>∃ k,boolD x=some k/\(k=true->W (semE Γ b ρ) M1 Q)/\(k=false->Q (.bl false) M1):=by
 delta W;simp only[q_semE_and,v_bind,v_pure,v_if,v_lift]
theorem we_not:W (semE Γ (.not a) ρ) M Q=W (semE Γ a ρ) M fun x M1=>∃ k,boolD x=some k/\Q (.bl (!k)) M1:=by
 delta W;simp only[q_semE_not,v_bind,v_pure,v_lift]
theorem we_tup:W (semE Γ (.tup es) ρ) M Q=W (semEs Γ es ρ) M fun xs M1=>xs.length<=zj/\Q (.tup xs) M1:=by
 delta W;simp only[q_semE_tup,v_bind,v_pure,v_need]
theorem we_lst:W (semE Γ (.lst es) ρ) M Q=W (semEs Γ es ρ) M fun xs M1=>xs.length<=zj/\Q (.ob M1.length) (M1++[.lst xs]):=by
 delta W;simp only[q_semE_lst,v_bind,v_newM,v_need]
theorem we_dic0:W (semE Γ .dic0 ρ) M Q=Q (.ob M.length) (M++[.dic []]):=w_newM _ M Q
theorem we_idx:W (semE Γ (.idx a b) ρ) M Q=W (semE Γ a ρ) M fun x M1=>W (semE Γ b ρ) M1 fun y M2=>W (getIx x y) M2 Q:=by
 delta W;simp only[q_semE_idx,v_bind]
theorem we_slc {lo hi:IEo}:W (semE Γ (.slc a lo hi) ρ) M Q=W (semE Γ a ρ) M fun x M1=>W (semO Γ lo ρ) M1 fun l M2=>W (semO Γ hi ρ) M2 fun h M3=>W (sliceD x l h) M3 Q:=by
 delta W;simp only[q_semE_slc,v_bind]
theorem we_call {f:Str}:W (semE Γ (.call f es) ρ) M Q=W (semEs Γ es ρ) M fun xs M1=>W (Γ.fn f xs) M1 Q:=by
 delta W;simp only[q_semE_call,v_bind]
theorem we_blt {f:Bl}:W (semE Γ (.blt f es) ρ) M Q=W (semEs Γ es ρ) M fun xs M1=>W (blD f xs) M1 Q:=by
 delta W;simp only[q_semE_blt,v_bind]
theorem we_comp {j:Nat}{it:IT}{cc:ICo}:W (semE Γ (.comp j it cc a) ρ) M Q=W (semT Γ it ρ) M fun s M1=>s.ds.length<=zj/\W (compD s.ck (semCo Γ cc) (semE Γ a) (ρ.set j none) s.ds) M1 fun ys M2=>Q (.ob M2.length) (M2++[.lst ys]):=by
 delta W;simp only[q_semE_comp,v_bind,v_newM,v_need]
theorem wes_nil {Q:List D->MH->Prop}:W (semEs Γ .nil ρ) M Q=Q [] M:=w_pure _ M Q
theorem wes_cons {Q:List D->MH->Prop}:W (semEs Γ (.cons a es) ρ) M Q=W (semE Γ a ρ) M fun x M1=>W (semEs Γ es ρ) M1 fun xs M2=>Q (x::xs) M2:=by
 delta W;simp only[q_semEs_cons,v_bind,v_pure]
theorem wo_none {Q:Option Int->MH->Prop}:W (semO Γ .none ρ) M Q=Q none M:=w_pure _ M Q
theorem wo_some {Q:Option Int->MH->Prop}:W (semO Γ (.some a) ρ) M Q=W (semE Γ a ρ) M fun x M1=>∃ i,x=.int i/\Q (some i) M1:=by
 delta W;simp only[q_semO_some,v_bind];refine congrArg _ (funext fun x=>funext fun M1=>?_);cases x <;> simp[v_stop,v_pure]
theorem wt_seq {Q:Src->MH->Prop}:W (semT Γ (.seq a) ρ) M Q=W (semE Γ a ρ) M fun x M1=>W (srcD x) M1 Q:=by
 delta W;simp only[q_semT_seq,v_bind]
theorem wt_rng1 {Q:Src->MH->Prop}:W (semT Γ (.rng1 a) ρ) M Q=W (semE Γ a ρ) M fun x M1=>∃ i,x=.int i/\small i/\Q ⟨none,rngD 0 i⟩ M1:=by
 delta W;simp only[q_semT_rng1,v_bind];refine congrArg _ (funext fun x=>funext fun M1=>?_);cases x <;> simp[v_stop,v_pure,v_bind,v_need]
theorem wt_rng2 {Q:Src->MH->Prop}:W (semT Γ (.rng2 a b) ρ) M Q=W (semE Γ a ρ) M fun x M1=>W (semE Γ b ρ) M1 fun y M2=>∃ i j,x=.int i/\y=.int j/\small i/\small j/\Q ⟨none,rngD i j⟩ M2:=by
 delta W;simp only[q_semT_rng2,v_bind];refine congrArg _ (funext fun x=>funext fun M1=>congrArg _ (funext fun y=>funext fun M2=>?_));cases x <;> cases y <;> simp[v_stop,v_pure,v_bind,v_need,and_assoc]
section
variable {Q:Bool->MH->Prop}{q r:IC}
theorem wc_cmp:W (semC Γ (.cmp a) ρ) M Q=W (semE Γ a ρ) M fun x M1=>∃ k,boolD x=some k/\Q k M1:=by delta W;simp only[q_semC_cmp,v_bind,v_lift]
theorem wc_tru:W (semC Γ (.tru a) ρ) M Q=W (semE Γ a ρ) M fun x M1=>W (truD x) M1 Q:=by delta W;simp only[q_semC_tru,v_bind]
theorem wc_not:W (semC Γ (.not q) ρ) M Q=W (semC Γ q ρ) M fun k M1=>Q (!k) M1:=by delta W;simp only[q_semC_not,v_bind,v_pure]
theorem wc_and:W (semC Γ (.and q r) ρ) M Q=W (semC Γ q ρ) M fun k M1=>(k=true->W (semC Γ r ρ) M1 Q)/\(k=false->Q false M1):=by delta W;simp only[q_semC_and,v_bind,v_if,v_pure]
theorem wc_or:W (semC Γ (.or q r) ρ) M Q=W (semC Γ q ρ) M fun k M1=>(k=true->Q true M1)/\(k=false->W (semC Γ r ρ) M1 Q):=by delta W;simp only[q_semC_or,v_bind,v_if,v_pure]
theorem wco_none:W (semCo Γ .none ρ) M Q=Q true M:=w_pure _ M Q
theorem wco_some:W (semCo Γ (.some q) ρ) M Q=W (semC Γ q ρ) M Q:=by delta W;simp only[q_semCo_some]
end
section
variable {Q:Fl->MH->Prop}{s:IS}{r s1 s2:ISs}{q:IC}
noncomputable def nxt (Γ:Ctx)(r:ISs)(Q:Fl->MH->Prop)(f:Fl)(M:MH):Prop:=match f with
 | .nx ρ=>W (semSs Γ r ρ) M Q
 | .rt v=>Q (.rt v) M
 | .bk ρ=>Q (.bk ρ) M
 | .ct ρ=>Q (.ct ρ) M
theorem nxt_nx:nxt Γ r Q (.nx ρ) M=W (semSs Γ r ρ) M Q:=rfl
theorem nxt_rt {v:D}:nxt Γ r Q (.rt v) M=Q (.rt v) M:=rfl
theorem nxt_bk:nxt Γ r Q (.bk ρ) M=Q (.bk ρ) M:=rfl
theorem nxt_ct:nxt Γ r Q (.ct ρ) M=Q (.ct ρ) M:=rfl
theorem ws_nil:W (semSs Γ .nil ρ) M Q=Q (.nx ρ) M:=w_pure _ M Q
theorem ws_cons:W (semSs Γ (.cons s r) ρ) M Q=W (semS Γ s ρ) M (nxt Γ r Q):=by
 delta W;simp only[q_semSs_cons,v_bind];refine congrArg _ (funext fun f=>funext fun M1=>?_);cases f <;> simp[nxt,v_pure,W]
theorem ws_set {i:Nat}:W (semS Γ (.set i a) ρ) M Q=W (semE Γ a ρ) M fun x M1=>Q (.nx (ρ.set i (some x))) M1:=by delta W;simp only[q_semS_set,v_bind,v_pure]
theorem ws_setIx:W (semS Γ (.setIx a b c) ρ) M Q=W (semE Γ c ρ) M fun v M1=>W (semE Γ a ρ) M1 fun x M2=>W (semE Γ b ρ) M2 fun y M3=>W (setIx x y v) M3 fun _ M4=>Q (.nx ρ) M4:=by delta W;simp only[q_semS_setIx,v_bind,v_pure]
theorem ws_expr:W (semS Γ (.expr a) ρ) M Q=W (semE Γ a ρ) M fun _ M1=>Q (.nx ρ) M1:=by delta W;simp only[q_semS_expr,v_bind,v_pure]
theorem ws_ret:W (semS Γ (.ret a) ρ) M Q=W (semE Γ a ρ) M fun x M1=>Q (.rt x) M1:=by delta W;simp only[q_semS_ret,v_bind,v_pure]
theorem ws_retN:W (semS Γ .retN ρ) M Q=Q (.rt .non) M:=w_pure _ M Q
theorem ws_pass:W (semS Γ .pass ρ) M Q=Q (.nx ρ) M:=w_pure _ M Q
theorem ws_brk:W (semS Γ .brk ρ) M Q=Q (.bk ρ) M:=w_pure _ M Q
theorem ws_cnt:W (semS Γ .cnt ρ) M Q=Q (.ct ρ) M:=w_pure _ M Q
theorem ws_if:W (semS Γ (.ifS q s1 s2) ρ) M Q=W (semC Γ q ρ) M fun k M1=>(k=true->W (semSs Γ s1 ρ) M1 Q)/\(k=false->W (semSs Γ s2 ρ) M1 Q):=by delta W;simp only[q_semS_ifS,v_bind,v_if]
noncomputable def selS:Bool->ISs->ISs->ISs
 | true,a,_=>a
 | false,_,b=>b
theorem sel_t {a b:ISs}:selS true a b=a:=rfl
theorem sel_f {a b:ISs}:selS false a b=b:=rfl
theorem ws_sel:W (semS Γ (.ifS q s1 s2) ρ) M Q=W (semC Γ q ρ) M fun k M1=>W (semSs Γ (selS k s1 s2) ρ) M1 Q:=by
 rw[ws_if];refine congrArg _ (funext fun k=>funext fun M1=>?_);cases k <;> simp[selS]
theorem sT {k:Bool}(h:k=true)(t:W (semSs Γ s1 ρ) M Q):W (semSs Γ (selS k s1 s2) ρ) M Q:=h ▸ t
theorem sF {k:Bool}(h:k=false)(t:W (semSs Γ s2 ρ) M Q):W (semSs Γ (selS k s1 s2) ρ) M Q:=h ▸ t
theorem ws_for {i:Nat}{it:IT}:W (semS Γ (.forS i it s1) ρ) M Q=W (semT Γ it ρ) M fun s M1=>W (loopD s.ck i (semSs Γ s1) s.ds ρ) M1 Q:=by delta W;simp only[q_semS_forS,v_bind]
end
noncomputable def endF (Q:D->MH->Prop)(f:Fl)(M:MH):Prop:=match f with
 | .nx _=>Q .non M
 | .rt v=>Q v M
 | _=>False
theorem end_nx:endF Q (.nx ρ) M=Q .non M:=rfl
theorem end_rt {v:D}:endF Q (.rt v) M=Q v M:=rfl
theorem wf {n p:Nat}{b:ISs}{xs:List D}:W (do need (xs.length=p);semF Γ n b xs:Mo D) M Q=(xs.length=p/\W (semSs Γ b (xs.map some++ya (n - xs.length) none)) M (endF Q)):=by
 rw[w_bind,w_need];unfold semF;rw[w_bind];refine congrArg _ (W_eq fun f M1=>?_);cases f <;> simp[endF,w_pure,w_stop]
end
end L3
namespace L3
open PySem
section
variable {M:MH}{Q:D->MH->Prop}{B:Bool->MH->Prop}{U:Unit->MH->Prop}{S:Src->MH->Prop}{x y v:D}
theorem p_addI {i j:Int}:W (opD .Add (.int i) (.int j)) M Q=Q (.int (i + j)) M:=w_pure _ M Q
theorem p_subI {i j:Int}:W (opD .Sub (.int i) (.int j)) M Q=Q (.int (i - j)) M:=w_pure _ M Q
theorem p_addS {i j:Str}:W (opD .Add (.str i) (.str j)) M Q=(i.length + j.length<=zj/\Q (.str (i++j)) M):=by
 show W (need _ >>= fun _=>pure _) M Q=_;rw[w_bind,w_need,w_pure]
theorem p_addT {i j:List D}:W (opD .Add (.tup i) (.tup j)) M Q=(i.length + j.length<=zj/\Q (.tup (i++j)) M):=by
 show W (need _ >>= fun _=>pure _) M Q=_;rw[w_bind,w_need,w_pure]
theorem p_addL {i j:Nat}:W (opD .Add (.ob i) (.ob j)) M Q = ∃ xs,M[i]?=some (.lst xs)/\∃ ys,M[j]?=some (.lst ys)/\xs.length + ys.length<=zj/\Q (.ob M.length) (M++[.lst (xs++ys)]):=by
 show W (getL i >>= fun xs=>getL j >>= fun ys=>need _ >>= fun _=>newM _) M Q=_;delta W;simp only[v_bind,v_getL,v_need,v_newM]
theorem p_mul {i j:Int}:W (opD .Mult (.int i) (.int j)) M Q=(((-(2 ^ 64) < i/\i < 2 ^ 64)\/(-(2 ^ 64) < j/\j < 2 ^ 64))/\Q (.int (i * j)) M):=by
 show W (need _ >>= fun _=>pure _) M Q=_;rw[w_bind,w_need,w_pure]
theorem p_mod {i j:Int}:W (opD .Mod (.int i) (.int j)) M Q=(0 < j/\Q (.int (i % j)) M):=by
 show W (need _ >>= fun _=>pure _) M Q=_;rw[w_bind,w_need,w_pure]
theorem p_eq:W (cmpD .Eq x y) M B = ∃ b,eqO M 20 x y=some b/\B b M:=by
 show W (eqMo x y) M B=_;refine propext ⟨fun ⟨b,M',e,q⟩=>?_,fun ⟨b,e,q⟩=>⟨b,M,by unfold eqMo;rw[e],q⟩⟩;unfold eqMo at e;cases h:eqO M 20 x y with
 | none=>rw[h]at e;cases e
 | some k=>rw[h]at e;cases e;exact⟨_,rfl,q⟩
theorem p_ne:W (cmpD .NotEq x y) M B = ∃ b,eqO M 20 x y=some b/\B (!b) M:=by
 show W (cmpD .Eq x y >>= fun b=>pure (!b)) M B=_;rw[w_bind]
 have:∀ b M,W (pure (!b):Mo Bool) M B=B (!b) M:=fun b M=>w_pure _ M B
 rw[W_eq this,p_eq]
theorem eo_flat {n:Nat}(h1:flatD x=true)(h2:flatD y=true):eqO M (n + 1) x y=some (eqF x y):=by
 cases x <;> cases y <;> first | exact absurd h1 zh | exact absurd h2 zh | rfl
theorem eo_int {n:Nat}{i j:Int}:eqO M (n + 1) (.int i) (.int j)=some (i==j):=rfl
theorem eo_str {n:Nat}{i j:Str}:eqO M (n + 1) (.str i) (.str j)=some (i==j):=rfl
theorem eo_bl {n:Nat}{i j:Bool}:eqO M (n + 1) (.bl i) (.bl j)=some (i==j):=rfl
theorem eo_nn {n:Nat}:eqO M (n + 1) .non .non=some true:=rfl
theorem eo_ns {n:Nat}{j:Str}:eqO M (n + 1) .non (.str j)=some false:=rfl
theorem eo_sn {n:Nat}{j:Str}:eqO M (n + 1) (.str j) .non=some false:=rfl
theorem eo_tup {n:Nat}{i j:List D}:eqO M (n + 1) (.tup i) (.tup j)=eqL (eqO M n) i j:=rfl
theorem p_eqI {i j:Int}:W (cmpD .Eq (.int i) (.int j)) M B=B (i==j) M:=by rw[p_eq];simp[eo_int]
theorem p_eqS {i j:Str}:W (cmpD .Eq (.str i) (.str j)) M B=B (i==j) M:=by rw[p_eq];simp[eo_str]
theorem p_eqB {i j:Bool}:W (cmpD .Eq (.bl i) (.bl j)) M B=B (i==j) M:=by rw[p_eq];simp[eo_bl]
theorem p_neS {i j:Str}:W (cmpD .NotEq (.str i) (.str j)) M B=B (!(i==j)) M:=by rw[p_ne];simp[eo_str]
theorem p_neB {i j:Bool}:W (cmpD .NotEq (.bl i) (.bl j)) M B=B (!(i==j)) M:=by rw[p_ne];simp[eo_bl]
theorem p_ltI {i j:Int}:W (cmpD .Lt (.int i) (.int j)) M B=B (decide (i < j)) M:=w_pure _ M B
theorem p_leI {i j:Int}:W (cmpD .LtE (.int i) (.int j)) M B=B (decide (i<=j)) M:=w_pure _ M B
theorem p_gtI {i j:Int}:W (cmpD .Gt (.int i) (.int j)) M B=B (decide (j < i)) M:=w_pure _ M B
theorem p_geI {i j:Int}:W (cmpD .GtE (.int i) (.int j)) M B=B (decide (j<=i)) M:=w_pure _ M B
theorem p_leS {i j:Str}:W (cmpD .LtE (.str i) (.str j)) M B=B (!decide (j.cps.toList < i.cps.toList)) M:=w_pure _ M B
theorem p_ltS {i j:Str}:W (cmpD .Lt (.str i) (.str j)) M B=B (decide (i.cps.toList < j.cps.toList)) M:=w_pure _ M B
theorem p_in:W (cmpD .In x y) M B=W (inD x y) M B:=rfl
theorem p_notIn:W (cmpD .NotIn x y) M B=W (inD x y) M fun k M1=>B (!k) M1:=by
 show W (inD x y >>= fun b=>pure (!b)) M B=_;delta W;simp only[v_bind,v_pure]
theorem p_inS {i j:Str}:W (inD (.str i) (.str j)) M B=B (strOcc j i) M:=w_pure _ M B
theorem w_inMo {ds:List D}:W (inMo x ds) M B = ∃ b,inL M x ds=some b/\B b M:=by
 refine propext ⟨fun ⟨b,M',e,q⟩=>?_,fun ⟨b,e,q⟩=>⟨b,M,by unfold inMo;rw[e],q⟩⟩;unfold inMo at e;cases h:inL M x ds with
 | none=>rw[h]at e;cases e
 | some k=>rw[h]at e;cases e;exact⟨_,rfl,q⟩
theorem inL_flat (h1:flatD x=true):∀ {ds:List D},ds.all flatD=true->inL M x ds=some (ds.any fun d=>eqF d x)
 | [],_=>rfl
 | d::ds,h=>by
  rw[yv,zk]at h;unfold inL;rw[eo_flat h.1 h1,inL_flat h1 h.2];rfl
theorem p_inT {ds:List D}:W (inD x (.tup ds)) M B = ∃ b,inL M x ds=some b/\B b M:=w_inMo
theorem p_inO {i:Nat}:W (inD x (.ob i)) M B = ∃ o,M[i]?=some o/\W (match o with
  | .lst ds=>inMo x ds
  | .dic kvs=>(do let k <- lift (kyD x);pure (kvGet kvs k).isSome)
  ) M B:=by
 exact(w_bind (getM i) _ M B).trans (w_getM i M _)
theorem p_isnot:W (cmpD .IsNot x y) M B=(isN y=true/\B (!isN x) M):=by
 show W (need _ >>= fun _=>pure _) M B=_;rw[w_bind,w_need,w_pure]
theorem g_tup {ds:List D}{i:Int}:W (getIx (.tup ds) (.int i)) M Q = ∃ d,atD ds i=some d/\Q d M:=w_lift _ M Q
theorem g_fl {ds:List D}{i:Int}:W (getIx (.fl ds) (.int i)) M Q = ∃ d,atD ds i=some d/\Q d M:=w_lift _ M Q
theorem g_str {t:Str}{i:Int}:W (getIx (.str t) (.int i)) M Q=(t.length<=zj/\∃ c,atD t.cps.toList i=some c/\Q (sgn c) M):=by
 show W (need _ >>= fun _=>lift (atD t.cps.toList i) >>= fun c=>pure (sgn c)) M Q=_;delta W;simp only[v_bind,v_need,v_lift,v_pure]
noncomputable def obIx (o:MO)(y:D)(M:MH)(Q:D->MH->Prop):Prop:=match o with
 | .lst ds=>∃ i,y=.int i/\∃ d,atD ds i=some d/\Q d M
 | .dic kvs=>∃ k,kyD y=some k/\∃ d,kvGet kvs k=some d/\Q d M
theorem g_obl {ds:List D}{i:Int}:obIx (.lst ds) (.int i) M Q = ∃ d,atD ds i=some d/\Q d M:=by simp[obIx]
theorem g_obd {kvs:List (Ky×D)}:obIx (.dic kvs) y M Q = ∃ k,kyD y=some k/\∃ d,kvGet kvs k=some d/\Q d M:=rfl
theorem g_ob {j:Nat}:W (getIx (.ob j) y) M Q = ∃ o,M[j]?=some o/\obIx o y M Q:=by
 have e:getIx (.ob j) y=(getM j >>= fun o=>(match o with
  | .lst ds=>(match y with
   | .int i=>lift (atD ds i)
   | _=>Mo.stop)
  | .dic kvs=>(do let q <- lift (kyD y);lift (kvGet kvs q))
  ):Mo D):=by cases y <;> rfl
 rw[e,w_bind,w_getM];refine congrArg _ (funext fun o=>congrArg _ ?_);cases o with
 | lst ds=>cases y <;> simp[obIx,w_stop,w_lift]
 | dic kvs=>simp[obIx,w_bind,w_lift]
noncomputable def obSet (j:Nat)(o:MO)(y v:D)(M:MH)(U:Unit->MH->Prop):Prop:=match o with
 | .lst ds=>∃ i,y=.int i/\∃ n,ixD ds.length i=some n/\U () (M.set j (.lst (ds.set n v)))
 | .dic kvs=>∃ k,kyD y=some k/\kvs.length < zj/\U () (M.set j (.dic (kvPut kvs k v)))
theorem t_obl {j:Nat}{ds:List D}{i:Int}:obSet j (.lst ds) (.int i) v M U = ∃ n,ixD ds.length i=some n/\U () (M.set j (.lst (ds.set n v))):=by simp[obSet]
theorem t_obd {j:Nat}{kvs:List (Ky×D)}:obSet j (.dic kvs) y v M U = ∃ k,kyD y=some k/\kvs.length < zj/\U () (M.set j (.dic (kvPut kvs k v))):=rfl
theorem t_ob {j:Nat}:W (setIx (.ob j) y v) M U = ∃ o,M[j]?=some o/\obSet j o y v M U:=by
 show W (getM j >>= _) M U=_;rw[w_bind,w_getM];refine congrArg _ (funext fun o=>?_);refine propext (and_congr_right fun h=>?_);have hl:j < M.length:=(zp.mp h).1;cases o with
 | lst ds=>cases y <;> simp[obSet,w_stop,w_lift,w_bind,w_putM,hl]
 | dic kvs=>simp[obSet,w_bind,w_lift,w_need,w_putM,hl]
theorem z_str {t:Str}{lo hi:Option Int}:W (sliceD (.str t) lo hi) M Q=(t.length<=zj/\Q (.str ⟨(cutD t.cps.toList lo hi).toArray⟩) M):=by
 show W (need _ >>= fun _=>pure _) M Q=_;rw[w_bind,w_need,w_pure]
theorem z_lst {j:Nat}{lo hi:Option Int}:W (sliceD (.ob j) lo hi) M Q = ∃ ds,M[j]?=some (.lst ds)/\Q (.ob M.length) (M++[.lst (cutD ds lo hi)]):=by
 show W (getL j >>= fun ds=>newM _) M Q=_;delta W;simp only[v_bind,v_getL,v_newM]
theorem z_tup {ds:List D}{lo hi:Option Int}:W (sliceD (.tup ds) lo hi) M Q=Q (.tup (cutD ds lo hi)) M:=w_pure _ M Q
theorem z_fl {ds:List D}{lo hi:Option Int}:W (sliceD (.fl ds) lo hi) M Q=Q (.ob M.length) (M++[.lst (cutD ds lo hi)]):=w_newM _ M Q
theorem k_lenS {t:Str}:W (blD .len [.str t]) M Q=(t.length<=zj/\Q (.int t.length) M):=by
 show W (need _ >>= fun _=>pure _) M Q=_;rw[w_bind,w_need,w_pure]
noncomputable def lenO (o:MO):Int:=match o with
 | .lst ds=>ds.length
 | .dic kvs=>kvs.length
theorem k_lenO {j:Nat}:W (blD .len [.ob j]) M Q = ∃ o,M[j]?=some o/\Q (.int (lenO o)) M:=by
 show W (getM j >>= _) M Q=_;rw[w_bind,w_getM];refine congrArg _ (funext fun o=>congrArg _ ?_);cases o <;> simp[lenO,w_pure]
theorem k_lenl {ds:List D}:lenO (.lst ds)=ds.length:=rfl
theorem k_lend {ds:List (Ky×D)}:lenO (.dic ds)=ds.length:=rfl
theorem k_lenT {ds:List D}:W (blD .len [.tup ds]) M Q=Q (.int ds.length) M:=w_pure _ M Q
theorem k_lenF {ds:List D}:W (blD .len [.fl ds]) M Q=Q (.int ds.length) M:=w_pure _ M Q
theorem k_tupL {j:Nat}:W (blD .tuple [.ob j]) M Q = ∃ ds,M[j]?=some (.lst ds)/\Q (.tup ds) M:=by
 show W (getL j >>= fun ds=>pure _) M Q=_;delta W;simp only[v_bind,v_getL,v_pure]
theorem k_all {j:Nat}:W (blD .all [.ob j]) M Q = ∃ ds,M[j]?=some (.lst ds)/\∃ bs,ds.mapM boolD=some bs/\Q (.bl (bs.all id)) M:=by
 show W (getL j >>= fun ds=>lift (ds.mapM boolD) >>= fun bs=>pure _) M Q=_;delta W;simp only[v_bind,v_getL,v_lift,v_pure]
theorem k_any {j:Nat}:W (blD .any [.ob j]) M Q = ∃ ds,M[j]?=some (.lst ds)/\∃ bs,ds.mapM boolD=some bs/\Q (.bl (bs.any id)) M:=by
 show W (getL j >>= fun ds=>lift (ds.mapM boolD) >>= fun bs=>pure _) M Q=_;delta W;simp only[v_bind,v_getL,v_lift,v_pure]
theorem y_tup {ds:List D}:W (srcD (.tup ds)) M S=S ⟨none,ds⟩ M:=w_pure _ M S
theorem y_fl {ds:List D}:W (srcD (.fl ds)) M S=S ⟨none,ds⟩ M:=w_pure _ M S
theorem y_lst {j:Nat}:W (srcD (.ob j)) M S = ∃ ds,M[j]?=some (.lst ds)/\S ⟨some (j,ds),ds⟩ M:=by
 show W (getL j >>= fun ds=>pure _) M S=_;delta W;simp only[v_bind,v_getL,v_pure]
theorem u_bl {b:Bool}:W (truD (.bl b)) M B=B b M:=w_pure _ M B
theorem u_tup {ds:List D}:W (truD (.tup ds)) M B=B (!ds.isEmpty) M:=w_pure _ M B
theorem u_int {b:Int}:W (truD (.int b)) M B=B (b != 0) M:=w_pure _ M B
theorem b_bl {b:Bool}:boolD (.bl b)=some b:=rfl
theorem w_compI {ck:Option (Nat×List D)}{c:Ev->Mo Bool}{e:Ev->Mo D}{ρ:Ev}{ds:List D}{L:List D->MH->Prop}(I:Nat->List D->MH->Prop)(h0:I 0 [] M)(hs:∀ n ys M,I n ys M->okM ck M)
  (h:∀ (n:Nat) (d:D) (ys:List D) (M:MH),ds[n]?=some d->I n ys M->W (c (some d::ρ)) M fun b M1=>(b=true->W (e (some d::ρ)) M1 fun y M2=>I (n + 1) (ys++[y]) M2)/\(b=false->I (n + 1) ys M1))
  (q:∀ ys M,I ds.length ys M->L ys M):W (compD ck c e ρ ds) M L:=by
 suffices H:∀ (r:List D) (n:Nat) (ys:List D) (M:MH),(∀ j d,r[j]?=some d->ds[n + j]?=some d)->n + r.length=ds.length->I n ys M->W (compD ck c e ρ r) M fun zs M'=>L (ys++zs) M' by
  simpa using H ds 0 [] M (fun j d e=>by simpa using e) (by simp) h0
 intro r;induction r with
 | nil =>
  intro n ys M _ hn hI;unfold compD;rw[w_bind];refine W.of (show stand ck M=some (.ok (),M) from if_pos (hs _ _ _ hI)) ?_;rw[w_pure,zO]
  have:n=ds.length:=by simpa using hn
  exact q _ _ (this ▸ hI)
 | cons d r ih =>
  intro n ys M hr hn hI;unfold compD;rw[w_bind];refine W.of (show stand ck M=some (.ok (),M) from if_pos (hs _ _ _ hI)) ?_;rw[w_bind];have hd:ds[n]?=some d:=by simpa using hr 0 d rfl
  have hr':∀ j d',r[j]?=some d'->ds[n + 1 + j]?=some d':=fun j d' e=>by
   have:=hr (j + 1) d' (by simpa using e)
   rwa [show n + (j + 1)=n + 1 + j by omega]at this
  have hn':n + 1 + r.length=ds.length:=by rw[zA]at hn;first | lia | omega
  refine(h n d ys M hd hI).mono fun b M1 hb=>?_;rw[w_if];refine⟨fun hb'=>?_,fun hb'=>ih (n + 1) ys M1 hr' hn' (hb.2 hb')⟩;rw[w_bind];refine(hb.1 hb').mono fun y M2 hI2=>?_;rw[w_bind];refine(ih (n + 1) (ys++[y]) M2 hr' hn' hI2).mono fun zs M3 hL=>?_;rw[w_pure];simpa using hL
noncomputable def loopF (I:Nat->Ev->MH->Prop)(F:Fl->MH->Prop)(n:Nat)(f:Fl)(M1:MH):Prop:=match f with
 | .nx ρ'=>I (n + 1) ρ' M1
 | .ct ρ'=>I (n + 1) ρ' M1
 | .bk ρ'=>F (.nx ρ') M1
 | .rt v=>F (.rt v) M1
theorem lf_nx {I:Nat->Ev->MH->Prop}{F:Fl->MH->Prop}{n:Nat}{ρ:Ev}:loopF I F n (.nx ρ) M=I (n + 1) ρ M:=rfl
theorem lf_ct {I:Nat->Ev->MH->Prop}{F:Fl->MH->Prop}{n:Nat}{ρ:Ev}:loopF I F n (.ct ρ) M=I (n + 1) ρ M:=rfl
theorem lf_bk {I:Nat->Ev->MH->Prop}{F:Fl->MH->Prop}{n:Nat}{ρ:Ev}:loopF I F n (.bk ρ) M=F (.nx ρ) M:=rfl
theorem lf_rt {I:Nat->Ev->MH->Prop}{F:Fl->MH->Prop}{n:Nat}{v:D}:loopF I F n (.rt v) M=F (.rt v) M:=rfl
theorem w_loop {ck:Option (Nat×List D)}{i:Nat}{body:Ev->Mo Fl}{ds:List D}{ρ:Ev}{F:Fl->MH->Prop}(I:Nat->Ev->MH->Prop)(h0:I 0 ρ M)(hs:∀ n ρ M,I n ρ M->okM ck M)
  (h:∀ (n:Nat) (d:D) (ρ:Ev) (M:MH),ds[n]?=some d->I n ρ M->W (body (ρ.set i (some d))) M (loopF I F n))
  (q:∀ ρ M,I ds.length ρ M->F (.nx ρ) M):W (loopD ck i body ds ρ) M F:=by
 suffices H:∀ (r:List D) (n:Nat) (ρ:Ev) (M:MH),(∀ j d,r[j]?=some d->ds[n + j]?=some d)->n + r.length=ds.length->I n ρ M->W (loopD ck i body r ρ) M F from
  H ds 0 ρ M (fun j d e=>by simpa using e) (by simp) h0
 intro r;induction r with
 | nil =>
  intro n ρ M _ hn hI;unfold loopD;rw[w_bind];refine W.of (show stand ck M=some (.ok (),M) from if_pos (hs _ _ _ hI)) ?_;rw[w_pure]
  have:n=ds.length:=by simpa using hn
  exact q _ _ (this ▸ hI)
 | cons d r ih =>
  intro n ρ M hr hn hI;unfold loopD;rw[w_bind];refine W.of (show stand ck M=some (.ok (),M) from if_pos (hs _ _ _ hI)) ?_;rw[w_bind];have hd:ds[n]?=some d:=by simpa using hr 0 d rfl
  have hr':∀ j d',r[j]?=some d'->ds[n + 1 + j]?=some d':=fun j d' e=>by
   have:=hr (j + 1) d' (by simpa using e)
   rwa [show n + (j + 1)=n + 1 + j by omega]at this
  have hn':n + 1 + r.length=ds.length:=by rw[zA]at hn;first | lia | omega
  refine(h n d ρ M hd hI).mono fun f M1 hf=>?_;cases f with
  | nx ρ'=>exact ih (n + 1) ρ' M1 hr' hn' hf
  | ct ρ'=>exact ih (n + 1) ρ' M1 hr' hn' hf
  | bk ρ'=>exact(w_pure _ _ _).mpr hf
  | rt v=>exact(w_pure _ _ _).mpr hf
end
end L3
namespace L3
open PySem
theorem ky_str {x:Str}:kyD (.str x)=some (.inr x):=rfl
theorem ky_int {x:Int}:kyD (.int x)=some (.inl x):=rfl
theorem eq_str {a b:Str}:eqF (.str a) (.str b)=(a==b):=rfl
theorem eq_int {a b:Int}:eqF (.int a) (.int b)=(a==b):=rfl
end L3
namespace L3
open PySem
section
variable {Γ:Ctx}{ρ:Ev}{M:MH}{a b c:IE}{Q:D->MH->Prop}{es:IEs}{x y:D}{B:Bool->MH->Prop}
theorem we_neg:W (semE Γ (.neg a) ρ) M Q=W (semE Γ a ρ) M fun x M1=>∃ i,x=.int i/\Q (.int (-i)) M1:=by
 delta W;simp only[q_semE_neg,v_bind];refine congrArg _ (funext fun x=>funext fun M1=>?_);cases x <;> simp[v_stop,v_pure]
theorem q_semE_sset {Γ:Ctx}:∀ a ρ,semE Γ (.sset a) ρ=(do let x <- semE Γ a ρ;setS x):=fun _ _=>rfl
theorem we_sset:W (semE Γ (.sset a) ρ) M Q=W (semE Γ a ρ) M fun x M1=>W (setS x) M1 Q:=by delta W;simp only[q_semE_sset,v_bind]
theorem y_sset {k:Nat}:W (setS (.ob k)) M Q = ∃ ds,M[k]?=some (.lst ds)/\∃ xs,allS ds=some xs/\(addAll [] xs).length < 64/\Q (.ob M.length) (M++[.lst ((sortS (addAll [] xs)).map .str)]):=by
 show W (getL k >>= fun ds=>lift (allS ds) >>= fun xs=>need _ >>= fun _=>newM _) M Q=_;delta W;simp only[v_bind,v_getL,v_lift,v_need,v_newM]
theorem q_semE_srtK {Γ:Ctx}:∀ a ρ,semE Γ (.srtK a) ρ=(do let x <- semE Γ a ρ;keyS x):=fun _ _=>rfl
theorem we_srtK:W (semE Γ (.srtK a) ρ) M Q=W (semE Γ a ρ) M fun x M1=>W (keyS x) M1 Q:=by delta W;simp only[q_semE_srtK,v_bind]
theorem y_srtK {k:Nat}:W (keyS (.ob k)) M Q = ∃ kvs,M[k]?=some (.dic kvs)/\∃ xs,strKeys kvs=some xs/\xs.length < 64/\Q (.ob M.length) (M++[.lst ((sortS xs).map .str)]):=by
 show W (getD k >>= fun kvs=>lift (strKeys kvs) >>= fun xs=>need _ >>= fun _=>newM _) M Q=_;rw[w_bind,w_getD];delta W;simp only[v_bind,v_lift,v_need,v_newM]
theorem we_intB:W (semE Γ (.intB a) ρ) M Q=W (semE Γ a ρ) M fun x M1=>∃ b,boolD x=some b/\Q (.int (if b then 1 else 0)) M1:=by
 delta W;simp only[q_semE_intB,v_bind,v_lift,v_pure]
theorem we_clr {m:M0}:W (semE Γ (.clr m a) ρ) M Q=W (semE Γ a ρ) M fun x M1=>∃ k,x=.ob k/\∃ ds,M1[k]?=some (.lst ds)/\∃ r,m0G .non m ds=some r/\Q r.1 (M1.set k (.lst r.2)):=by
 rw[q_semE_clr,w_bind];refine W_eq (fun x M1=>?_);cases x with
 | ob k =>
  show W (getL k >>= fun ds=>lift (m0G .non m ds) >>= fun r=>putM k (.lst r.2) >>= fun _=>pure r.1) M1 Q=_;rw[w_bind,w_getL];refine propext ⟨fun ⟨ds,h,q⟩=>?_,fun ⟨k',e,ds,h,r,hr,q⟩=>?_⟩
  ·rw[w_bind,w_lift]at q
   obtain⟨r,hr,q⟩:=q;rw[w_bind,w_putM,w_pure]at q;exact⟨k,rfl,ds,h,r,hr,q.2⟩
  ·cases e
   exact⟨ds,h,by rw[w_bind,w_lift];exact⟨r,hr,by rw[w_bind,w_putM,w_pure];exact⟨(zp.mp h).1,q⟩⟩⟩
 | _ =>
  show W Mo.stop M1 Q=_;rw[w_stop];exact propext ⟨fun h=>h.elim,fun ⟨k,e,_⟩=>by cases e⟩
theorem we_isI {t:Ty}:W (semE Γ (.isI a t) ρ) M Q=W (semE Γ a ρ) M fun x M1=>W (tyD t x) M1 fun k M2=>Q (.bl k) M2:=by
 delta W;simp only[q_semE_isI,v_bind,v_pure]
theorem we_mth {m:Mt}:W (semE Γ (.mth m a es) ρ) M Q=W (semE Γ a ρ) M fun x M1=>W (rcvD m x) M1 fun _ M2=>W (semEs Γ es ρ) M2 fun xs M3=>W (mtD m x xs) M3 Q:=by
 delta W;simp only[q_semE_mth,v_bind]
theorem q_non {t:Ty}:W (tyD t .non) M B=B false M:=w_pure _ M B
theorem q_bl {t:Ty}{k:Bool}:W (tyD t (.bl k)) M B=B (t==.bool||t==.int) M:=w_pure _ M B
theorem q_int {t:Ty}{k:Int}:W (tyD t (.int k)) M B=B (t==.int) M:=w_pure _ M B
theorem q_str {t:Ty}{k:Str}:W (tyD t (.str k)) M B=B (t==.str) M:=w_pure _ M B
theorem q_tup {t:Ty}{k:List D}:W (tyD t (.tup k)) M B=B (t==.tuple) M:=w_pure _ M B
theorem q_fl {t:Ty}{k:List D}:W (tyD t (.fl k)) M B=B (t==.list) M:=w_pure _ M B
theorem i_tup {ds:List D}{L:List D->MH->Prop}:W (itemsD (.tup ds)) M L=L ds M:=w_pure _ M L
theorem i_fl {ds:List D}{L:List D->MH->Prop}:W (itemsD (.fl ds)) M L=L ds M:=w_pure _ M L
theorem i_ob {k:Nat}{L:List D->MH->Prop}:W (itemsD (.ob k)) M L = ∃ ds,M[k]?=some (.lst ds)/\L ds M:=w_getL k M L
theorem l_fl {ds:List D}{L:List D->MH->Prop}:W (lstD (.fl ds)) M L=L ds M:=w_pure _ M L
theorem l_ob {k:Nat}{L:List D->MH->Prop}:W (lstD (.ob k)) M L = ∃ ds,M[k]?=some (.lst ds)/\L ds M:=w_getL k M L
theorem k_listI:W (blD .list [x]) M Q=W (itemsD x) M fun ds M1=>Q (.ob M1.length) (M1++[.lst ds]):=by
 show W (itemsD x >>= fun ds=>newM (.lst ds)) M Q=_;delta W;simp only[v_bind,v_newM]
section
variable {U:Unit->MH->Prop}
theorem r_append {k:Nat}:W (rcvD .append (.ob k)) M U = ∃ ds,M[k]?=some (.lst ds)/\U () M:=by
 show W (getL k >>= fun _=>pure ()) M U=_;delta W;simp only[v_bind,v_getL,v_pure]
theorem r_insert {k:Nat}:W (rcvD .insert (.ob k)) M U = ∃ ds,M[k]?=some (.lst ds)/\U () M:=r_append
theorem r_extend {k:Nat}:W (rcvD .extend (.ob k)) M U = ∃ ds,M[k]?=some (.lst ds)/\U () M:=r_append
theorem r_join {k:Str}:W (rcvD .join (.str k)) M U=U () M:=w_pure _ M U
end
theorem w_set {β:Type}{k:Nat}{o:MO}{r:β}{R:β->MH->Prop}{ds:List D}(h:M[k]?=some (.lst ds)):W (putM k o >>= fun _=>pure r) M R=R r (M.set k o):=by
 rw[w_bind,w_putM];have e:W (pure r:Mo β) (M.set k o) R=R r (M.set k o):=w_pure _ _ _;rw[e];simp[lt_of_get h]
theorem m_append {k:Nat}:W (mtD .append (.ob k) [y]) M Q = ∃ ds,M[k]?=some (.lst ds)/\ds.length < zj/\Q .non (M.set k (.lst (ds++[y]))):=by
 show W (getL k >>= fun ds=>need _ >>= fun _=>putM k _ >>= fun _=>pure D.non) M Q=_;rw[w_bind,w_getL];refine congrArg _ (funext fun ds=>propext (and_congr_right fun h=>?_));rw[w_bind,w_need,w_set h]
theorem m_insert {k:Nat}{i:Int}:W (mtD .insert (.ob k) [.int i,y]) M Q = ∃ ds,M[k]?=some (.lst ds)/\(ds.length < zj/\-(2 ^ 62)<=i/\i < 2 ^ 62)/\Q .non (M.set k (.lst (insD ds i y))):=by
 show W (getL k >>= fun ds=>need _ >>= fun _=>putM k _ >>= fun _=>pure D.non) M Q=_;rw[w_bind,w_getL];refine congrArg _ (funext fun ds=>propext (and_congr_right fun h=>?_));rw[w_bind,w_need,w_set h]
theorem m_join {t:Str}{k:Nat}:W (mtD .join (.str t) [.ob k]) M Q = ∃ ds,M[k]?=some (.lst ds)/\∃ ys,ds.mapM strD=some ys/\(ys.map (·.length)).sum + ys.length * t.length<=16777216/\Q (.str (joinS t ys)) M:=by
 show W (getL k >>= fun ds=>lift _ >>= fun ys=>need _ >>= fun _=>pure _) M Q=_;delta W;simp only[v_bind,v_getL,v_need,v_lift,v_pure]
theorem m_extendL {k j:Nat}:W (mtD .extend (.ob k) [.ob j]) M Q = ∃ es,M[j]?=some (.lst es)/\∃ ds,M[k]?=some (.lst ds)/\(ds.length + es.length<=zj/\(j==k)=false)/\Q .non (M.set k (.lst (ds++es))):=by
 show W (getL j >>= fun es=>getL k >>= fun ds=>need _ >>= fun _=>putM k _ >>= fun _=>pure D.non) M Q=_;rw[w_bind,w_getL];refine congrArg _ (funext fun es=>propext (and_congr_right fun h0=>?_));rw[w_bind,w_getL];refine exists_congr fun ds=>and_congr_right fun h=>?_;rw[w_bind,w_need,w_set h];rfl
theorem m_extendT {k:Nat}{es:List D}:W (mtD .extend (.ob k) [.tup es]) M Q = ∃ ds,M[k]?=some (.lst ds)/\(ds.length + es.length<=zj/\true)/\Q .non (M.set k (.lst (ds++es))):=by
 show W (pure es >>= fun es=>getL k >>= fun ds=>need _ >>= fun _=>putM k _ >>= fun _=>pure D.non) M Q=_;rw[w_bind,w_pure,w_bind,w_getL];refine congrArg _ (funext fun ds=>propext (and_congr_right fun h=>?_));rw[w_bind,w_need,w_set h];simp[isOb]
theorem ws_halt {F:Fl->MH->Prop}:W (semS Γ .halt ρ) M F=False:=w_stop M F
end
section
variable {α:Type}{a b c d e f g:α}{l:List α}
theorem at0:atD (a::l) 0=some a:=by simp[atD,ixD]
theorem at1:atD (a::b::l) 1=some b:=atD_nat (j:=1) rfl
theorem at2:atD (a::b::c::l) 2=some c:=atD_nat (j:=2) rfl
theorem at3:atD (a::b::c::d::l) 3=some d:=atD_nat (j:=3) rfl
theorem at4:atD (a::b::c::d::e::l) 4=some e:=atD_nat (j:=4) rfl
theorem at5:atD (a::b::c::d::e::f::l) 5=some f:=atD_nat (j:=5) rfl
theorem at6:atD (a::b::c::d::e::f::g::l) 6=some g:=atD_nat (j:=6) rfl
end
theorem cut_hi {α:Type}(xs:List α){v:Int}(h:0<=v):cutD xs none (some v)=xs.take v.toNat:=by
 unfold cutD;simp only[cutIx];rw[if_neg (by first | lia | omega),ve,xo]
 by_cases h2:v.toNat<=xs.length
 ·rw[wZ h2]
 ·rw[wP (by first | lia | omega),zH,xn (by first | lia | omega)]
theorem cut_lo {α:Type}(xs:List α){v:Int}(h:0<=v):cutD xs (some v) none=xs.drop v.toNat:=by
 unfold cutD;simp only[cutIx];rw[if_neg (by first | lia | omega)]
 by_cases h2:v.toNat<=xs.length
 ·rw[wZ h2,xn (by rw[zS];exact zr _)]
 ·rw[wP (by first | lia | omega),yf,List.drop_of_length_le (by first | lia | omega)]
  simp
theorem cut_len {α:Type}(xs:List α)(lo hi:Option Int):(cutD xs lo hi).length<=xs.length:=by
 unfold cutD;rw[ze,zS];first | lia | omega
theorem nodup_map_range {α:Type}{f:Nat->α}{m:Nat}(h:∀ i j,i < m->j < m->f i=f j->i=j):((List.range m).map f).Nodup:=by
 rw[List.Nodup,wG];refine(List.nodup_range (n:=m)).imp_of_mem fun {a b} ha hb hne he=>hne (h a b (yx.mp ha) (yx.mp hb) he)
theorem eo_ob {M:MH}{n i j:Nat}{xs ys:List D}(h1:M[i]?=some (.lst xs))(h2:M[j]?=some (.lst ys)):eqO M (n + 1) (.ob i) (.ob j)=if xs.length=ys.length then eqL (eqO M n) xs ys else some false:=by
 show (match M[i]?,M[j]? with
   | some (.lst xs),some (.lst ys)=>if xs.length=ys.length then eqL (eqO M n) xs ys else some false
   | _,_=>none)=_
 rw[h1,h2]
noncomputable def dropS:Nat->ISs->ISs
 | 0,s=>s
 | n + 1,.cons _ r=>dropS n r
 | _ + 1,.nil=>.nil
theorem drop_0 {s:ISs}:dropS 0 s=s:=rfl
noncomputable def cutS:Nat->ISs->ISs->ISs
 | 0,_,t=>t
 | n + 1,.cons s r,t=>.cons s (cutS n r t)
 | _ + 1,.nil,t=>t
theorem cut_0 {s t:ISs}:cutS 0 s t=t:=rfl
theorem cut_s {n:Nat}{s:IS}{r t:ISs}:cutS (n + 1) (.cons s r) t=.cons s (cutS n r t):=rfl
theorem cut_S:∀ (n:Nat) (b:ISs),b=cutS n b (dropS n b)
 | 0,_=>rfl
 | n + 1,.cons s r=>congrArg _ (cut_S n r)
 | _ + 1,.nil=>rfl
theorem drop_s {n:Nat}{s:IS}{r:ISs}:dropS (n + 1) (.cons s r)=dropS n r:=rfl
end L3
namespace L3
open PySem
section
variable {Γ:Ctx}{ρ:Ev}{M:MH}{Q:D->MH->Prop}{x y v:D}{a:IE}{s1:ISs}{U:Unit->MH->Prop}{B:Bool->MH->Prop}{S:Src->MH->Prop}{F:Fl->MH->Prop}
theorem r_get {k:Nat}:W (rcvD .get (.ob k)) M U = ∃ ds,M[k]?=some (.dic ds)/\U () M:=by
 show W (getD k >>= fun _=>pure ()) M U=_;delta W;simp only[v_bind,v_getD,v_pure]
theorem r_pop1 {k:Nat}:W (rcvD .pop1 (.ob k)) M U = ∃ ds,M[k]?=some (.lst ds)/\U () M:=r_append
theorem m_pop1 {k:Nat}{i:Int}:W (mtD .pop1 (.ob k) [.int i]) M Q = ∃ ds,M[k]?=some (.lst ds)/\(0<=i/\i < 2 ^ 62)/\∃ y,ds[i.toNat]?=some y/\Q y (M.set k (.lst (ds.eraseIdx i.toNat))):=by
 show W (getL k >>= fun ds=>need _ >>= fun _=>lift _ >>= fun y=>putM k _ >>= fun _=>pure y) M Q=_;rw[w_bind,w_getL];refine congrArg _ (funext fun ds=>propext (and_congr_right fun h=>?_));rw[w_bind,w_need];refine and_congr_right fun _=>?_;rw[w_bind,w_lift];refine exists_congr fun y=>and_congr_right fun _=>?_;rw[w_set h]
theorem k_dictC {k:Nat}:W (blD .dict1 [.ob k]) M Q = ∃ kvs,M[k]?=some (.dic kvs)/\Q (.ob M.length) (M++[.dic kvs]):=by
 show W (getD k >>= fun kvs=>newM _) M Q=_;delta W;simp only[v_bind,v_getD,v_newM]
theorem q_semE_lsk {Γ:Ctx}:∀ a ρ,semE Γ (.lsk a) ρ=(do let x <- semE Γ a ρ;keysL x):=fun _ _=>rfl
theorem we_lsk:W (semE Γ (.lsk a) ρ) M Q=W (semE Γ a ρ) M fun x M1=>W (keysL x) M1 Q:=by delta W;simp only[q_semE_lsk,v_bind]
theorem y_lsk {k:Nat}:W (keysL (.ob k)) M Q = ∃ kvs,M[k]?=some (.dic kvs)/\Q (.ob M.length) (M++[.lst (kvs.map fun kv=>dK kv.1)]):=by
 show W (getD k >>= fun kvs=>newM _) M Q=_;delta W;simp only[v_bind,v_getD,v_newM]
theorem m_get {k:Nat}:W (mtD .get (.ob k) [y,v]) M Q = ∃ kvs,M[k]?=some (.dic kvs)/\∃ q,kyD y=some q/\Q ((kvGet kvs q).getD v) M:=by
 show W (getD k >>= fun kvs=>lift (kyD y) >>= fun q=>pure _) M Q=_;delta W;simp only[v_bind,v_getD,v_lift,v_pure]
theorem wp_seq:W (semP Γ (.seq a) ρ) M S=W (semE Γ a ρ) M fun x M1=>W (srcD x) M1 S:=by delta W;simp only[q_semP_seq,v_bind]
theorem wp_enum:W (semP Γ (.enum a) ρ) M S=W (semE Γ a ρ) M fun x M1=>W (enumS x) M1 S:=by delta W;simp only[q_semP_enum,v_bind]
theorem y_enumF {ds:List D}:W (enumS (.fl ds)) M S=S ⟨none,enumD ds⟩ M:=w_pure _ M S
theorem y_enumT {ds:List D}:W (enumS (.tup ds)) M S=S ⟨none,enumD ds⟩ M:=w_pure _ M S
theorem ws_forP {i j:Nat}{it:IP}:W (semS Γ (.forP i j it s1) ρ) M F=W (semP Γ it ρ) M fun s M1=>W (loopP s.ck i j (semSs Γ s1) s.ds ρ) M1 F:=by delta W;simp only[q_semS_forP,v_bind]
noncomputable def truO:MO->Bool
 | .lst ds=>!ds.isEmpty
 | .dic kvs=>!kvs.isEmpty
theorem u_lst {ds:List D}:truO (.lst ds) = !ds.isEmpty:=rfl
theorem enumG {ds:List D}{n:Nat}{d:D}(h:(enumD ds)[n]?=some d):∃ x,ds[n]?=some x/\d=.tup [.int n,x]:=by
 unfold enumD at h;rw[wz]at h;obtain⟨x,h1,h2⟩:=zu.mp h;exact⟨x,h1,h2.symm⟩
theorem enumN {ds:List D}:(enumD ds).length=ds.length:=wa
theorem w_loopP {ck:Option (Nat×List D)}{i j:Nat}{body:Ev->Mo Fl}{ds:List D}(I:Nat->Ev->MH->Prop)(h0:I 0 ρ M)(hs:∀ n ρ M,I n ρ M->okM ck M)
  (h:∀ (n:Nat) (d:D) (ρ:Ev) (M:MH),ds[n]?=some d->I n ρ M->∃ x y,d=.tup [x,y]/\W (body ((ρ.set i (some x)).set j (some y))) M (loopF I F n))
  (q:∀ ρ M,I ds.length ρ M->F (.nx ρ) M):W (loopP ck i j body ds ρ) M F:=by
 suffices H:∀ (r:List D) (n:Nat) (ρ:Ev) (M:MH),(∀ j d,r[j]?=some d->ds[n + j]?=some d)->n + r.length=ds.length->I n ρ M->W (loopP ck i j body r ρ) M F from
  H ds 0 ρ M (fun j d e=>by simpa using e) (by simp) h0
 intro r;induction r with
 | nil =>
  intro n ρ M _ hn hI;unfold loopP;rw[w_bind];refine W.of (show stand ck M=some (.ok (),M) from if_pos (hs _ _ _ hI)) ?_;rw[w_pure]
  have:n=ds.length:=by simpa using hn
  exact q _ _ (this ▸ hI)
 | cons d r ih =>
  intro n ρ M hr hn hI;unfold loopP;rw[w_bind];refine W.of (show stand ck M=some (.ok (),M) from if_pos (hs _ _ _ hI)) ?_;have hd:ds[n]?=some d:=by simpa using hr 0 d rfl
  have hr':∀ j d',r[j]?=some d'->ds[n + 1 + j]?=some d':=fun j d' e=>by
   have:=hr (j + 1) d' (by simpa using e)
   rwa [show n + (j + 1)=n + 1 + j by omega]at this
  have hn':n + 1 + r.length=ds.length:=by rw[zA]at hn;first | lia | omega
  obtain⟨x,y,rfl,hw⟩:=h n d ρ M hd hI;rw[w_bind,w_lift];refine⟨(x,y),rfl,?_⟩;rw[w_bind];refine hw.mono fun f M1 hf=>?_;cases f with
  | nx ρ'=>exact ih (n + 1) ρ' M1 hr' hn' hf
  | ct ρ'=>exact ih (n + 1) ρ' M1 hr' hn' hf
  | bk ρ'=>exact(w_pure _ _ _).mpr hf
  | rt v=>exact(w_pure _ _ _).mpr hf
end
end L3
namespace L3
open PySem
section
variable {Γ:Ctx}{ρ:Ev}{M:MH}{Q:D->MH->Prop}{d:D}{e:IE}{r:ISs}{F:Fl->MH->Prop}{y:Option D}
theorem v0_:W (semE Γ (.var 0) (some d::ρ)) M Q=Q d M:=by rw[we_var];simp
theorem v1_ {o0:Option D}:W (semE Γ (.var 1) (o0::some d::ρ)) M Q=Q d M:=by rw[we_var];simp
theorem v2_ {o0 o1:Option D}:W (semE Γ (.var 2) (o0::o1::some d::ρ)) M Q=Q d M:=by rw[we_var];simp
theorem v3_ {o0 o1 o2:Option D}:W (semE Γ (.var 3) (o0::o1::o2::some d::ρ)) M Q=Q d M:=by rw[we_var];simp
theorem v4_ {o0 o1 o2 o3:Option D}:W (semE Γ (.var 4) (o0::o1::o2::o3::some d::ρ)) M Q=Q d M:=by rw[we_var];simp
theorem v5_ {o0 o1 o2 o3 o4:Option D}:W (semE Γ (.var 5) (o0::o1::o2::o3::o4::some d::ρ)) M Q=Q d M:=by rw[we_var];simp
theorem v6_ {o0 o1 o2 o3 o4 o5:Option D}:W (semE Γ (.var 6) (o0::o1::o2::o3::o4::o5::some d::ρ)) M Q=Q d M:=by rw[we_var];simp
theorem v7_ {o0 o1 o2 o3 o4 o5 o6:Option D}:W (semE Γ (.var 7) (o0::o1::o2::o3::o4::o5::o6::some d::ρ)) M Q=Q d M:=by rw[we_var];simp
theorem v8_ {o0 o1 o2 o3 o4 o5 o6 o7:Option D}:W (semE Γ (.var 8) (o0::o1::o2::o3::o4::o5::o6::o7::some d::ρ)) M Q=Q d M:=by rw[we_var];simp
theorem v9_ {o0 o1 o2 o3 o4 o5 o6 o7 o8:Option D}:W (semE Γ (.var 9) (o0::o1::o2::o3::o4::o5::o6::o7::o8::some d::ρ)) M Q=Q d M:=by rw[we_var];simp
theorem v10_ {o0 o1 o2 o3 o4 o5 o6 o7 o8 o9:Option D}:W (semE Γ (.var 10) (o0::o1::o2::o3::o4::o5::o6::o7::o8::o9::some d::ρ)) M Q=Q d M:=by rw[we_var];simp
theorem v11_ {o0 o1 o2 o3 o4 o5 o6 o7 o8 o9 o10:Option D}:W (semE Γ (.var 11) (o0::o1::o2::o3::o4::o5::o6::o7::o8::o9::o10::some d::ρ)) M Q=Q d M:=by rw[we_var];simp
theorem v12_ {o0 o1 o2 o3 o4 o5 o6 o7 o8 o9 o10 o11:Option D}:W (semE Γ (.var 12) (o0::o1::o2::o3::o4::o5::o6::o7::o8::o9::o10::o11::some d::ρ)) M Q=Q d M:=by rw[we_var];simp
theorem v13_ {o0 o1 o2 o3 o4 o5 o6 o7 o8 o9 o10 o11 o12:Option D}:W (semE Γ (.var 13) (o0::o1::o2::o3::o4::o5::o6::o7::o8::o9::o10::o11::o12::some d::ρ)) M Q=Q d M:=by rw[we_var];simp
theorem v14_ {o0 o1 o2 o3 o4 o5 o6 o7 o8 o9 o10 o11 o12 o13:Option D}:W (semE Γ (.var 14) (o0::o1::o2::o3::o4::o5::o6::o7::o8::o9::o10::o11::o12::o13::some d::ρ)) M Q=Q d M:=by rw[we_var];simp
theorem v15_ {o0 o1 o2 o3 o4 o5 o6 o7 o8 o9 o10 o11 o12 o13 o14:Option D}:W (semE Γ (.var 15) (o0::o1::o2::o3::o4::o5::o6::o7::o8::o9::o10::o11::o12::o13::o14::some d::ρ)) M Q=Q d M:=by rw[we_var];simp
theorem s0_:W (semSs Γ (.cons (.set 0 e) r) (y::ρ)) M F=W (semE Γ e (y::ρ)) M fun x M1=>W (semSs Γ r (some x::ρ)) M1 F:=by rw[ws_cons,ws_set];rfl
theorem s1_ {o0:Option D}:W (semSs Γ (.cons (.set 1 e) r) (o0::y::ρ)) M F=W (semE Γ e (o0::y::ρ)) M fun x M1=>W (semSs Γ r (o0::some x::ρ)) M1 F:=by rw[ws_cons,ws_set];rfl
theorem s2_ {o0 o1:Option D}:W (semSs Γ (.cons (.set 2 e) r) (o0::o1::y::ρ)) M F=W (semE Γ e (o0::o1::y::ρ)) M fun x M1=>W (semSs Γ r (o0::o1::some x::ρ)) M1 F:=by rw[ws_cons,ws_set];rfl
theorem s3_ {o0 o1 o2:Option D}:W (semSs Γ (.cons (.set 3 e) r) (o0::o1::o2::y::ρ)) M F=W (semE Γ e (o0::o1::o2::y::ρ)) M fun x M1=>W (semSs Γ r (o0::o1::o2::some x::ρ)) M1 F:=by rw[ws_cons,ws_set];rfl
theorem s4_ {o0 o1 o2 o3:Option D}:W (semSs Γ (.cons (.set 4 e) r) (o0::o1::o2::o3::y::ρ)) M F=W (semE Γ e (o0::o1::o2::o3::y::ρ)) M fun x M1=>W (semSs Γ r (o0::o1::o2::o3::some x::ρ)) M1 F:=by rw[ws_cons,ws_set];rfl
theorem s5_ {o0 o1 o2 o3 o4:Option D}:W (semSs Γ (.cons (.set 5 e) r) (o0::o1::o2::o3::o4::y::ρ)) M F=W (semE Γ e (o0::o1::o2::o3::o4::y::ρ)) M fun x M1=>W (semSs Γ r (o0::o1::o2::o3::o4::some x::ρ)) M1 F:=by rw[ws_cons,ws_set];rfl
theorem s6_ {o0 o1 o2 o3 o4 o5:Option D}:W (semSs Γ (.cons (.set 6 e) r) (o0::o1::o2::o3::o4::o5::y::ρ)) M F=W (semE Γ e (o0::o1::o2::o3::o4::o5::y::ρ)) M fun x M1=>W (semSs Γ r (o0::o1::o2::o3::o4::o5::some x::ρ)) M1 F:=by rw[ws_cons,ws_set];rfl
theorem s7_ {o0 o1 o2 o3 o4 o5 o6:Option D}:W (semSs Γ (.cons (.set 7 e) r) (o0::o1::o2::o3::o4::o5::o6::y::ρ)) M F=W (semE Γ e (o0::o1::o2::o3::o4::o5::o6::y::ρ)) M fun x M1=>W (semSs Γ r (o0::o1::o2::o3::o4::o5::o6::some x::ρ)) M1 F:=by rw[ws_cons,ws_set];rfl
theorem s8_ {o0 o1 o2 o3 o4 o5 o6 o7:Option D}:W (semSs Γ (.cons (.set 8 e) r) (o0::o1::o2::o3::o4::o5::o6::o7::y::ρ)) M F=W (semE Γ e (o0::o1::o2::o3::o4::o5::o6::o7::y::ρ)) M fun x M1=>W (semSs Γ r (o0::o1::o2::o3::o4::o5::o6::o7::some x::ρ)) M1 F:=by rw[ws_cons,ws_set];rfl
theorem s9_ {o0 o1 o2 o3 o4 o5 o6 o7 o8:Option D}:W (semSs Γ (.cons (.set 9 e) r) (o0::o1::o2::o3::o4::o5::o6::o7::o8::y::ρ)) M F=W (semE Γ e (o0::o1::o2::o3::o4::o5::o6::o7::o8::y::ρ)) M fun x M1=>W (semSs Γ r (o0::o1::o2::o3::o4::o5::o6::o7::o8::some x::ρ)) M1 F:=by rw[ws_cons,ws_set];rfl
theorem s10_ {o0 o1 o2 o3 o4 o5 o6 o7 o8 o9:Option D}:W (semSs Γ (.cons (.set 10 e) r) (o0::o1::o2::o3::o4::o5::o6::o7::o8::o9::y::ρ)) M F=W (semE Γ e (o0::o1::o2::o3::o4::o5::o6::o7::o8::o9::y::ρ)) M fun x M1=>W (semSs Γ r (o0::o1::o2::o3::o4::o5::o6::o7::o8::o9::some x::ρ)) M1 F:=by rw[ws_cons,ws_set];rfl
theorem s11_ {o0 o1 o2 o3 o4 o5 o6 o7 o8 o9 o10:Option D}:W (semSs Γ (.cons (.set 11 e) r) (o0::o1::o2::o3::o4::o5::o6::o7::o8::o9::o10::y::ρ)) M F=W (semE Γ e (o0::o1::o2::o3::o4::o5::o6::o7::o8::o9::o10::y::ρ)) M fun x M1=>W (semSs Γ r (o0::o1::o2::o3::o4::o5::o6::o7::o8::o9::o10::some x::ρ)) M1 F:=by rw[ws_cons,ws_set];rfl
theorem s12_ {o0 o1 o2 o3 o4 o5 o6 o7 o8 o9 o10 o11:Option D}:W (semSs Γ (.cons (.set 12 e) r) (o0::o1::o2::o3::o4::o5::o6::o7::o8::o9::o10::o11::y::ρ)) M F=W (semE Γ e (o0::o1::o2::o3::o4::o5::o6::o7::o8::o9::o10::o11::y::ρ)) M fun x M1=>W (semSs Γ r (o0::o1::o2::o3::o4::o5::o6::o7::o8::o9::o10::o11::some x::ρ)) M1 F:=by rw[ws_cons,ws_set];rfl
theorem s13_ {o0 o1 o2 o3 o4 o5 o6 o7 o8 o9 o10 o11 o12:Option D}:W (semSs Γ (.cons (.set 13 e) r) (o0::o1::o2::o3::o4::o5::o6::o7::o8::o9::o10::o11::o12::y::ρ)) M F=W (semE Γ e (o0::o1::o2::o3::o4::o5::o6::o7::o8::o9::o10::o11::o12::y::ρ)) M fun x M1=>W (semSs Γ r (o0::o1::o2::o3::o4::o5::o6::o7::o8::o9::o10::o11::o12::some x::ρ)) M1 F:=by rw[ws_cons,ws_set];rfl
theorem s14_ {o0 o1 o2 o3 o4 o5 o6 o7 o8 o9 o10 o11 o12 o13:Option D}:W (semSs Γ (.cons (.set 14 e) r) (o0::o1::o2::o3::o4::o5::o6::o7::o8::o9::o10::o11::o12::o13::y::ρ)) M F=W (semE Γ e (o0::o1::o2::o3::o4::o5::o6::o7::o8::o9::o10::o11::o12::o13::y::ρ)) M fun x M1=>W (semSs Γ r (o0::o1::o2::o3::o4::o5::o6::o7::o8::o9::o10::o11::o12::o13::some x::ρ)) M1 F:=by rw[ws_cons,ws_set];rfl
theorem s15_ {o0 o1 o2 o3 o4 o5 o6 o7 o8 o9 o10 o11 o12 o13 o14:Option D}:W (semSs Γ (.cons (.set 15 e) r) (o0::o1::o2::o3::o4::o5::o6::o7::o8::o9::o10::o11::o12::o13::o14::y::ρ)) M F=W (semE Γ e (o0::o1::o2::o3::o4::o5::o6::o7::o8::o9::o10::o11::o12::o13::o14::y::ρ)) M fun x M1=>W (semSs Γ r (o0::o1::o2::o3::o4::o5::o6::o7::o8::o9::o10::o11::o12::o13::o14::some x::ρ)) M1 F:=by rw[ws_cons,ws_set];rfl
end
end L3
local macro_rules | `(tactic| walk_at $s:str)=>do
 unless s.getString=="wp"||s.getString=="ws" do Lean.Macro.throwUnsupported
 let a <- (("v0_ v1_ v2_ v3_ v4_ v5_ v6_ v7_ v8_ v9_ v10_ v11_ v12_ v13_ v14_ v15_ s0_ s1_ s2_ s3_ s4_ s5_ s6_ s7_ s8_ s9_ s10_ s11_ s12_ s13_ s14_ s15_".splitOn " ").toArray.map fun s=>Lean.mkIdent (`L3++s.toName)).mapM fun i=>`(Lean.Parser.Tactic.simpLemma| ↓ $i:ident)
 let b <- ((("lf_nx u_tup lf_ct lf_bk lf_rt r_get m_get r_pop1 m_pop1 k_dictC we_lsk y_lsk wp_seq wp_enum y_enumF y_enumT ws_forP u_lst w_bind w_pure we_var we_int we_bl we_non we_str we_glb we_bin we_cmp we_cmp2 we_and we_not we_tup we_lst we_dic0 we_idx we_slc we_call we_blt we_comp we_sset we_srtK y_sset y_srtK we_intB we_clr we_neg we_isI we_mth ws_halt wes_nil wes_cons wo_none wo_some wt_seq wt_rng1 wt_rng2 wc_cmp wc_tru wc_not wc_and wc_or wco_none wco_some nxt_nx nxt_rt nxt_bk nxt_ct ws_nil ws_cons ws_set ws_setIx ws_expr ws_ret ws_retN ws_pass ws_brk ws_cnt ws_if ws_for end_nx end_rt p_addI p_subI p_addS p_addT p_addL p_mul p_mod p_eqI p_eqS p_eqB p_neS p_neB p_ltI p_leI p_gtI p_geI p_leS p_ltS p_in p_notIn p_inS p_inT p_inO w_inMo p_isnot g_tup g_fl g_str g_obl g_obd g_ob t_obl t_obd t_ob z_str z_lst z_fl z_tup k_lenS k_lenO k_lenl k_lend k_lenT k_lenF k_tupL k_listI i_tup i_fl i_ob l_fl l_ob q_non q_bl q_int q_str q_tup q_fl r_append r_insert r_extend r_join m_append m_insert m_join m_extendL m_extendT at0 at1 at2 at3 at4 at5 at6 k_all k_any y_tup y_fl y_lst u_bl u_int b_bl w_lift w_need w_newM w_getL w_getM ky_str ky_int D.int.injEq D.bl.injEq D.ob.injEq MO.lst.injEq MO.dic.injEq".replace " ws_if " (if s.getString=="wp" then " ws_if " else " ws_sel sel_t sel_f ")).splitOn " ").toArray.map fun s=>Lean.mkIdent (`L3++s.toName)).mapM fun i=>`(Lean.Parser.Tactic.simpLemma| $i:ident)
 let c <- (("List.getElem?_cons_zero List.getElem?_cons_succ List.set_cons_zero List.set_cons_succ Option.some.injEq exists_eq_left' List.map_cons List.map_nil List.cons_append List.nil_append List.replicate_succ List.replicate_zero List.length_cons List.length_nil true_and and_true Nat.reduceAdd Nat.reduceSub".splitOn " ").toArray.map fun s=>Lean.mkIdent s.toName).mapM fun i=>`(Lean.Parser.Tactic.simpLemma| $i:ident)
 let l:=a++b++c
 `(tactic| try simp only[$l,*])
local macro_rules | `(tactic| walk_at "wq")=>`(tactic| (walk_at "wp";try simp only[vh,vk,yH,wA,false_implies,true_implies,implies_true,true_and,and_true]))
local macro_rules | `(tactic| walk_at "wr")=>`(tactic| (walk_at "ws";try simp only[vh,vk,yH,wA,false_implies,true_implies,implies_true,true_and,and_true]))
local macro_rules | `(tactic| walk_at "o")=>`(tactic| first | decide | exact L3.le_line (by decide) | with_reducible exact Int.add_nonneg (by assumption) (by decide) | with_reducible exact L3.up_ (by assumption) (by with_reducible decide) | lia | omega)
namespace L3
open PySem
noncomputable def prD (p:Str×Str):D:=.tup [.str p.1,.str p.2]
noncomputable def unD:D->Str×Str
 | .tup [.str a,.str b]=>(a,b)
 | _=>("","")
theorem unD_prD (p:Str×Str):unD (prD p)=p:=rfl
end L3
namespace Law
open PySem L3
noncomputable def gl (_:Str):Option D:=none
noncomputable def b_has_name:ISs :=
 (.cons (.ret (.blt .any (.cons (.comp 2 (.seq (.var 0)) .none (.cmp .Eq (.idx (.var 0) (.cint 0)) (.var 2))) .nil)))
  .nil)
noncomputable def b_value_in:ISs :=
 (.cons (.forS 2 (.seq (.var 0)) (.cons (.ifS (.cmp (.cmp .Eq (.idx (.var 2) (.cint 0)) (.var 1))) (.cons (.ret (.idx (.var 2) (.cint 1)))
  .nil) .nil)
  .nil))
  (.cons (.ret (.cstr ("" : Str)))
  .nil))
noncomputable def b_meets:ISs :=
 (.cons (.set 2 (.idx (.var 0) (.cint 0)))
  (.cons (.set 3 (.idx (.var 0) (.cint 1)))
  (.cons (.set 4 (.idx (.var 0) (.cint 2)))
  (.cons (.ifS (.cmp (.cmp .Eq (.var 2) (.cstr ("is" : Str)))) (.cons (.ret (.cmp .In (.call ("value_in" : Str) (.cons (.var 1) (.cons (.var 3) .nil))) (.var 4)))
  .nil) .nil)
  (.cons (.ifS (.cmp (.cmp .Eq (.var 2) (.cstr ("no" : Str)))) (.cons (.ret (.cmp .NotIn (.call ("value_in" : Str) (.cons (.var 1) (.cons (.var 3) .nil))) (.var 4)))
  .nil) .nil)
  (.cons (.ifS (.cmp (.cmp .Eq (.var 2) (.cstr ("there" : Str)))) (.cons (.ret (.call ("has_name" : Str) (.cons (.var 1) (.cons (.var 3) .nil))))
  .nil) .nil)
  (.cons (.ret (.not (.call ("has_name" : Str) (.cons (.var 1) (.cons (.var 3) .nil)))))
  .nil)))))))
noncomputable def b_meets_all:ISs :=
 (.cons (.ret (.blt .all (.cons (.comp 2 (.seq (.var 0)) .none (.call ("meets" : Str) (.cons (.var 0) (.cons (.var 2) .nil)))) .nil)))
  .nil)
noncomputable def b_names_in:ISs :=
 (.cons (.ret (.sset (.comp 1 (.seq (.var 0)) .none (.idx (.var 0) (.cint 1)))))
  .nil)
noncomputable def b_values_beside:ISs :=
 (.cons (.set 2 (.lst .nil))
  (.cons (.forS 3 (.seq (.var 0)) (.cons (.ifS (.cmp (.cmp .Eq (.idx (.var 3) (.cint 1)) (.var 1))) (.cons (.expr (.mth .extend (.var 2) (.cons (.idx (.var 3) (.cint 2)) .nil)))
  .nil) .nil)
  .nil))
  (.cons (.ret (.sset (.var 2)))
  .nil)))
noncomputable def b_places_from:ISs :=
 (.cons (.set 2 (.lst (.cons (.var 1) .nil)))
  (.cons (.forP 3 4 (.enum (.idx (.var 0) (.cint 6))) (.cons (.expr (.mth .extend (.var 2) (.cons (.call ("places_from" : Str) (.cons (.var 4) (.cons (.bin .Add (.var 1) (.tup (.cons (.var 3) .nil))) .nil))) .nil)))
  .nil))
  (.cons (.ret (.var 2))
  .nil)))
noncomputable def b_places:ISs :=
 (.cons (.ret (.call ("places_from" : Str) (.cons (.var 0) (.cons (.tup .nil) .nil))))
  .nil)
noncomputable def b_row_at:ISs :=
 (.cons (.set 2 (.var 0))
  (.cons (.forS 3 (.seq (.var 1)) (.cons (.ifS (.not (.cmp (.cmp2 .LtE .Lt (.cint 0) (.var 3) (.blt .len (.cons (.idx (.var 2) (.cint 6)) .nil))))) (.cons .halt
  .nil) .nil)
  (.cons (.set 2 (.idx (.idx (.var 2) (.cint 6)) (.var 3)))
  .nil)))
  (.cons (.ret (.var 2))
  .nil)))
noncomputable def b_askings_at:ISs :=
 (.cons (.set 2 (.lst .nil))
  (.cons (.forS 3 (.seq (.var 1)) (.cons (.expr (.mth .extend (.var 2) (.cons (.idx (.call ("row_at" : Str) (.cons (.var 0) (.cons (.var 3) .nil))) (.cint 0)) .nil)))
  .nil))
  (.cons (.ret (.var 2))
  .nil)))
noncomputable def b_askings_below:ISs :=
 (.cons (.ret (.call ("askings_at" : Str) (.cons (.var 0) (.cons (.slc (.call ("places" : Str) (.cons (.var 0) .nil)) (.some (.cint 1)) .none) .nil))))
  .nil)
noncomputable def b_values_with:ISs :=
 (.cons (.ret (.call ("values_beside" : Str) (.cons (.call ("askings_below" : Str) (.cons (.var 0) .nil)) (.cons (.var 1) .nil))))
  .nil)
noncomputable def b_names_asked:ISs :=
 (.cons (.ret (.call ("names_in" : Str) (.cons (.call ("askings_below" : Str) (.cons (.var 0) .nil)) .nil)))
  .nil)
noncomputable def b_values_to_split:ISs :=
 (.cons (.ret (.bin .Add (.call ("values_with" : Str) (.cons (.var 0) (.cons (.var 1) .nil))) (.lst (.cons (.cstr ("" : Str)) (.cons .cnon .nil)))))
  .nil)
noncomputable def b_marks_split:ISs :=
 (.cons (.ret (.blt .tuple (.cons (.comp 1 (.seq (.var 0)) (.some (.cmp (.cmp .NotEq (.idx (.var 0) (.cint 1)) (.cstr ("" : Str))))) (.var 0)) .nil)))
  .nil)
noncomputable def b_lies_above:ISs :=
 (.cons (.ret (.and (.cmp .NotEq (.var 0) (.tup .nil)) (.cmp .Eq (.slc (.var 1) .none (.some (.blt .len (.cons (.var 0) .nil)))) (.var 0))))
  .nil)
noncomputable def b_takes_away:ISs :=
 (.cons (.ifS (.cmp (.cmp .Eq (.var 1) (.tup .nil))) (.cons (.ret (.cbl false))
  .nil) .nil)
  (.cons (.set 3 (.slc (.var 1) .none (.some (.neg (.cint 1)))))
  (.cons (.ifS (.cmp (.cmp .Eq (.var 3) (.var 2))) (.cons (.ret (.cbl true))
  .nil) .nil)
  (.cons (.ifS (.or (.cmp (.cmp .NotEq (.slc (.var 2) .none (.some (.blt .len (.cons (.var 3) .nil)))) (.var 3))) (.cmp (.cmp .GtE (.idx (.var 1) (.neg (.cint 1))) (.idx (.var 2) (.blt .len (.cons (.var 3) .nil)))))) (.cons (.ret (.cbl false))
  .nil) .nil)
  (.cons (.ret (.not (.idx (.call ("row_at" : Str) (.cons (.var 0) (.cons (.var 1) .nil))) (.cint 1))))
  .nil)))))
noncomputable def b_fails:ISs :=
 (.cons (.ifS (.not (.tru (.call ("lies_above" : Str) (.cons (.var 1) (.cons (.var 2) .nil))))) (.cons (.ret (.cbl false))
  .nil) .nil)
  (.cons (.set 4 (.call ("marks_split" : Str) (.cons (.var 3) .nil)))
  (.cons (.ret (.blt .any (.cons (.comp 5 (.seq (.idx (.call ("row_at" : Str) (.cons (.var 0) (.cons (.var 1) .nil))) (.cint 0))) .none (.and (.call ("has_name" : Str) (.cons (.var 4) (.cons (.idx (.var 0) (.cint 1)) .nil))) (.not (.call ("meets" : Str) (.cons (.var 0) (.cons (.var 5) .nil)))))) .nil)))
  .nil)))
noncomputable def b_is_caught:ISs :=
 (.cons (.ifS (.not (.tru (.call ("takes_away" : Str) (.cons (.var 0) (.cons (.var 1) (.cons (.var 2) .nil)))))) (.cons (.ret (.cbl false))
  .nil) .nil)
  (.cons (.set 4 (.idx (.call ("row_at" : Str) (.cons (.var 0) (.cons (.var 1) .nil))) (.cint 0)))
  (.cons (.ret (.and (.blt .all (.cons (.comp 5 (.seq (.var 4)) .none (.call ("has_name" : Str) (.cons (.var 4) (.cons (.idx (.var 0) (.cint 1)) .nil)))) .nil)) (.call ("meets_all" : Str) (.cons (.var 4) (.cons (.call ("marks_split" : Str) (.cons (.var 3) .nil)) .nil)))))
  .nil)))
noncomputable def b_bears_for:ISs :=
 (.cons (.ifS (.cmp (.cmp .Eq (.idx (.var 2) (.cint 0)) (.cstr ("split" : Str)))) (.cons (.ret (.call ("bears_split" : Str) (.cons (.var 0) (.cons (.var 1) (.cons (.var 2) (.cons (.var 3) .nil))))))
  .nil) .nil)
  (.cons (.ifS (.cmp (.cmp .NotIn (.idx (.var 2) (.cint 1)) (.call ("places" : Str) (.cons (.var 0) .nil)))) (.cons (.ret (.cbl false))
  .nil) .nil)
  (.cons (.ifS (.cmp (.cmp .Eq (.idx (.var 2) (.cint 0)) (.cstr ("fails" : Str)))) (.cons (.ret (.call ("fails" : Str) (.cons (.var 0) (.cons (.idx (.var 2) (.cint 1)) (.cons (.var 1) (.cons (.var 3) .nil))))))
  .nil) .nil)
  (.cons (.ret (.call ("is_caught" : Str) (.cons (.var 0) (.cons (.idx (.var 2) (.cint 1)) (.cons (.var 1) (.cons (.var 3) .nil))))))
  .nil))))
noncomputable def b_bears_split:ISs :=
 (.cons (.set 4 (.idx (.var 2) (.cint 1)))
  (.cons (.ifS (.or (.tru (.call ("has_name" : Str) (.cons (.var 3) (.cons (.var 4) .nil)))) (.cmp (.cmp .NotIn (.var 4) (.call ("names_asked" : Str) (.cons (.var 0) .nil))))) (.cons (.ret (.cbl false))
  .nil) .nil)
  (.cons (.ifS (.cmp (.cmp .NotEq (.comp 5 (.seq (.idx (.var 2) (.cint 2))) .none (.idx (.var 0) (.cint 0))) (.call ("values_to_split" : Str) (.cons (.var 0) (.cons (.var 4) .nil))))) (.cons (.ret (.cbl false))
  .nil) .nil)
  (.cons (.ret (.blt .all (.cons (.comp 5 (.seq (.idx (.var 2) (.cint 2))) .none (.call ("bears_for" : Str) (.cons (.var 1) (.cons (.var 2) (.cons (.idx (.var 0) (.cint 1)) (.cons (.bin .Add (.var 4) (.tup (.cons (.tup (.cons (.var 5) (.cons (.idx (.var 0) (.cint 0)) .nil))) .nil))) .nil)))))) .nil)))
  .nil))))
noncomputable def b_bears:ISs :=
 (.cons (.ret (.call ("bears_for" : Str) (.cons (.var 0) (.cons (.var 1) (.cons (.var 2) (.cons (.tup .nil) .nil))))))
  .nil)
noncomputable def b__law_mixed:ISs :=
 (.cons (.set 2 (.bin .Add (.bin .Mult (.bin .Mult (.var 1) (.var 1)) (.cint 7919)) (.cint 11)))
  (.cons (.ifS (.cmp (.cmp .Gt (.blt .len (.cons (.var 0) .nil)) (.cint 0))) (.cons (.set 2 (.bin .Add (.var 2) (.idx (.var 0) (.bin .Mod (.var 1) (.blt .len (.cons (.var 0) .nil))))))
  .nil) .nil)
  (.cons (.ret (.var 2))
  .nil)))
noncomputable def b__law_pick:ISs :=
 (.cons (.ret (.bin .Mod (.bin .Mod (.bin .Mult (.call ("_law_mixed" : Str) (.cons (.var 0) (.cons (.var 1) .nil))) (.cint 48271)) (.cint 2147483647)) (.var 2)))
  .nil)
noncomputable def b__law_words:ISs :=
 (.cons (.set 4 (.mth .join (.cstr ("" : Str)) (.cons (.comp 9 (.rng1 (.cint 8)) .none (.idx (.var 3) (.call ("_law_pick" : Str) (.cons (.var 1) (.cons (.bin .Add (.var 2) (.var 0)) (.cons (.blt .len (.cons (.var 3) .nil)) .nil)))))) .nil)))
  (.cons (.set 5 (.call ("_law_pick" : Str) (.cons (.var 0) (.cons (.bin .Add (.var 1) (.cint 8)) (.cons (.cint 3) .nil)))))
  (.cons (.ifS (.cmp (.cmp .Eq (.var 5) (.cint 0))) (.cons (.ret (.comp 9 (.rng1 (.var 3)) .none (.slc (.var 5) .none (.some (.bin .Add (.var 0) (.cint 1))))))
  .nil) .nil)
  (.cons (.set 6 (.call ("_law_pick" : Str) (.cons (.var 0) (.cons (.bin .Add (.var 1) (.cint 9)) (.cons (.cint 8) .nil)))))
  (.cons (.set 7 (.call ("_law_pick" : Str) (.cons (.var 0) (.cons (.bin .Add (.var 1) (.cint 10)) (.cons (.blt .len (.cons (.var 2) .nil)) .nil)))))
  (.cons (.set 8 (.lst .nil))
  (.cons (.forS 9 (.rng1 (.var 3)) (.cons (.set 10 (.idx (.var 2) (.bin .Mod (.bin .Add (.var 7) (.var 9)) (.blt .len (.cons (.var 2) .nil)))))
  (.cons (.expr (.mth .append (.var 8) (.cons (.bin .Add (.bin .Add (.slc (.var 4) .none (.some (.var 6))) (.var 10)) (.slc (.var 4) (.some (.bin .Add (.var 6) (.cint 1))) .none)) .nil)))
  .nil)))
  (.cons (.ifS (.cmp (.cmp .Eq (.var 5) (.cint 1))) (.cons (.ret (.var 8))
  .nil) .nil)
  (.cons (.ret (.comp 11 (.seq (.var 8)) .none (.slc (.var 0) .none (.some (.bin .Add (.var 7) (.cint 1))))))
  .nil)))))))))
noncomputable def b__law_pool:ISs :=
 (.cons (.set 2 (.call ("_law_words" : Str) (.cons (.var 0) (.cons (.var 1) (.cons (.cstr ("abcdefghijklmnopqrstuvwxyz" : Str)) (.cons (.cint 6) .nil))))))
  (.cons (.set 3 (.call ("_law_words" : Str) (.cons (.var 0) (.cons (.bin .Add (.var 1) (.cint 11)) (.cons (.cstr ("abcdefghijklmnopqrstuvwxyz0123456789" : Str)) (.cons (.cint 4) .nil))))))
  (.cons (.ifS (.cmp (.cmp .Eq (.call ("_law_pick" : Str) (.cons (.var 0) (.cons (.bin .Add (.var 1) (.cint 22)) (.cons (.cint 2) .nil)))) (.cint 0))) (.cons (.set 3 (.comp 6 (.seq (.var 3)) .none (.bin .Add (.var 0) (.cstr ("0z9a" : Str)))))
  .nil) .nil)
  (.cons (.set 4 (.call ("_law_pick" : Str) (.cons (.var 0) (.cons (.bin .Add (.var 1) (.cint 23)) (.cons (.cint 6) .nil)))))
  (.cons (.set 2 (.bin .Add (.slc (.var 2) (.some (.var 4)) .none) (.slc (.var 2) .none (.some (.var 4)))))
  (.cons (.set 5 (.slc (.var 2) .none (.some (.idx (.lst (.cons (.cint 1) (.cons (.cint 2) (.cons (.cint 1) (.cons (.cint 2) (.cons (.cint 1) (.cons (.cint 2) (.cons (.cint 2) (.cons (.cint 1) (.cons (.cint 3) .nil)))))))))) (.call ("_law_pick" : Str) (.cons (.var 0) (.cons (.bin .Add (.var 1) (.cint 24)) (.cons (.cint 9) .nil))))))))
  (.cons (.ret (.tup (.cons (.var 5) (.cons (.slc (.var 3) .none (.some (.idx (.lst (.cons (.cint 1) (.cons (.cint 2) (.cons (.cint 1) (.cons (.cint 2) (.cons (.cint 2) (.cons (.cint 1) (.cons (.cint 2) (.cons (.cint 1) (.cons (.cint 3) .nil)))))))))) (.call ("_law_pick" : Str) (.cons (.var 0) (.cons (.bin .Add (.var 1) (.cint 25)) (.cons (.cint 9) .nil))))))) (.cons (.var 2) (.cons (.idx (.var 3) (.cint 3)) .nil))))))
  .nil)))))))
noncomputable def b__law_asking:ISs :=
 (.cons (.set 3 (.idx (.idx (.var 2) (.cint 0)) (.call ("_law_pick" : Str) (.cons (.var 0) (.cons (.var 1) (.cons (.blt .len (.cons (.idx (.var 2) (.cint 0)) .nil)) .nil))))))
  (.cons (.set 4 (.idx (.lst (.cons (.cstr ("is" : Str)) (.cons (.cstr ("is" : Str)) (.cons (.cstr ("no" : Str)) (.cons (.cstr ("there" : Str)) (.cons (.cstr ("lacks" : Str)) .nil)))))) (.call ("_law_pick" : Str) (.cons (.var 0) (.cons (.bin .Add (.var 1) (.cint 1)) (.cons (.cint 5) .nil))))))
  (.cons (.ifS (.or (.cmp (.cmp .Eq (.var 4) (.cstr ("there" : Str)))) (.cmp (.cmp .Eq (.var 4) (.cstr ("lacks" : Str))))) (.cons (.ret (.tup (.cons (.var 4) (.cons (.var 3) (.cons (.tup .nil) .nil)))))
  .nil) .nil)
  (.cons (.set 5 (.call ("_law_pick" : Str) (.cons (.var 0) (.cons (.bin .Add (.var 1) (.cint 2)) (.cons (.blt .len (.cons (.idx (.var 2) (.cint 1)) .nil)) .nil)))))
  (.cons (.set 6 (.bin .Add (.slc (.idx (.var 2) (.cint 1)) (.some (.var 5)) .none) (.slc (.idx (.var 2) (.cint 1)) .none (.some (.var 5)))))
  (.cons (.ret (.tup (.cons (.var 4) (.cons (.var 3) (.cons (.blt .tuple (.cons (.slc (.var 6) .none (.some (.bin .Add (.cint 1) (.call ("_law_pick" : Str) (.cons (.var 0) (.cons (.bin .Add (.var 1) (.cint 3)) (.cons (.blt .len (.cons (.idx (.var 2) (.cint 1)) .nil)) .nil))))))) .nil)) .nil)))))
  .nil))))))
noncomputable def b__law_askings:ISs :=
 (.cons (.ret (.blt .tuple (.cons (.comp 4 (.rng1 (.var 2)) .none (.call ("_law_asking" : Str) (.cons (.var 1) (.cons (.bin .Add (.var 2) (.bin .Mult (.cint 4) (.var 0))) (.cons (.var 4) .nil))))) .nil)))
  .nil)
noncomputable def b__law_nodes:ISs :=
 (.cons (.set 4 (.lst .nil))
  (.cons (.forS 5 (.rng1 (.bin .Add (.var 2) (.cint 1))) (.cons (.set 6 (.bin .Add (.var 1) (.bin .Mult (.cint 16) (.var 5))))
  (.cons (.set 7 (.call ("_law_askings" : Str) (.cons (.var 0) (.cons (.var 6) (.cons (.idx (.lst (.cons (.cint 0) (.cons (.cint 1) (.cons (.cint 1) (.cons (.cint 2) (.cons (.cint 1) (.cons (.cint 1) (.cons (.cint 3) .nil)))))))) (.call ("_law_pick" : Str) (.cons (.var 0) (.cons (.bin .Add (.var 6) (.cint 12)) (.cons (.cint 7) .nil))))) (.cons (.var 3) .nil))))))
  (.cons (.set 8 (.call ("_law_pick" : Str) (.cons (.var 0) (.cons (.bin .Add (.var 6) (.cint 13)) (.cons (.cint 6) .nil)))))
  (.cons (.set 9 (.slc (.bin .Add (.slc (.idx (.var 3) (.cint 2)) (.some (.var 8)) .none) (.slc (.idx (.var 3) (.cint 2)) .none (.some (.var 8)))) .none (.some (.call ("_law_pick" : Str) (.cons (.var 0) (.cons (.bin .Add (.var 6) (.cint 14)) (.cons (.cint 4) .nil)))))))
  (.cons (.set 10 (.comp 11 (.seq (.var 4)) (.some (.and (.cmp (.cmp .Lt (.idx (.var 0) (.cint 2)) (.cint 4))) (.cmp (.cmp .Lt (.blt .len (.cons (.idx (.var 0) (.cint 3)) .nil)) (.cint 5))))) (.var 0)))
  (.cons (.set 11 (.lst (.cons (.var 7) (.cons (.blt .tuple (.cons (.var 9) .nil)) (.cons (.cint 0) (.cons (.lst .nil) (.cons (.cmp .Eq (.call ("_law_pick" : Str) (.cons (.var 0) (.cons (.bin .Add (.var 6) (.cint 15)) (.cons (.cint 3) .nil)))) (.cint 0)) .nil)))))))
  (.cons (.ifS (.cmp (.cmp .Gt (.var 5) (.cint 0))) (.cons (.set 12 (.idx (.var 10) (.idx (.lst (.cons (.neg (.cint 1)) (.cons (.call ("_law_pick" : Str) (.cons (.var 0) (.cons (.bin .Add (.var 6) (.cint 11)) (.cons (.blt .len (.cons (.var 10) .nil)) .nil)))) .nil))) (.call ("_law_pick" : Str) (.cons (.var 0) (.cons (.bin .Add (.var 6) (.cint 10)) (.cons (.cint 2) .nil)))))))
  (.cons (.setIx (.var 11) (.cint 2) (.bin .Add (.idx (.var 12) (.cint 2)) (.cint 1)))
  (.cons (.expr (.mth .append (.idx (.var 12) (.cint 3)) (.cons (.var 5) .nil)))
  .nil))) .nil)
  (.cons (.expr (.mth .append (.var 4) (.cons (.var 11) .nil)))
  .nil)))))))))
  (.cons (.ret (.var 4))
  .nil)))
noncomputable def b__law_row:ISs :=
 (.cons (.set 2 (.idx (.var 0) (.var 1)))
  (.cons (.ret (.tup (.cons (.idx (.var 2) (.cint 0)) (.cons (.idx (.var 2) (.cint 4)) (.cons (.idx (.var 2) (.cint 1)) (.cons (.bin .Add (.cint 1) (.var 1)) (.cons (.bin .Add (.bin .Mult (.cint 2) (.var 1)) (.cint 1)) (.cons (.tup .nil) (.cons (.blt .tuple (.cons (.comp 3 (.seq (.idx (.var 2) (.cint 3))) .none (.call ("_law_row" : Str) (.cons (.var 1) (.cons (.var 0) .nil)))) .nil)) .nil)))))))))
  .nil))
noncomputable def b__law_tree:ISs :=
 (.cons (.set 4 (.call ("_law_nodes" : Str) (.cons (.var 0) (.cons (.var 1) (.cons (.var 2) (.cons (.var 3) .nil))))))
  (.cons (.setIx (.idx (.var 4) (.cint 0)) (.cint 0) (.tup (.cons (.tup (.cons (.cstr ("is" : Str)) (.cons (.idx (.idx (.var 3) (.cint 2)) (.neg (.cint 1))) (.cons (.tup (.cons (.idx (.var 3) (.cint 3)) .nil)) .nil)))) .nil)))
  (.cons (.ret (.call ("_law_row" : Str) (.cons (.var 4) (.cons (.cint 0) .nil))))
  .nil)))
noncomputable def b__law_met:ISs :=
 (.cons (.ifS (.cmp (.cmp .Eq (.idx (.var 0) (.cint 0)) (.cstr ("is" : Str)))) (.cons (.ret (.cmp .In (.var 1) (.idx (.var 0) (.cint 2))))
  .nil) .nil)
  (.cons (.ifS (.cmp (.cmp .Eq (.idx (.var 0) (.cint 0)) (.cstr ("no" : Str)))) (.cons (.ret (.cmp .NotIn (.var 1) (.idx (.var 0) (.cint 2))))
  .nil) .nil)
  (.cons (.ret (.cmp .Eq (.cmp .NotEq (.var 1) (.cstr ("" : Str))) (.cmp .Eq (.idx (.var 0) (.cint 0)) (.cstr ("there" : Str)))))
  .nil)))
noncomputable def b__law_places:ISs :=
 (.cons (.set 2 (.lst (.cons (.var 1) .nil)))
  (.cons (.forS 3 (.rng1 (.blt .len (.cons (.idx (.var 0) (.cint 6)) .nil))) (.cons (.set 2 (.bin .Add (.var 2) (.call ("_law_places" : Str) (.cons (.idx (.idx (.var 0) (.cint 6)) (.var 3)) (.cons (.bin .Add (.var 1) (.tup (.cons (.var 3) .nil))) .nil)))))
  .nil))
  (.cons (.ret (.var 2))
  .nil)))
noncomputable def b__law_at:ISs :=
 (.cons (.forS 2 (.seq (.var 1)) (.cons (.set 0 (.idx (.idx (.var 0) (.cint 6)) (.var 2)))
  .nil))
  (.cons (.ret (.var 0))
  .nil))
noncomputable def b__law_splits:ISs :=
 (.cons (.set 1 .dic0)
  (.cons (.forS 2 (.seq (.slc (.call ("_law_places" : Str) (.cons (.var 0) (.cons (.tup .nil) .nil))) (.some (.cint 1)) .none)) (.cons (.forS 3 (.seq (.idx (.call ("_law_at" : Str) (.cons (.var 0) (.cons (.var 2) .nil))) (.cint 0))) (.cons (.setIx (.var 1) (.idx (.var 3) (.cint 1)) (.bin .Add (.mth .get (.var 1) (.cons (.idx (.var 3) (.cint 1)) (.cons (.lst .nil) .nil))) (.blt .list (.cons (.idx (.var 3) (.cint 2)) .nil))))
  .nil))
  .nil))
  (.cons (.set 4 .dic0)
  (.cons (.forS 5 (.seq (.srtK (.var 1))) (.cons (.setIx (.var 4) (.var 5) (.bin .Add (.sset (.idx (.var 1) (.var 5))) (.lst (.cons (.cstr ("" : Str)) (.cons .cnon .nil)))))
  .nil))
  (.cons (.ret (.var 4))
  .nil)))))
noncomputable def b__law_lower:ISs :=
 (.cons (.forS 3 (.seq (.idx (.call ("_law_at" : Str) (.cons (.var 0) (.cons (.var 1) .nil))) (.cint 0))) (.cons (.ifS (.and (.cmp (.cmp .In (.idx (.var 3) (.cint 1)) (.var 2))) (.not (.tru (.call ("_law_met" : Str) (.cons (.var 3) (.cons (.idx (.var 2) (.idx (.var 3) (.cint 1))) .nil)))))) (.cons (.ret (.cbl true))
  .nil) .nil)
  .nil))
  (.cons (.ret (.cbl false))
  .nil))
noncomputable def b__law_upper:ISs :=
 (.cons (.forS 3 (.seq (.idx (.call ("_law_at" : Str) (.cons (.var 0) (.cons (.var 1) .nil))) (.cint 0))) (.cons (.ifS (.or (.cmp (.cmp .NotIn (.idx (.var 3) (.cint 1)) (.var 2))) (.not (.tru (.call ("_law_met" : Str) (.cons (.var 3) (.cons (.idx (.var 2) (.idx (.var 3) (.cint 1))) .nil)))))) (.cons (.ret (.cbl false))
  .nil) .nil)
  .nil))
  (.cons (.ret (.cbl true))
  .nil))
noncomputable def b__law_in_the_way:ISs :=
 (.cons (.set 2 (.comp 4 (.rng1 (.blt .len (.cons (.idx (.call ("_law_at" : Str) (.cons (.var 0) (.cons (.var 1) .nil))) (.cint 6)) .nil))) .none (.bin .Add (.var 2) (.tup (.cons (.var 0) .nil)))))
  (.cons (.forS 3 (.rng1 (.blt .len (.cons (.var 1) .nil))) (.cons (.forS 4 (.rng1 (.idx (.var 1) (.var 3))) (.cons (.ifS (.not (.tru (.idx (.call ("_law_at" : Str) (.cons (.var 0) (.cons (.bin .Add (.slc (.var 1) .none (.some (.var 3))) (.tup (.cons (.var 4) .nil))) .nil))) (.cint 1)))) (.cons (.expr (.mth .append (.var 2) (.cons (.bin .Add (.slc (.var 1) .none (.some (.var 3))) (.tup (.cons (.var 4) .nil))) .nil)))
  .nil) .nil)
  .nil))
  .nil))
  (.cons (.ret (.var 2))
  .nil)))
noncomputable def b__law_bears:ISs :=
 (.cons (.ifS (.cmp (.cmp .Eq (.idx (.var 3) (.cint 0)) (.cstr ("fails" : Str)))) (.cons (.ifS (.or (.cmp (.cmp .Eq (.blt .len (.cons (.idx (.var 3) (.cint 1)) .nil)) (.cint 0))) (.cmp (.cmp .NotEq (.idx (.var 3) (.cint 1)) (.slc (.var 1) .none (.some (.blt .len (.cons (.idx (.var 3) (.cint 1)) .nil))))))) (.cons (.ret (.cbl false))
  .nil) .nil)
  (.cons (.ret (.call ("_law_lower" : Str) (.cons (.var 0) (.cons (.idx (.var 3) (.cint 1)) (.cons (.var 4) .nil)))))
  .nil)) .nil)
  (.cons (.ifS (.cmp (.cmp .Eq (.idx (.var 3) (.cint 0)) (.cstr ("caught" : Str)))) (.cons (.ret (.and (.cmp .In (.idx (.var 3) (.cint 1)) (.call ("_law_in_the_way" : Str) (.cons (.var 0) (.cons (.var 1) .nil)))) (.call ("_law_upper" : Str) (.cons (.var 0) (.cons (.idx (.var 3) (.cint 1)) (.cons (.var 4) .nil))))))
  .nil) .nil)
  (.cons (.ifS (.or (.cmp (.cmp .In (.idx (.var 3) (.cint 1)) (.var 4))) (.or (.cmp (.cmp .NotIn (.idx (.var 3) (.cint 1)) (.var 2))) (.cmp (.cmp .NotEq (.comp 8 (.seq (.idx (.var 3) (.cint 2))) .none (.idx (.var 0) (.cint 0))) (.idx (.var 2) (.idx (.var 3) (.cint 1))))))) (.cons (.ret (.cbl false))
  .nil) .nil)
  (.cons (.forP 5 6 (.seq (.idx (.var 3) (.cint 2))) (.cons (.set 7 (.blt .dict1 (.cons (.var 4) .nil)))
  (.cons (.setIx (.var 7) (.idx (.var 3) (.cint 1)) (.var 5))
  (.cons (.ifS (.not (.tru (.call ("_law_bears" : Str) (.cons (.var 0) (.cons (.var 1) (.cons (.var 2) (.cons (.var 6) (.cons (.var 7) .nil)))))))) (.cons (.ret (.cbl false))
  .nil) .nil)
  .nil))))
  (.cons (.ret (.cbl true))
  .nil)))))
noncomputable def b__law_end:ISs :=
 (.cons (.forS 4 (.rng2 (.cint 1) (.bin .Add (.blt .len (.cons (.var 2) .nil)) (.cint 1))) (.cons (.ifS (.tru (.call ("_law_lower" : Str) (.cons (.var 1) (.cons (.slc (.var 2) .none (.some (.var 4))) (.cons (.var 3) .nil))))) (.cons (.ret (.tup (.cons (.cstr ("fails" : Str)) (.cons (.slc (.var 2) .none (.some (.var 4))) .nil))))
  .nil) .nil)
  .nil))
  (.cons (.forS 5 (.seq (.call ("_law_in_the_way" : Str) (.cons (.var 1) (.cons (.var 2) .nil)))) (.cons (.ifS (.tru (.call ("_law_upper" : Str) (.cons (.var 1) (.cons (.var 5) (.cons (.var 3) .nil))))) (.cons (.ret (.tup (.cons (.cstr ("caught" : Str)) (.cons (.var 5) .nil))))
  .nil) .nil)
  .nil))
  (.cons (.ret .cnon)
  .nil)))
noncomputable def b__law_case:ISs :=
 (.cons (.set 6 (.call ("_law_end" : Str) (.cons (.var 0) (.cons (.var 1) (.cons (.var 2) (.cons (.var 5) .nil))))))
  (.cons (.ifS (.cmp (.cmp .IsNot (.var 6) .cnon)) (.cons (.ret (.var 6))
  .nil) .nil)
  (.cons (.ifS (.cmp (.cmp .Eq (.blt .len (.cons (.var 4) .nil)) (.cint 0))) (.cons (.ret (.call ("_law_leaf" : Str) (.cons (.var 0) (.cons (.cint 140) (.cons (.var 2) .nil)))))
  .nil) .nil)
  (.cons (.set 7 (.lst .nil))
  (.cons (.forS 8 (.seq (.idx (.var 3) (.idx (.var 4) (.cint 0)))) (.cons (.set 9 (.blt .dict1 (.cons (.var 5) .nil)))
  (.cons (.setIx (.var 9) (.idx (.var 4) (.cint 0)) (.var 8))
  (.cons (.expr (.mth .append (.var 7) (.cons (.tup (.cons (.var 8) (.cons (.call ("_law_case" : Str) (.cons (.var 0) (.cons (.var 1) (.cons (.var 2) (.cons (.var 3) (.cons (.slc (.var 4) (.some (.cint 1)) .none) (.cons (.var 9) .nil))))))) .nil))) .nil)))
  .nil))))
  (.cons (.ret (.tup (.cons (.cstr ("split" : Str)) (.cons (.idx (.var 4) (.cint 0)) (.cons (.blt .tuple (.cons (.var 7) .nil)) .nil)))))
  .nil))))))
noncomputable def b__law_leaf:ISs :=
 (.cons (.set 3 (.lst (.cons (.var 2) (.cons (.bin .Add (.var 2) (.tup (.cons (.cint 0) .nil))) (.cons (.slc (.var 2) .none (.some (.neg (.cint 1)))) (.cons (.bin .Add (.slc (.var 2) .none (.some (.neg (.cint 1)))) (.tup (.cons (.cint 1) .nil))) (.cons (.slc (.var 2) .none (.some (.cint 1))) (.cons (.bin .Add (.slc (.var 2) .none (.some (.neg (.cint 1)))) (.tup (.cons (.cint 0) .nil))) (.cons (.tup .nil) .nil)))))))))
  (.cons (.set 4 (.idx (.lst (.cons (.cstr ("fails" : Str)) (.cons (.cstr ("caught" : Str)) .nil))) (.call ("_law_pick" : Str) (.cons (.var 0) (.cons (.var 1) (.cons (.cint 2) .nil))))))
  (.cons (.ret (.tup (.cons (.var 4) (.cons (.idx (.var 3) (.call ("_law_pick" : Str) (.cons (.var 0) (.cons (.bin .Add (.var 1) (.cint 1)) (.cons (.cint 7) .nil))))) .nil))))
  .nil)))
noncomputable def b__law_bent:ISs :=
 (.cons (.set 5 (.call ("_law_pick" : Str) (.cons (.var 0) (.cons (.var 1) (.cons (.cint 10) .nil)))))
  (.cons (.ifS (.cmp (.cmp .NotEq (.idx (.var 4) (.cint 0)) (.cstr ("split" : Str)))) (.cons (.ifS (.cmp (.cmp .Lt (.var 5) (.cint 3))) (.cons (.ret (.tup (.cons (.idx (.lst (.cons (.cstr ("caught" : Str)) (.cons (.cstr ("fails" : Str)) .nil))) (.intB (.cmp .Eq (.idx (.var 4) (.cint 0)) (.cstr ("caught" : Str))))) (.cons (.idx (.var 4) (.cint 1)) .nil))))
  .nil) .nil)
  (.cons (.ifS (.cmp (.cmp .Lt (.var 5) (.cint 5))) (.cons (.ret (.tup (.cons (.idx (.var 4) (.cint 0)) (.cons (.bin .Add (.idx (.var 4) (.cint 1)) (.tup (.cons (.bin .Sub (.var 5) (.cint 3)) .nil))) .nil))))
  .nil) .nil)
  (.cons (.ifS (.cmp (.cmp .Lt (.var 5) (.cint 7))) (.cons (.ret (.tup (.cons (.idx (.var 4) (.cint 0)) (.cons (.slc (.idx (.var 4) (.cint 1)) .none (.some (.neg (.cint 1)))) .nil))))
  .nil) .nil)
  (.cons (.ret (.call ("_law_leaf" : Str) (.cons (.var 0) (.cons (.bin .Add (.var 1) (.cint 1)) (.cons (.var 2) .nil)))))
  .nil)))) .nil)
  (.cons (.set 6 (.blt .list (.cons (.idx (.var 4) (.cint 2)) .nil)))
  (.cons (.set 7 (.call ("_law_pick" : Str) (.cons (.var 0) (.cons (.bin .Add (.var 1) (.cint 2)) (.cons (.blt .len (.cons (.var 6) .nil)) .nil)))))
  (.cons (.ifS (.cmp (.cmp .Lt (.var 5) (.cint 4))) (.cons (.setIx (.var 6) (.var 7) (.tup (.cons (.idx (.idx (.var 6) (.var 7)) (.cint 0)) (.cons (.call ("_law_bent" : Str) (.cons (.var 0) (.cons (.bin .Add (.var 1) (.cint 5)) (.cons (.var 2) (.cons (.var 3) (.cons (.idx (.idx (.var 6) (.var 7)) (.cint 1)) .nil)))))) .nil))))
  .nil) .nil)
  (.cons (.ifS (.cmp (.cmp .Eq (.var 5) (.cint 4))) (.cons (.expr (.mth .pop1 (.var 6) (.cons (.var 7) .nil)))
  .nil) .nil)
  (.cons (.ifS (.cmp (.cmp .Eq (.var 5) (.cint 5))) (.cons (.expr (.mth .insert (.var 6) (.cons (.var 7) (.cons (.idx (.var 6) (.call ("_law_pick" : Str) (.cons (.var 0) (.cons (.bin .Add (.var 1) (.cint 3)) (.cons (.blt .len (.cons (.var 6) .nil)) .nil))))) .nil))))
  .nil) .nil)
  (.cons (.ifS (.cmp (.cmp .Eq (.var 5) (.cint 6))) (.cons (.set 8 (.slc (.var 6) (.some (.var 7)) (.some (.bin .Add (.var 7) (.cint 2)))))
  (.cons (.expr (.clr .reverse (.var 8)))
  (.cons (.set 6 (.bin .Add (.bin .Add (.slc (.var 6) .none (.some (.var 7))) (.var 8)) (.slc (.var 6) (.some (.bin .Add (.var 7) (.cint 2))) .none)))
  .nil))) .nil)
  (.cons (.ifS (.cmp (.cmp .Eq (.var 5) (.cint 7))) (.cons (.ret (.tup (.cons (.cstr ("split" : Str)) (.cons (.idx (.var 3) (.call ("_law_pick" : Str) (.cons (.var 0) (.cons (.bin .Add (.var 1) (.cint 3)) (.cons (.blt .len (.cons (.var 3) .nil)) .nil))))) (.cons (.idx (.var 4) (.cint 2)) .nil)))))
  .nil) .nil)
  (.cons (.ifS (.cmp (.cmp .Eq (.var 5) (.cint 8))) (.cons (.ret (.call ("_law_leaf" : Str) (.cons (.var 0) (.cons (.bin .Add (.var 1) (.cint 3)) (.cons (.var 2) .nil)))))
  .nil) .nil)
  (.cons (.ifS (.cmp (.cmp .Eq (.var 5) (.cint 9))) (.cons (.setIx (.var 6) (.var 7) (.tup (.cons (.idx (.idx (.var 6) (.var 7)) (.cint 0)) (.cons (.var 4) .nil))))
  .nil) .nil)
  (.cons (.ret (.tup (.cons (.cstr ("split" : Str)) (.cons (.idx (.var 4) (.cint 1)) (.cons (.blt .tuple (.cons (.var 6) .nil)) .nil)))))
  .nil))))))))))))
noncomputable def b_law:ISs :=
 (.cons (.set 1 (.call ("_law_pool" : Str) (.cons (.var 0) (.cons (.cint 0) .nil))))
  (.cons (.set 2 (.bin .Add (.cint 1) (.call ("_law_pick" : Str) (.cons (.var 0) (.cons (.cint 26) (.cons (.cint 5) .nil))))))
  (.cons (.set 3 (.call ("_law_tree" : Str) (.cons (.var 0) (.cons (.cint 28) (.cons (.var 2) (.cons (.var 1) .nil))))))
  (.cons (.set 4 (.call ("_law_places" : Str) (.cons (.var 3) (.cons (.tup .nil) .nil))))
  (.cons (.set 5 (.idx (.var 4) (.call ("_law_pick" : Str) (.cons (.var 0) (.cons (.cint 27) (.cons (.blt .len (.cons (.var 4) .nil)) .nil))))))
  (.cons (.set 6 (.call ("_law_splits" : Str) (.cons (.var 3) .nil)))
  (.cons (.set 7 (.lsk (.var 6)))
  (.cons (.ifS (.cmp (.cmp .Eq (.call ("_law_pick" : Str) (.cons (.var 0) (.cons (.cint 142) (.cons (.cint 2) .nil)))) (.cint 0))) (.cons (.expr (.clr .reverse (.var 7)))
  .nil) .nil)
  (.cons (.set 8 (.call ("_law_case" : Str) (.cons (.var 0) (.cons (.var 3) (.cons (.var 5) (.cons (.var 6) (.cons (.var 7) (.cons .dic0 .nil))))))))
  (.cons (.set 9 (.lst (.cons (.var 8) (.cons (.call ("_law_bent" : Str) (.cons (.var 0) (.cons (.cint 143) (.cons (.var 5) (.cons (.bin .Add (.idx (.var 1) (.cint 0)) (.slc (.idx (.var 1) (.cint 2)) (.some (.neg (.cint 1))) .none)) (.cons (.var 8) .nil)))))) (.cons (.var 8) .nil)))))
  (.cons (.forS 10 (.seq (.slc (.var 9) .none (.some (.bin .Add (.cint 1) (.bin .Mult (.cint 2) (.intB (.cmp .Gt (.call ("_law_pick" : Str) (.cons (.var 0) (.cons (.cint 144) (.cons (.cint 3) .nil)))) (.cint 0)))))))) (.cons (.set 11 (.call ("bears" : Str) (.cons (.var 3) (.cons (.var 5) (.cons (.var 10) .nil)))))
  (.cons (.ifS (.or (.not (.tru (.isI (.var 11) .bool))) (.cmp (.cmp .NotEq (.var 11) (.call ("_law_bears" : Str) (.cons (.var 3) (.cons (.var 5) (.cons (.var 6) (.cons (.var 10) (.cons .dic0 .nil))))))))) (.cons (.ret (.cbl false))
  .nil) .nil)
  .nil)))
  (.cons (.ret (.cbl true))
  .nil))))))))))))
noncomputable def tab:List (Str×Fd):=[(("has_name" : Str),⟨2,2,b_has_name⟩),(("value_in" : Str),⟨3,2,b_value_in⟩),(("meets" : Str),⟨5,2,b_meets⟩),(("meets_all" : Str),⟨2,2,b_meets_all⟩),(("names_in" : Str),⟨1,1,b_names_in⟩),(("values_beside" : Str),⟨4,2,b_values_beside⟩),(("places_from" : Str),⟨5,2,b_places_from⟩),(("places" : Str),⟨1,1,b_places⟩),(("row_at" : Str),⟨4,2,b_row_at⟩),(("askings_at" : Str),⟨4,2,b_askings_at⟩),(("askings_below" : Str),⟨1,1,b_askings_below⟩),(("values_with" : Str),⟨2,2,b_values_with⟩),(("names_asked" : Str),⟨1,1,b_names_asked⟩),(("values_to_split" : Str),⟨2,2,b_values_to_split⟩),(("marks_split" : Str),⟨1,1,b_marks_split⟩),(("lies_above" : Str),⟨2,2,b_lies_above⟩),(("takes_away" : Str),⟨4,3,b_takes_away⟩),(("fails" : Str),⟨5,4,b_fails⟩),(("is_caught" : Str),⟨5,4,b_is_caught⟩),(("bears_for" : Str),⟨4,4,b_bears_for⟩),(("bears_split" : Str),⟨5,4,b_bears_split⟩),(("bears" : Str),⟨3,3,b_bears⟩),(("_law_mixed" : Str),⟨3,2,b__law_mixed⟩),(("_law_pick" : Str),⟨3,3,b__law_pick⟩),(("_law_words" : Str),⟨11,4,b__law_words⟩),(("_law_pool" : Str),⟨6,2,b__law_pool⟩),(("_law_asking" : Str),⟨7,3,b__law_asking⟩),(("_law_askings" : Str),⟨4,4,b__law_askings⟩),(("_law_nodes" : Str),⟨13,4,b__law_nodes⟩),(("_law_row" : Str),⟨3,2,b__law_row⟩),(("_law_tree" : Str),⟨5,4,b__law_tree⟩),(("_law_met" : Str),⟨2,2,b__law_met⟩),(("_law_places" : Str),⟨4,2,b__law_places⟩),(("_law_at" : Str),⟨3,2,b__law_at⟩),(("_law_splits" : Str),⟨6,1,b__law_splits⟩),(("_law_lower" : Str),⟨4,3,b__law_lower⟩),(("_law_upper" : Str),⟨4,3,b__law_upper⟩),(("_law_in_the_way" : Str),⟨5,2,b__law_in_the_way⟩),(("_law_bears" : Str),⟨8,5,b__law_bears⟩),(("_law_end" : Str),⟨6,4,b__law_end⟩),(("_law_case" : Str),⟨10,6,b__law_case⟩),(("_law_leaf" : Str),⟨5,3,b__law_leaf⟩),(("_law_bent" : Str),⟨9,5,b__law_bent⟩),(("law" : Str),⟨12,1,b_law⟩)]
section
variable {srt:List D->Option (List D)}
noncomputable abbrev cx (srt:List D->Option (List D)) (k:Nat):L3.Ctx:=CtxN tab gl srt 1000 k
theorem f_has_name (k:Nat)(xs:List D):(cx srt (k + 1)).fn "has_name" xs=(do need (xs.length=2);semF (cx srt k) 2 b_has_name xs:Mo D):=rfl
theorem f_value_in (k:Nat)(xs:List D):(cx srt (k + 1)).fn "value_in" xs=(do need (xs.length=2);semF (cx srt k) 3 b_value_in xs:Mo D):=rfl
theorem f_meets (k:Nat)(xs:List D):(cx srt (k + 1)).fn "meets" xs=(do need (xs.length=2);semF (cx srt k) 5 b_meets xs:Mo D):=rfl
theorem f_meets_all (k:Nat)(xs:List D):(cx srt (k + 1)).fn "meets_all" xs=(do need (xs.length=2);semF (cx srt k) 2 b_meets_all xs:Mo D):=rfl
theorem f_names_in (k:Nat)(xs:List D):(cx srt (k + 1)).fn "names_in" xs=(do need (xs.length=1);semF (cx srt k) 1 b_names_in xs:Mo D):=rfl
theorem f_values_beside (k:Nat)(xs:List D):(cx srt (k + 1)).fn "values_beside" xs=(do need (xs.length=2);semF (cx srt k) 4 b_values_beside xs:Mo D):=rfl
theorem f_places_from (k:Nat)(xs:List D):(cx srt (k + 1)).fn "places_from" xs=(do need (xs.length=2);semF (cx srt k) 5 b_places_from xs:Mo D):=rfl
theorem f_places (k:Nat)(xs:List D):(cx srt (k + 1)).fn "places" xs=(do need (xs.length=1);semF (cx srt k) 1 b_places xs:Mo D):=rfl
theorem f_row_at (k:Nat)(xs:List D):(cx srt (k + 1)).fn "row_at" xs=(do need (xs.length=2);semF (cx srt k) 4 b_row_at xs:Mo D):=rfl
theorem f_askings_at (k:Nat)(xs:List D):(cx srt (k + 1)).fn "askings_at" xs=(do need (xs.length=2);semF (cx srt k) 4 b_askings_at xs:Mo D):=rfl
theorem f_askings_below (k:Nat)(xs:List D):(cx srt (k + 1)).fn "askings_below" xs=(do need (xs.length=1);semF (cx srt k) 1 b_askings_below xs:Mo D):=rfl
theorem f_values_with (k:Nat)(xs:List D):(cx srt (k + 1)).fn "values_with" xs=(do need (xs.length=2);semF (cx srt k) 2 b_values_with xs:Mo D):=rfl
theorem f_names_asked (k:Nat)(xs:List D):(cx srt (k + 1)).fn "names_asked" xs=(do need (xs.length=1);semF (cx srt k) 1 b_names_asked xs:Mo D):=rfl
theorem f_values_to_split (k:Nat)(xs:List D):(cx srt (k + 1)).fn "values_to_split" xs=(do need (xs.length=2);semF (cx srt k) 2 b_values_to_split xs:Mo D):=rfl
theorem f_marks_split (k:Nat)(xs:List D):(cx srt (k + 1)).fn "marks_split" xs=(do need (xs.length=1);semF (cx srt k) 1 b_marks_split xs:Mo D):=rfl
theorem f_lies_above (k:Nat)(xs:List D):(cx srt (k + 1)).fn "lies_above" xs=(do need (xs.length=2);semF (cx srt k) 2 b_lies_above xs:Mo D):=rfl
theorem f_takes_away (k:Nat)(xs:List D):(cx srt (k + 1)).fn "takes_away" xs=(do need (xs.length=3);semF (cx srt k) 4 b_takes_away xs:Mo D):=rfl
theorem f_fails (k:Nat)(xs:List D):(cx srt (k + 1)).fn "fails" xs=(do need (xs.length=4);semF (cx srt k) 5 b_fails xs:Mo D):=rfl
theorem f_is_caught (k:Nat)(xs:List D):(cx srt (k + 1)).fn "is_caught" xs=(do need (xs.length=4);semF (cx srt k) 5 b_is_caught xs:Mo D):=rfl
theorem f_bears_for (k:Nat)(xs:List D):(cx srt (k + 1)).fn "bears_for" xs=(do need (xs.length=4);semF (cx srt k) 4 b_bears_for xs:Mo D):=rfl
theorem f_bears_split (k:Nat)(xs:List D):(cx srt (k + 1)).fn "bears_split" xs=(do need (xs.length=4);semF (cx srt k) 5 b_bears_split xs:Mo D):=rfl
theorem f_bears (k:Nat)(xs:List D):(cx srt (k + 1)).fn "bears" xs=(do need (xs.length=3);semF (cx srt k) 3 b_bears xs:Mo D):=rfl
theorem f__law_mixed (k:Nat)(xs:List D):(cx srt (k + 1)).fn "_law_mixed" xs=(do need (xs.length=2);semF (cx srt k) 3 b__law_mixed xs:Mo D):=rfl
theorem f__law_pick (k:Nat)(xs:List D):(cx srt (k + 1)).fn "_law_pick" xs=(do need (xs.length=3);semF (cx srt k) 3 b__law_pick xs:Mo D):=rfl
theorem f__law_words (k:Nat)(xs:List D):(cx srt (k + 1)).fn "_law_words" xs=(do need (xs.length=4);semF (cx srt k) 11 b__law_words xs:Mo D):=rfl
theorem f__law_pool (k:Nat)(xs:List D):(cx srt (k + 1)).fn "_law_pool" xs=(do need (xs.length=2);semF (cx srt k) 6 b__law_pool xs:Mo D):=rfl
theorem f__law_asking (k:Nat)(xs:List D):(cx srt (k + 1)).fn "_law_asking" xs=(do need (xs.length=3);semF (cx srt k) 7 b__law_asking xs:Mo D):=rfl
theorem f__law_askings (k:Nat)(xs:List D):(cx srt (k + 1)).fn "_law_askings" xs=(do need (xs.length=4);semF (cx srt k) 4 b__law_askings xs:Mo D):=rfl
theorem f__law_nodes (k:Nat)(xs:List D):(cx srt (k + 1)).fn "_law_nodes" xs=(do need (xs.length=4);semF (cx srt k) 13 b__law_nodes xs:Mo D):=rfl
theorem f__law_row (k:Nat)(xs:List D):(cx srt (k + 1)).fn "_law_row" xs=(do need (xs.length=2);semF (cx srt k) 3 b__law_row xs:Mo D):=rfl
theorem f__law_tree (k:Nat)(xs:List D):(cx srt (k + 1)).fn "_law_tree" xs=(do need (xs.length=4);semF (cx srt k) 5 b__law_tree xs:Mo D):=rfl
theorem f__law_met (k:Nat)(xs:List D):(cx srt (k + 1)).fn "_law_met" xs=(do need (xs.length=2);semF (cx srt k) 2 b__law_met xs:Mo D):=rfl
theorem f__law_places (k:Nat)(xs:List D):(cx srt (k + 1)).fn "_law_places" xs=(do need (xs.length=2);semF (cx srt k) 4 b__law_places xs:Mo D):=rfl
theorem f__law_at (k:Nat)(xs:List D):(cx srt (k + 1)).fn "_law_at" xs=(do need (xs.length=2);semF (cx srt k) 3 b__law_at xs:Mo D):=rfl
theorem f__law_splits (k:Nat)(xs:List D):(cx srt (k + 1)).fn "_law_splits" xs=(do need (xs.length=1);semF (cx srt k) 6 b__law_splits xs:Mo D):=rfl
theorem f__law_lower (k:Nat)(xs:List D):(cx srt (k + 1)).fn "_law_lower" xs=(do need (xs.length=3);semF (cx srt k) 4 b__law_lower xs:Mo D):=rfl
theorem f__law_upper (k:Nat)(xs:List D):(cx srt (k + 1)).fn "_law_upper" xs=(do need (xs.length=3);semF (cx srt k) 4 b__law_upper xs:Mo D):=rfl
theorem f__law_in_the_way (k:Nat)(xs:List D):(cx srt (k + 1)).fn "_law_in_the_way" xs=(do need (xs.length=2);semF (cx srt k) 5 b__law_in_the_way xs:Mo D):=rfl
theorem f__law_bears (k:Nat)(xs:List D):(cx srt (k + 1)).fn "_law_bears" xs=(do need (xs.length=5);semF (cx srt k) 8 b__law_bears xs:Mo D):=rfl
theorem f__law_end (k:Nat)(xs:List D):(cx srt (k + 1)).fn "_law_end" xs=(do need (xs.length=4);semF (cx srt k) 6 b__law_end xs:Mo D):=rfl
theorem f__law_case (k:Nat)(xs:List D):(cx srt (k + 1)).fn "_law_case" xs=(do need (xs.length=6);semF (cx srt k) 10 b__law_case xs:Mo D):=rfl
theorem f__law_leaf (k:Nat)(xs:List D):(cx srt (k + 1)).fn "_law_leaf" xs=(do need (xs.length=3);semF (cx srt k) 5 b__law_leaf xs:Mo D):=rfl
theorem f__law_bent (k:Nat)(xs:List D):(cx srt (k + 1)).fn "_law_bent" xs=(do need (xs.length=5);semF (cx srt k) 9 b__law_bent xs:Mo D):=rfl
theorem f_law (k:Nat)(xs:List D):(cx srt (k + 1)).fn "law" xs=(do need (xs.length=1);semF (cx srt k) 12 b_law xs:Mo D):=rfl
end
end Law
namespace Law
open PySem L3
section
variable {srt:List D->Option (List D)}
noncomputable def mixV (sc:List Int)(i:Int):Int:=i * i * 7919 + 11 + (if sc.length > 0 then sc.getD (i % (sc.length:Int)).toNat 0 else 0)
noncomputable def pickV (sc:List Int)(i m:Int):Int:=mixV sc i * 48271 % 2147483647 % m
theorem pick_lo (sc:List Int)(i:Int){m:Int}(h:0 < m):0<=pickV sc i m:=vv _ (by walk_at "o")
theorem pick_hi (sc:List Int)(i:Int){m:Int}(h:0 < m):pickV sc i m < m:=wB _ h
theorem pick_nat (sc:List Int)(i:Int){m:Nat}(h:0 < m):∃ n:Nat,pickV sc i m=n/\n < m:=by
 obtain⟨n,hn⟩:=yD (pick_lo sc i (m:=(m:Int)) (by walk_at "o"))
 have:=pick_hi sc i (m:=(m:Int)) (by walk_at "o")
 exact⟨n,hn,by walk_at "o"⟩
theorem mixed_w (k:Nat)(sc:List Int)(i:Int)(M:MH){Q:D->MH->Prop}(h0:0<=i)(h1:i<=100000)(q:Q (.int (mixV sc i)) M):W ((cx srt (k + 1)).fn "_law_mixed" [.fl (sc.map .int),.int i]) M Q:=by
 rw[f__law_mixed,wf,b__law_mixed];walk_at "wq";refine⟨.inl ⟨by walk_at "o",by walk_at "o"⟩,.inr ⟨by walk_at "o",by walk_at "o"⟩,fun h=>?_,fun h=>?_⟩
 ·rw[decide_eq_true_eq,zz]at h
  have hp:(0:Int) < (sc.length:Int):=by walk_at "o"
  obtain⟨n,hn⟩:∃ n:Nat,i % (sc.length:Int)=n:=yD (vv _ (by walk_at "o"));have hlt:n < sc.length:=by
   have:=wB i hp
   walk_at "o"
  refine⟨by rw[zz];walk_at "o",.int sc[n],?_,?_⟩
  ·rw[zz,hn]
   exact atD_nat (by rw[zv,zx hlt];rfl)
  ·walk_at "wq"
   have e:mixV sc i=i * i * 7919 + 11 + sc[n]:=by
    unfold mixV;rw[if_pos (by walk_at "o"),hn,zE,zg,zx hlt];rfl
   rw[e]at q;exact q
 ·rw[decide_eq_false_iff_not,zz]at h
  have e:mixV sc i=i * i * 7919 + 11:=by
   unfold mixV;rw[if_neg (by walk_at "o")];walk_at "o"
  rw[e]at q;exact q
theorem pick_w (k:Nat)(sc:List Int)(i m:Int)(M:MH){Q:D->MH->Prop}(h0:0<=i)(h1:i<=100000)(hm:0 < m)(q:Q (.int (pickV sc i m)) M):W ((cx srt (k + 2)).fn "_law_pick" [.fl (sc.map .int),.int i,.int m]) M Q:=by
 rw[f__law_pick,wf,b__law_pick];walk_at "wq";refine mixed_w k sc i M h0 h1 ?_;walk_at "wq";exact⟨.inr ⟨by walk_at "o",by walk_at "o"⟩,by walk_at "o",hm,q⟩
structure Words (m:Nat) (ws:List Str):Prop where
 len:ws.length=m
 nd:ws.Nodup
 sz:∀ w∈ws,1<=w.length/\w.length<=8
noncomputable def mkS (l:List Nat):Str:=⟨l.toArray⟩
theorem mkS_inj {a b:List Nat}(h:mkS a=mkS b):a=b:=by
 unfold mkS at h;simpa using congrArg (fun s:Str=>s.cps.toList) h
theorem mkS_len (a:List Nat):(mkS a).length=a.length:=by simp[mkS,Str.length]
theorem mkS_to (a:List Nat):(mkS a).cps.toList=a:=by simp[mkS]
theorem join_signs (l:List Nat):joinS "" (l.map fun c=>mkS [c])=mkS l:=by
 unfold joinS mkS;congr 2;have e:(("" : Str)).cps.toList=[]:=rfl;rw[e,yw];induction l with
 | nil=>rfl
 | cons a r ih =>
  cases r with
  | nil=>rfl
  | cons b r=>
   show [a]++[]++glue [] _=_;rw[zO];exact congrArg (a::·) ih
theorem sum_ones (l:List Nat):((l.map fun c=>mkS [c]).map (·.length)).sum=l.length:=by
 induction l with
 | nil=>rfl
 | cons a r ih =>
  simp only[zD,yY,zA];rw[ih,mkS_len];simp;walk_at "o"
theorem words_w (k:Nat)(sc:List Int)(i:Int)(sg:Str)(m:Nat)(M:MH){Q:D->MH->Prop}(h0:0<=i)(h1:i<=90000)(hm:m<=8)(hsg:sg.cps.toList.Nodup)(hl:m<=sg.length)(hl0:0 < sg.length)(hl1:sg.length<=1000)
  (q:∀ (ws:List Str) (j:Nat) (M':MH),Words m ws->Gr M M'->M.length<=j->M'[j]?=some (.lst (ws.map .str))->Q (.ob j) M'):W ((cx srt (k + 3)).fn "_law_words" [.fl (sc.map .int),.int i,.str sg,.int m]) M Q:=by
 have big:=line_big;have small8:small 8:=⟨by walk_at "o",by walk_at "o"⟩;have smallm:small (m:Int):=⟨by walk_at "o",by walk_at "o"⟩;rw[f__law_words,wf,b__law_words];walk_at "wq";refine⟨small8,by rw[rng_len];walk_at "o",?_⟩;refine w_compI (fun n ys M'=>M'=M/\∃ l:List Nat,l.length=n/\ys=l.map fun c=>.str (mkS [c])) ⟨rfl,[],rfl,rfl⟩ (fun _ _ _ _=>trivial) ?_ ?_
 ·rintro n d ys M' hd ⟨rfl,l,hl',rfl⟩
  obtain⟨rfl,hn⟩:=rng_get hd;walk_at "wq";refine⟨by walk_at "o",pick_w (k:=k) sc _ _ M' (by walk_at "o") (by walk_at "o") (by walk_at "o") ?_⟩;walk_at "wq";have a1:=pick_lo sc (i + (0 + (n:Int))) (show (0:Int) < (sg.length:Int) by walk_at "o");have a2:=pick_hi sc (i + (0 + (n:Int))) (show (0:Int) < (sg.length:Int) by walk_at "o");obtain⟨c,hc,_⟩:=atD_in (xs:=sg.cps.toList) a1 (by rw[len_toList];exact a2);refine⟨by walk_at "o",c,hc,l++[c],?_,?_⟩
  ·rw[zt,hl'];rfl
  ·rw[zm];rfl
 rintro ys M' ⟨rfl,l,hlen,rfl⟩;rw[rng_len]at hlen;have hlen:l.length=8:=by rw[hlen];rfl
 walk_at "wq";refine⟨_,get_new _ _,l.map (fun c=>mkS [c]),?_,?_,?_⟩
 ·rw[<- mapM_strs,yw];rfl
 ·rw[sum_ones,zz,hlen]
  show 8 + 8 * 0<=_;walk_at "o"
 rw[join_signs];have hw:(mkS l).length=8:=by rw[mkS_len,hlen]
 generalize hM1:M'++[MO.lst (l.map fun c=>D.str (mkS [c]))]=M1;have g1:Gr M' M1:=hM1 ▸ Gr.app _ _;clear hM1;refine pick_w (k:=k) sc _ _ M1 (by walk_at "o") (by walk_at "o") (by walk_at "o") ?_;walk_at "wq";refine⟨fun _=>⟨smallm,by rw[rng_len];walk_at "o",?_⟩,fun _=>?_⟩
 ·refine w_compI (fun n ys M'=>M'=M1/\ys=((List.range n).map fun j=>D.str (mkS (l.take (j + 1))))) ⟨rfl,rfl⟩ (fun _ _ _ _=>trivial) ?_ ?_
  ·rintro n d ys M2 hd ⟨rfl,rfl⟩
   obtain⟨rfl,hn⟩:=rng_get hd;walk_at "wq";refine⟨by walk_at "o",?_⟩;rw[cut_hi _ (by walk_at "o"),mkS_to,yF,zm]
   have:((0:Int) + (n:Int) + 1).toNat=n + 1:=by walk_at "o"
   rw[this];rfl
  ·rintro ys M2 ⟨rfl,rfl⟩
   rw[rng_len];walk_at "wq";have e:((m:Int) - 0).toNat=m:=by walk_at "o"
   rw[e];refine q ((List.range m).map fun j=>mkS (l.take (j + 1))) _ _ ⟨by rw[zz,zR],?_,?_⟩ (g1.snoc _) g1.len ?_
   ·refine nodup_map_range fun a b ha hb he=>?_
    have:=congrArg List.length (mkS_inj he)
    rw[ze,ze]at this;walk_at "o"
   ·intro w hw'
    obtain⟨j,hj,rfl⟩:=zU.mp hw'
    have:=yx.mp hj
    rw[mkS_len,ze];walk_at "o"
   ·rw[get_new,yw];rfl
 ·refine pick_w (k:=k) sc _ _ M1 (by walk_at "o") (by walk_at "o") (by walk_at "o") ?_
  walk_at "wq";have a1:=pick_lo sc (i + 9) (show (0:Int) < 8 by walk_at "o");have a2:=pick_hi sc (i + 9) (show (0:Int) < 8 by walk_at "o");obtain⟨at_,hat⟩:∃ n:Nat,pickV sc (i + 9) 8=n:=yD a1;rw[hat];have hat8:at_ < 8:=by walk_at "o"
  refine⟨by walk_at "o",pick_w (k:=k) sc _ _ M1 (by walk_at "o") (by walk_at "o") (by walk_at "o") ?_⟩;walk_at "wq";have f1:=pick_lo sc (i + 10) (show (0:Int) < (sg.length:Int) by walk_at "o");have f2:=pick_hi sc (i + 10) (show (0:Int) < (sg.length:Int) by walk_at "o");obtain⟨fst,hfst⟩:∃ n:Nat,pickV sc (i + 10) sg.length=n:=yD f1;rw[hfst];rw[hfst]at f2;refine⟨by walk_at "o",smallm,?_⟩;have sgl:∀ n:Nat,(fst + n) % sg.length < sg.cps.toList.length:=fun n=>by rw[len_toList];exact vm _ hl0
  have w8:l.take at_++[sg.cps.toList.getD ((fst + 0) % sg.length) 0]++l.drop (at_ + 1)≠[]:=by simp
  refine w_loop (fun n ρ M'=>Gr M1 M'/\M'[M1.length]?=some (.lst ((List.range n).map fun j=>D.str (mkS (l.take at_++[sg.cps.toList.getD ((fst + j) % sg.length) 0]++l.drop (at_ + 1)))))/\∃ x9 x10,ρ=[some (.fl (sc.map .int)),some (.int i),some (.str sg),some (.int m),some (.str (mkS l)),some (.int (pickV sc (i + 8) 3)),some (.int at_),some (.int fst),some (.ob M1.length),x9,x10]) ⟨Gr.app _ _,get_new _ _,none,none,rfl⟩ (fun _ _ _ _=>trivial) ?_ ?_
  ·rintro n d ρ M2 hd ⟨g2,hg,x9,x10,rfl⟩
   obtain⟨rfl,hn⟩:=rng_get hd;walk_at "wq";have em:((fst:Int) + (0 + (n:Int))) % (sg.length:Int)=(((fst + n) % sg.length:Nat):Int):=by
    rw[Int.natCast_emod];congr 1;walk_at "o"
   refine⟨by walk_at "o",by walk_at "o",by walk_at "o",sg.cps.toList[(fst + n) % sg.length]'(sgl n),?_,?_⟩
   ·rw[em]
    exact atD_nat (zx (sgl n))
   unfold sgn;walk_at "wq";rw[cut_hi _ (by walk_at "o"),cut_lo _ (by walk_at "o"),mkS_to,hg];have e1:(at_:Int).toNat=at_:=rfl;have e2:((at_:Int) + 1).toNat=at_ + 1:=by walk_at "o"
   rw[e1,e2];have hn':n < m:=by walk_at "o"
   refine⟨_,rfl,by walk_at "o",?_,by walk_at "o",?_,?_⟩
   ·show (mkS (l.take at_)).length + 1<=_
    rw[mkS_len,ze];walk_at "o"
   ·rw[len_app]
    show (mkS (l.take at_)).length + 1 + (mkS (l.drop (at_ + 1))).length<=_;rw[mkS_len,mkS_len,ze,zS];walk_at "o"
   refine⟨_,rfl,?_,g2.set (zr _) _,?_,⟨_,_,rfl⟩⟩
   ·rw[zz,zR];walk_at "o"
   ·rw[set_get hg,yF,zm,zD,wE]
    have e3:sg.cps.toList.getD ((fst + n) % sg.length) 0=sg.cps.toList[(fst + n) % sg.length]'(sgl n):=by
     rw[zg,zx (sgl n)];rfl
    rw[e3];have e4:mkS (l.take at_++[sg.cps.toList[(fst + n) % sg.length]'(sgl n)]++l.drop (at_ + 1))=(⟨(l.take at_).toArray⟩:Str)++(⟨#[sg.cps.toList[(fst + n) % sg.length]'(sgl n)]⟩:Str)++(⟨(l.drop (at_ + 1)).toArray⟩:Str):=by
     show _=(⟨((l.take at_).toArray++#[_])++(l.drop (at_ + 1)).toArray⟩:Str);unfold mkS;simp
    rw[e4]
  ·rintro ρ M2 ⟨g2,hg,x9,x10,rfl⟩
   rw[rng_len]at hg;have em:((m:Int) - 0).toNat=m:=by walk_at "o"
   rw[em]at hg;have inj:∀ a b,a < m->b < m->sg.cps.toList.getD ((fst + a) % sg.length) 0=sg.cps.toList.getD ((fst + b) % sg.length) 0->a=b:=fun a b ha hb he=>by
    rw[zg,zg,zx (sgl a),zx (sgl b)]at he;have e6:(fst + a) % sg.length=(fst + b) % sg.length:=(wK hsg).mp he;by_cases c1:fst + a < sg.length <;> by_cases c2:fst + b < sg.length
    ·rw[yd c1,yd c2]at e6;walk_at "o"
    ·rw[yd c1,xy (by walk_at "o"),yd (by walk_at "o")]at e6;walk_at "o"
    ·rw[yd c2,xy (by walk_at "o"),yd (by walk_at "o")]at e6;walk_at "o"
    ·rw[xy (by walk_at "o"),yd (a:=fst + a - sg.length) (by walk_at "o"),xy (a:=fst + b) (by walk_at "o"),yd (by walk_at "o")]at e6;walk_at "o"
   have inj2:∀ (r:List Nat) (a b:Nat),a < m->b < m->l.take at_++[sg.cps.toList.getD ((fst + a) % sg.length) 0]++r=l.take at_++[sg.cps.toList.getD ((fst + b) % sg.length) 0]++r->a=b:=fun r a b ha hb he=>by
    rw[List.append_cancel_right_eq,List.append_cancel_left_eq]at he;exact inj a b ha hb (List.cons.inj he).1
   walk_at "wq";refine⟨fun _=>?_,fun _=>?_⟩
   ·refine q ((List.range m).map fun j=>mkS (l.take at_++[sg.cps.toList.getD ((fst + j) % sg.length) 0]++l.drop (at_ + 1))) _ _ ⟨by rw[zz,zR],?_,?_⟩ (g1.trans g2) g1.len ?_
    ·exact nodup_map_range fun a b ha hb he=>inj2 _ a b ha hb (mkS_inj he)
    ·intro w hw'
     obtain⟨j,hj,rfl⟩:=zU.mp hw';rw[mkS_len,zt,zt,ze,zS];simp;walk_at "o"
    ·rw[hg,yw];rfl
   ·refine⟨_,hg,by rw[zz,zR];walk_at "o",?_⟩
    refine w_compI (fun n ys M'=>M'=M2/\ys=((List.range n).map fun j=>D.str (mkS (l.take at_++[sg.cps.toList.getD ((fst + j) % sg.length) 0])))) ⟨rfl,rfl⟩ (fun _ _ _ h=>by rw[h.1];exact hg) ?_ ?_
    ·rintro n d ys M3 hd ⟨rfl,rfl⟩
     rw[zv]at hd;obtain⟨j,hj,rfl⟩:=zu.mp hd;have hjn:j=n/\n < m:=by
      obtain⟨z1,z2⟩:=zp.mp hj;rw[zR]at z1;rw[xD]at z2;exact⟨z2.symm,z1⟩
     obtain⟨rfl,hjm⟩:=hjn;walk_at "wq";refine⟨?_,?_⟩
     ·rw[mkS_len,zt,zt,ze,zS]
      simp;walk_at "o"
     ·rw[cut_hi _ (by walk_at "o"),mkS_to,yF,zm]
      have e2:((at_:Int) + 1).toNat=at_ + 1:=by walk_at "o"
      have e3:(l.take at_++[sg.cps.toList.getD ((fst + j) % sg.length) 0]++l.drop (at_ + 1)).take (at_ + 1)=l.take at_++[sg.cps.toList.getD ((fst + j) % sg.length) 0]:=by
       rw[List.take_left' (by rw[zt,ze];simp;walk_at "o")]
      rw[e2,e3];rfl
    ·rintro ys M3 ⟨rfl,rfl⟩
     rw[zz,zR];walk_at "wq";refine q ((List.range m).map fun j=>mkS (l.take at_++[sg.cps.toList.getD ((fst + j) % sg.length) 0])) _ _ ⟨by rw[zz,zR],?_,?_⟩ ((g1.trans g2).snoc _) (zK g1.len g2.len) ?_
     ·refine nodup_map_range fun a b ha hb he=>inj2 [] a b ha hb ?_
      rw[mkS_inj he]
     ·intro w hw'
      obtain⟨j,hj,rfl⟩:=zU.mp hw';rw[mkS_len,zt,ze];simp;walk_at "o"
     ·rw[get_new,yw];rfl
end
theorem alpha_nd:(("abcdefghijklmnopqrstuvwxyz" : Str)).cps.toList.Nodup:=by decide +kernel
theorem alpha_len:(("abcdefghijklmnopqrstuvwxyz" : Str)).length=26:=by decide +kernel
end Law
namespace Law
open PySem L3
section
variable {srt:List D->Option (List D)}
theorem alnum_nd:(("abcdefghijklmnopqrstuvwxyz0123456789" : Str)).cps.toList.Nodup:=by decide +kernel
theorem alnum_len:(("abcdefghijklmnopqrstuvwxyz0123456789" : Str)).length=36:=by decide +kernel
theorem tail_len:(("0z9a" : Str)).length=4:=by decide +kernel
theorem app_inj {a b t:Str}(h:a++t=b++t):a=b:=by
 have e:a.cps++t.cps=b.cps++t.cps:=congrArg (fun s:Str=>s.cps) h
 have:=Array.append_left_inj t.cps |>.mp e
 cases a;cases b;exact congrArg Str.mk this
structure Pool (M:MH) (d:D) (as vs ns:List Str) (ot:Str):Prop where
 is:∃ ia iv iN:Nat,d=.tup [.ob ia,.ob iv,.ob iN,.str ot]/\M[ia]?=some (.lst (as.map .str))/\M[iv]?=some (.lst (vs.map .str))/\M[iN]?=some (.lst (ns.map .str))
 pre:∃ n,as=ns.take n
 a1:1<=as.length
 a3:as.length<=3
 v1:1<=vs.length
 v3:vs.length<=3
 n6:ns.length=6
 nn:ns.Nodup
 vn:(vs++[ot]).Nodup
 nz:∀ x∈ns,1<=x.length/\x.length<=8
 vz:∀ x∈vs++[ot],1<=x.length/\x.length<=12
theorem Pool.keep {M M':MH}{d:D}{as vs ns:List Str}{ot:Str}(P:Pool M d as vs ns ot)(g:Gr M M'):Pool M' d as vs ns ot:=by
 obtain⟨ia,iv,iN,h1,h2,h3,h4⟩:=P.is;exact { P with is:=⟨ia,iv,iN,h1,g.keep _ _ h2,g.keep _ _ h3,g.keep _ _ h4⟩ }
theorem nine (n:Nat)(h:n < 9)(a b c d e f g i j:Int)(P:Int->Prop)(ha:P a)(hb:P b)(hc:P c)(hd:P d)(he:P e)(hf:P f)(hg:P g)(hi:P i)(hj:P j) :
  ∃ r:Int,P r/\atD [D.int a,.int b,.int c,.int d,.int e,.int f,.int g,.int i,.int j] (n:Int)=some (.int r):=by
 have h9:n=0\/n=1\/n=2\/n=3\/n=4\/n=5\/n=6\/n=7\/n=8:=by walk_at "o"
 rcases h9 with rfl | rfl | rfl | rfl | rfl | rfl | rfl | rfl | rfl
 ·exact⟨a,ha,rfl⟩
 ·exact⟨b,hb,rfl⟩
 ·exact⟨c,hc,rfl⟩
 ·exact⟨d,hd,rfl⟩
 ·exact⟨e,he,rfl⟩
 ·exact⟨f,hf,rfl⟩
 ·exact⟨g,hg,rfl⟩
 ·exact⟨i,hi,rfl⟩
 ·exact⟨j,hj,rfl⟩
theorem pool_w (k:Nat)(sc:List Int)(M:MH){Q:D->MH->Prop}(q:∀ (d:D) (as vs ns:List Str) (ot:Str) (M':MH),Pool M' d as vs ns ot->Gr M M'->Q d M'):W ((cx srt (k + 4)).fn "_law_pool" [.fl (sc.map .int),.int 0]) M Q:=by
 have big:=line_big;rw[f__law_pool,wf,b__law_pool];walk_at "wq";refine words_w k sc 0 _ 6 M (by walk_at "o") (by walk_at "o") (by walk_at "o") alpha_nd (by rw[alpha_len];walk_at "o") (by rw[alpha_len];walk_at "o") (by rw[alpha_len];walk_at "o") fun ns jn M1 hn g1 _ hjn=>?_;walk_at "wq";refine words_w k sc _ _ 4 M1 (by walk_at "o") (by walk_at "o") (by walk_at "o") alnum_nd (by rw[alnum_len];walk_at "o") (by rw[alnum_len];walk_at "o") (by rw[alnum_len];walk_at "o") fun vs jv M2 hv g2 _ hjv=>?_;walk_at "wq";refine pick_w (k:=k + 1) sc _ _ M2 (by walk_at "o") (by walk_at "o") (by walk_at "o") ?_;walk_at "wq";have tail:∀ (ws:List Str) (jw:Nat) (M3:MH),ws.length=4->ws.Nodup->(∀ x∈ws,1<=x.length/\x.length<=12)->Gr M2 M3->M3[jw]?=some (.lst (ws.map .str)) ->
   W (semSs (cx srt (k + 3)) (.cons (.set 4 (.call ("_law_pick" : Str) (.cons (.var 0) (.cons (.bin .Add (.var 1) (.cint 23)) (.cons (.cint 6) .nil)))))
  (.cons (.set 2 (.bin .Add (.slc (.var 2) (.some (.var 4)) .none) (.slc (.var 2) .none (.some (.var 4)))))
  (.cons (.set 5 (.slc (.var 2) .none (.some (.idx (.lst (.cons (.cint 1) (.cons (.cint 2) (.cons (.cint 1) (.cons (.cint 2) (.cons (.cint 1) (.cons (.cint 2) (.cons (.cint 2) (.cons (.cint 1) (.cons (.cint 3) .nil)))))))))) (.call ("_law_pick" : Str) (.cons (.var 0) (.cons (.bin .Add (.var 1) (.cint 24)) (.cons (.cint 9) .nil))))))))
  (.cons (.ret (.tup (.cons (.var 5) (.cons (.slc (.var 3) .none (.some (.idx (.lst (.cons (.cint 1) (.cons (.cint 2) (.cons (.cint 1) (.cons (.cint 2) (.cons (.cint 2) (.cons (.cint 1) (.cons (.cint 2) (.cons (.cint 1) (.cons (.cint 3) .nil)))))))))) (.call ("_law_pick" : Str) (.cons (.var 0) (.cons (.bin .Add (.var 1) (.cint 25)) (.cons (.cint 9) .nil))))))) (.cons (.var 2) (.cons (.idx (.var 3) (.cint 3)) .nil))))))
  .nil)))) [some (.fl (sc.map .int)),some (.int 0),some (.ob jn),some (.ob jw),none,none]) M3 (endF Q):=by
  intro ws jw M3 hl hnd hsz g3 hjw;walk_at "wq";refine pick_w (k:=k + 1) sc _ _ M3 (by walk_at "o") (by walk_at "o") (by walk_at "o") ?_;obtain⟨t,ht,ht6⟩:=pick_nat sc (0 + 23) (m:=6) (by walk_at "o");rw[show ((6:Nat):Int)=6 from rfl]at ht;rw[ht];walk_at "wq";have h1:M3[jn]?=some (.lst (ns.map .str)):=g3.keep _ _ (g2.keep _ _ hjn);refine⟨_,h1,_,(Gr.app _ _).keep _ _ h1,?_⟩;rw[cut_lo _ (by walk_at "o"),cut_hi _ (by walk_at "o")];have et:(t:Int).toNat=t:=rfl;rw[et];refine⟨_,(Gr.app _ _).keep _ _ (get_new _ _),_,get_new _ _,?_,by walk_at "o",?_⟩
  ·rw[zS,ze,zz,hn.len];walk_at "o"
  rw[<- yZ,<- zV,<- zm];have p1:(ns.drop t++ns.take t).Perm ns:=xX.trans (List.Perm.of_eq (yJ t ns));generalize ns.drop t++ns.take t=ns' at p1 ⊢;generalize hM4:M3++[MO.lst (List.map D.str (ns.drop t))]++[MO.lst (List.map D.str (ns.take t))]=M4;have g4:Gr M3 M4:=hM4 ▸ (Gr.app _ _).snoc _;clear hM4;refine pick_w (k:=k + 1) sc _ _ _ (by walk_at "o") (by walk_at "o") (by walk_at "o") ?_;obtain⟨a,ha,ha9⟩:=pick_nat sc (0 + 24) (m:=9) (by walk_at "o");rw[show ((9:Nat):Int)=9 from rfl]at ha;rw[ha];walk_at "wq";refine⟨_,get_new _ _,?_⟩;walk_at "wq";obtain⟨ra,⟨ra1,ra3⟩,hra⟩:=nine a ha9 1 2 1 2 1 2 2 1 3 (fun r=>1<=r/\r<=3) (by walk_at "o") (by walk_at "o") (by walk_at "o") (by walk_at "o") (by walk_at "o") (by walk_at "o") (by walk_at "o") (by walk_at "o") (by walk_at "o");refine⟨_,hra,?_⟩;walk_at "wq";refine⟨_,(Gr.app _ _).keep _ _ (get_new _ _),by walk_at "o",?_⟩;rw[cut_hi _ (by walk_at "o"),<- zV];have hN5:(M4++[MO.lst (List.map D.str ns')])[M4.length]?=some (.lst (ns'.map .str)):=get_new _ _;have g5:Gr M3 (M4++[MO.lst (List.map D.str ns')]):=g4.snoc _;generalize hM5:M4++[MO.lst (List.map D.str ns')]=M5 at hN5 g5 ⊢;generalize hiN:M4.length=iN at hN5 ⊢;have hA6:(M5++[MO.lst [D.int 1,D.int 2,D.int 1,D.int 2,D.int 1,D.int 2,D.int 2,D.int 1,D.int 3]]++[MO.lst (List.map D.str (ns'.take ra.toNat))])[(M5++[MO.lst [D.int 1,D.int 2,D.int 1,D.int 2,D.int 1,D.int 2,D.int 2,D.int 1,D.int 3]]).length]?=some (.lst ((ns'.take ra.toNat).map .str)):=get_new _ _;have g6:Gr M5 (M5++[MO.lst [D.int 1,D.int 2,D.int 1,D.int 2,D.int 1,D.int 2,D.int 2,D.int 1,D.int 3]]++[MO.lst (List.map D.str (ns'.take ra.toNat))]):=(Gr.app _ _).snoc _;generalize hM6:M5++[MO.lst [D.int 1,D.int 2,D.int 1,D.int 2,D.int 1,D.int 2,D.int 2,D.int 1,D.int 3]]++[MO.lst (List.map D.str (ns'.take ra.toNat))]=M6 at hA6 g6 ⊢;generalize hiA:(M5++[MO.lst [D.int 1,D.int 2,D.int 1,D.int 2,D.int 1,D.int 2,D.int 2,D.int 1,D.int 3]]).length=iA at hA6 ⊢;refine pick_w (k:=k + 1) sc _ _ _ (by walk_at "o") (by walk_at "o") (by walk_at "o") ?_;obtain⟨b,hb,hb9⟩:=pick_nat sc (0 + 25) (m:=9) (by walk_at "o");rw[show ((9:Nat):Int)=9 from rfl]at hb;rw[hb];walk_at "wq";refine⟨_,get_new _ _,?_⟩;walk_at "wq";obtain⟨rb,⟨rb1,rb3⟩,hrb⟩:=nine b hb9 1 2 1 2 2 1 2 1 3 (fun r=>1<=r/\r<=3) (by walk_at "o") (by walk_at "o") (by walk_at "o") (by walk_at "o") (by walk_at "o") (by walk_at "o") (by walk_at "o") (by walk_at "o") (by walk_at "o");refine⟨_,hrb,?_⟩;walk_at "wq";have hjw6:=g6.keep _ _ (g5.keep _ _ hjw);refine⟨_,(Gr.app _ _).keep _ _ hjw6,_,(Gr.app _ _).keep _ _ ((Gr.app _ _).keep _ _ hjw6),?_⟩;walk_at "wq";rw[cut_hi _ (by walk_at "o"),<- zV];refine⟨.str (ws[3]'(by walk_at "o")),?_,by walk_at "o",?_⟩
  ·refine atD_nat (j:=3) ?_
   rw[zv,zx (by walk_at "o")];rfl
  have hsub:(ws.take rb.toNat++[ws[3]'(by walk_at "o")]).Sublist ws:=by
   have e:=yJ rb.toNat ws;have h3:ws[3]'(by walk_at "o")∈ws.drop rb.toNat:=by
    rw[List.mem_drop_iff_getElem];exact⟨3 - rb.toNat,by walk_at "o",by congr 1;walk_at "o"⟩
   conv=>rhs;rw[<- e]
   exact(List.Sublist.refl _).append (List.singleton_sublist.mpr h3)
  refine q _ (ns'.take ra.toNat) (ws.take rb.toNat) ns' (ws[3]'(by walk_at "o")) _ ⟨⟨iA,_,iN,rfl,?_,get_new _ _,?_⟩,⟨_,rfl⟩,?_,?_,?_,?_,?_,?_,?_,?_,?_⟩ ((((((g1.trans g2).trans g3).trans g5).trans g6).snoc _).snoc _)
  ·exact(Gr.app _ _).keep _ _ ((Gr.app _ _).keep _ _ hA6)
  ·exact(Gr.app _ _).keep _ _ ((Gr.app _ _).keep _ _ (g6.keep _ _ hN5))
  ·rw[ze,p1.length_eq,hn.len];walk_at "o"
  ·rw[ze];walk_at "o"
  ·rw[ze];walk_at "o"
  ·rw[ze];walk_at "o"
  ·rw[p1.length_eq,hn.len]
  ·exact p1.nodup_iff.mpr hn.nd
  ·exact hnd.sublist hsub
  ·exact fun x hx=>hn.sz x (p1.mem_iff.mp hx)
  ·exact fun x hx=>hsz x (hsub.subset hx)
 refine⟨fun _=>⟨_,hjv,by rw[zz,hv.len];walk_at "o",?_⟩,fun _=>?_⟩
 ·refine w_compI (fun n ys M'=>M'=M2/\ys=((vs.take n).map fun x=>D.str (x++("0z9a" : Str)))) ⟨rfl,rfl⟩ (fun _ _ _ h=>by rw[h.1];exact hjv) ?_ ?_
  ·rintro n d ys M3 hd ⟨rfl,rfl⟩
   rw[zv]at hd;obtain⟨x,hx,rfl⟩:=zu.mp hd
   have:=hv.sz x (zw hx)
   walk_at "wq";refine⟨by rw[tail_len];walk_at "o",?_⟩;rw[zM,hx];simp
  ·rintro ys M3 ⟨rfl,rfl⟩
   rw[zz,zH];have t:=tail (vs.map fun x=>x++("0z9a" : Str)) M3.length (M3++[.lst (vs.map fun x=>D.str (x++("0z9a" : Str)))]) (by rw[zz,hv.len]) ?_ ?_ (Gr.app _ _) (by rw[get_new,yw];rfl)
   ·revert t
    walk_at "wq";exact id
   ·rw[List.Nodup,wG]
    exact hv.nd.imp fun h e=>h (app_inj e)
   ·intro x hx
    obtain⟨y,hy,rfl⟩:=zU.mp hx
    have:=hv.sz y hy
    rw[len_app,tail_len];walk_at "o"
 ·have t:=tail vs jv M2 hv.len hv.nd (fun x hx=>by have:=hv.sz x hx;walk_at "o") Gr.refl hjv
  revert t;walk_at "wq";exact id
end
end Law
namespace Law
open PySem L3
section
variable {srt:List D->Option (List D)}
structure Ask where
 w:Str
 n:Str
 vs:List Str
noncomputable def askD (a:Ask):D:=.tup [.str a.w,.str a.n,.tup (a.vs.map .str)]
end
end Law
namespace Law
open PySem L3
section
variable {srt:List D->Option (List D)}
noncomputable def wordsA:List Str:=["is","is","no","there","lacks"]
noncomputable def askV (sc:List Int)(i:Int)(as vs:List Str):Ask :=
 if wordsA.getD (pickV sc (i + 1) 5).toNat "" = "there"\/wordsA.getD (pickV sc (i + 1) 5).toNat "" = "lacks" then ⟨wordsA.getD (pickV sc (i + 1) 5).toNat "",as.getD (pickV sc i as.length).toNat "",[]⟩
 else ⟨wordsA.getD (pickV sc (i + 1) 5).toNat "",as.getD (pickV sc i as.length).toNat "",(vs.drop (pickV sc (i + 2) vs.length).toNat++vs.take (pickV sc (i + 2) vs.length).toNat).take (1 + pickV sc (i + 3) vs.length).toNat⟩
structure AskIn (a:Ask) (as vs:List Str):Prop where
 n:a.n∈as
 v:∀ v∈a.vs,v∈vs
 l:a.vs.length<=3
theorem str_at {xs:List Str}{n:Nat}(h:n < xs.length):atD (xs.map D.str) (n:Int)=some (.str (xs.getD n "")):=atD_nat (by rw[zv,zx h,zg,zx h];rfl)
theorem asking_w (k:Nat)(sc:List Int)(i:Int)(M:MH){d:D}{as vs ns:List Str}{ot:Str}(P:Pool M d as vs ns ot){Q:D->MH->Prop}(h0:0<=i)(h1:i<=90000)(q:∀ (M':MH),AskIn (askV sc i as vs) as vs->Gr M M'->Q (askD (askV sc i as vs)) M'):W ((cx srt (k + 3)).fn "_law_asking" [.fl (sc.map .int),.int i,d]) M Q:=by
 have big:=line_big;obtain⟨ia,iv,iN,rfl,h2,h3,h4⟩:=P.is
 have:=P.a1
 have:=P.v1
 have:=P.v3
 obtain⟨n,hn,hlt⟩:=pick_nat sc i (m:=as.length) (by walk_at "o");obtain⟨w,hw,hw5⟩:=pick_nat sc (i + 1) (m:=5) (by walk_at "o");rw[show ((5:Nat):Int)=5 from rfl]at hw;obtain⟨f,hf,hflt⟩:=pick_nat sc (i + 2) (m:=vs.length) (by walk_at "o");obtain⟨m,hm,hmlt⟩:=pick_nat sc (i + 3) (m:=vs.length) (by walk_at "o");unfold askV at q;rw[hn,hw,hf,hm,zE,zE,zE]at q;have hnm:as.getD n ""∈as:=by rw[zg,zx hlt];exact yG hlt
 have hwd:atD (wordsA.map D.str) (w:Int)=some (.str (wordsA.getD w "")):=str_at hw5;have hnm':atD (as.map D.str) (n:Int)=some (.str (as.getD n "")):=str_at hlt;generalize wordsA.getD w "" = r at q hwd;generalize as.getD n "" = nm at q hnm hnm';rw[f__law_asking,wf,b__law_asking];walk_at "wq";refine⟨_,h2,?_⟩;rw[k_lenl,zz];refine pick_w (k:=k) sc _ _ M (by walk_at "o") (by walk_at "o") (by walk_at "o") ?_;rw[hn];walk_at "wq";refine⟨_,h2,?_⟩;walk_at "wq";refine⟨_,hnm',by walk_at "o",pick_w (k:=k) sc _ _ _ (by walk_at "o") (by walk_at "o") (by walk_at "o") ?_⟩;walk_at "wq";refine⟨_,get_new _ _,?_⟩;rw[hw];walk_at "wq";refine⟨_,hwd,?_⟩;walk_at "wq";generalize hM1:M++[MO.lst [D.str "is",.str "is",.str "no",.str "there",.str "lacks"]]=M1;have g1:Gr M M1:=hM1 ▸ Gr.app _ _;clear hM1;have bare:(r = "there"\/r = "lacks")->Q (.tup [.str r,.str nm,.tup []]) M1:=fun h=>by
  have q:=q M1;rw[if_pos h]at q;exact q ⟨hnm,fun v h=>(by cases h),zI _⟩ g1
 refine⟨fun h=>⟨by walk_at "o",by walk_at "o",bare (.inl (beq_iff_eq.mp h))⟩,fun h5=>⟨fun h=>⟨by walk_at "o",by walk_at "o",bare (.inr (beq_iff_eq.mp h))⟩,fun h6=>?_⟩⟩;have hr':¬ (r = "there"\/r = "lacks"):=fun z=>z.elim (ne_of_beq_false h5) (ne_of_beq_false h6);have h3':=g1.keep _ _ h3;refine⟨_,h3',?_⟩;rw[k_lenl,zz];refine pick_w (k:=k) sc _ _ _ (by walk_at "o") (by walk_at "o") (by walk_at "o") ?_;rw[hf];walk_at "wq";refine⟨_,h3',_,(Gr.app _ _).keep _ _ h3',?_⟩;rw[cut_lo _ (by walk_at "o"),cut_hi _ (by walk_at "o")];have et:(f:Int).toNat=f:=rfl;rw[et];refine⟨_,(Gr.app _ _).keep _ _ (get_new _ _),_,get_new _ _,?_,?_⟩
 ·rw[zS,ze,zz];walk_at "o"
 rw[<- yZ,<- zV,<- zm];have p1:(vs.drop f++vs.take f).Perm vs:=xX.trans (List.Perm.of_eq (yJ f vs));generalize vs.drop f++vs.take f=vs' at p1 q ⊢;generalize hM2:M1++[MO.lst (List.map D.str (vs.drop f))]++[MO.lst (List.map D.str (vs.take f))]=M2;have g2:Gr M1 M2:=hM2 ▸ (Gr.app _ _).snoc _;clear hM2;refine⟨_,(g2.snoc _).keep _ _ h3',?_⟩;rw[k_lenl,zz];refine pick_w (k:=k) sc _ _ _ (by walk_at "o") (by walk_at "o") (by walk_at "o") ?_;rw[hm];walk_at "wq";refine⟨_,get_new _ _,_,get_new _ _,by walk_at "o",?_⟩;rw[cut_hi _ (by walk_at "o"),<- zV];have hl:=p1.length_eq;have q:=q (M2++[MO.lst (List.map D.str vs')]++[MO.lst (List.map D.str (vs'.take (1 + (m:Int)).toNat))]);rw[if_neg hr']at q;refine q ⟨hnm,fun v hv=>p1.mem_iff.mp (yl hv),?_⟩ (((g1.trans g2).snoc _).snoc _);show (vs'.take _).length<=3;rw[ze];walk_at "o"
theorem askings_w (k:Nat)(sc:List Int)(i:Int)(m:Nat)(M:MH){d:D}{as vs ns:List Str}{ot:Str}(P:Pool M d as vs ns ot){Q:D->MH->Prop}(h0:0<=i)(h1:i<=80000)(hm:m<=100)
  (q:∀ M',(∀ a∈(List.range m).map (fun (j:Nat)=>askV sc (i + 4 * (j:Int)) as vs),AskIn a as vs)->Gr M M'->Q (.tup (((List.range m).map fun (j:Nat)=>askV sc (i + 4 * (j:Int)) as vs).map askD)) M'):W ((cx srt (k + 4)).fn "_law_askings" [.fl (sc.map .int),.int i,.int m,d]) M Q:=by
 have big:=line_big;rw[f__law_askings,wf,b__law_askings];walk_at "wq";refine⟨⟨by walk_at "o",by walk_at "o"⟩,by rw[rng_len];walk_at "o",?_⟩;refine w_compI (fun n ys M'=>Gr M M'/\(∀ a∈(List.range n).map (fun (j:Nat)=>askV sc (i + 4 * (j:Int)) as vs),AskIn a as vs)/\ys=((List.range n).map fun (j:Nat)=>askV sc (i + 4 * (j:Int)) as vs).map askD) ⟨Gr.refl,(fun a h=>by cases h),rfl⟩ (fun _ _ _ _=>trivial) ?_ ?_
 ·rintro n d' ys M' hd ⟨g,hin,rfl⟩
  obtain⟨rfl,hn⟩:=rng_get hd;walk_at "wq";refine⟨.inl ⟨by walk_at "o",by walk_at "o"⟩,?_⟩;refine asking_w k sc _ M' (P.keep g) (by walk_at "o") (by walk_at "o") fun M2 ha g2=>?_;rw[show i + 4 * (0 + (n:Int))=i + 4 * (n:Int) by walk_at "o"]at ha ⊢;refine⟨g.trans g2,fun a h=>?_,by rw[yF,zm,zm];rfl⟩;rw[yF,zm]at h;rcases zN.mp h with h | h
  ·exact hin a h
  ·rw[zb.mp h];exact ha
 ·rintro ys M' ⟨g,hin,rfl⟩
  rw[rng_len]at hin ⊢;rw[show (((m:Nat):Int) - 0).toNat=m by walk_at "o"]at hin ⊢;walk_at "wq";exact⟨_,get_new _ _,q _ hin (g.snoc _)⟩
end
end Law
namespace Law
open PySem L3
section
variable {srt:List D->Option (List D)}
inductive Tr where
 | mk (xs:List Ask) (on:Bool) (b:List Str) (p r:Int) (rows:List Tr)
mutual
noncomputable def trD:Tr->D
 | .mk xs on b p r rows=>.tup [.tup (xs.map askD),.bl on,.tup (b.map .str),.int p,.int r,.tup [],.tup (trDs rows)]
noncomputable def trDs:List Tr->List D
 | []=>[]
 | t::ts=>trD t::trDs ts
end
theorem trDs_eq:∀ ts:List Tr,trDs ts=ts.map trD
 | []=>rfl
 | t::ts=>by rw[trDs,trDs_eq ts];rfl
noncomputable def asksT:Tr->List Ask
 | .mk xs _ _ _ _ _=>xs
noncomputable def rowsT:Tr->List Tr
 | .mk _ _ _ _ _ rows=>rows
theorem trD_eq (t:Tr):∃ b c p r,trD t=.tup [.tup ((asksT t).map askD),b,c,p,r,.tup [],.tup ((rowsT t).map trD)]:=by
 cases t with
 | mk xs on b p r rows=>exact⟨_,_,_,_,by rw[trD,trDs_eq];rfl⟩
noncomputable def plD (p:List Int):D:=.tup (p.map .int)
noncomputable def Fit (as vs:List Str):Nat->Tr->Prop
 | 0,_=>False
 | n + 1,t=>(rowsT t).length<=5/\∀ s∈rowsT t,((asksT s).length<=3/\∀ a∈asksT s,AskIn a as vs)/\Fit as vs n s
noncomputable def cntT:Nat->Nat
 | 0=>0
 | n + 1=>1 + 5 * cntT n
noncomputable def plsL (rec:Tr->List Int->List (List Int))(p:List Int):Nat->List Tr->List (List Int)
 | _,[]=>[]
 | k,s::ss=>rec s (p++[(k:Int)])++plsL rec p (k + 1) ss
noncomputable def pls:Nat->Tr->List Int->List (List Int)
 | 0,_,_=>[]
 | n + 1,t,p=>p::plsL (pls n) p 0 (rowsT t)
theorem plsL_len {rec:Tr->List Int->List (List Int)}{p:List Int}{B:Nat}:∀ (ts:List Tr) (k:Nat),(∀ t∈ts,∀ p',(rec t p').length<=B)->(plsL rec p k ts).length<=ts.length * B
 | [],_,_=>zI _
 | t::ts,k,h=>by
  have h1:=h t zJ (p++[(k:Int)]);have h2:=plsL_len (rec:=rec) (p:=p) ts (k + 1) fun s hs=>h s (zF _ hs);rw[plsL,zt,zA,Nat.succ_mul];walk_at "o"
variable {as vs:List Str}
theorem pls_len:∀ (n:Nat) (t:Tr) (p:List Int),Fit as vs n t->(pls n t p).length<=cntT n
 | 0,_,_,h=>h.elim
 | n + 1,t,p,h=>by
  have:=plsL_len (rec:=pls n) (p:=p) (B:=cntT n) (rowsT t) 0 fun s hs p'=>pls_len n s p' (h.2 s hs).2
  have h5:=xZ (cntT n) h.1;rw[pls,zA,cntT];walk_at "o"
theorem plsL_drop {rec:Tr->List Int->List (List Int)}{p:List Int}{ts:List Tr}{m:Nat}{s:Tr}(h:ts[m]?=some s):plsL rec p m (ts.drop m)=rec s (p++[(m:Int)])++plsL rec p (m + 1) (ts.drop (m + 1)):=by
 obtain⟨hlt,e⟩:=zp.mp h;rw[yo hlt,e,plsL]
theorem placesFrom_w:∀ (n k:Nat) (M:MH) (t:Tr) (p:List Int),Fit as vs n t->n<=5->p.length + n<=100->∀ {Q:D->MH->Prop} (_:∀ (j:Nat) (M':MH),Gr M M'->M.length<=j->M'[j]?=some (.lst ((pls n t p).map plD))->Q (.ob j) M'),
  W ((cx srt (k + n)).fn "places_from" [trD t,plD p]) M Q
 | 0,_,_,_,_,h,_,_,_,_=>h.elim
 | n + 1,k,M,t,p,fit,hn5,hpn,Q,q=>by
  have big:=line_big;obtain⟨hrl,hfit⟩:=id fit;obtain⟨eb,ec,ep,er,et⟩:=trD_eq t;have hc4:cntT n<=156:=by
   have:n<=4:=by walk_at "o"
   rcases n with _ | _ | _ | _ | _ | n <;> first | decide | walk_at "o"
  have B5:∀ s∈rowsT t,∀ p',(pls n s p').length<=156:=fun s hs p'=>zK (pls_len n s p' (hfit s hs).2) hc4;rw[show k + (n + 1)=k + n + 1 by walk_at "o",f_places_from,wf,b_places_from];walk_at "wq";refine⟨by walk_at "o",?_⟩;rw[et];walk_at "wq";rw[<- et];have e0:([plD p]:List D)=([p]:List (List Int)).map plD:=rfl;rw[e0];refine w_loopP (fun m ρ M'=>Gr M M'/\(∃ acc:List (List Int),M'[M.length]?=some (.lst (acc.map plD))/\pls (n + 1) t p=acc++plsL (pls n) p m ((rowsT t).drop m)/\acc.length<=1 + m * 156) /\
   ∃ x3 x4,ρ=[some (trD t),some (plD p),some (.ob M.length),x3,x4]) ⟨Gr.app _ _,⟨[p],get_new _ _,rfl,zr _⟩,_,_,rfl⟩ (fun _ _ _ _=>trivial) ?_ ?_
  ·rintro m d ρ M1 hd ⟨g1,⟨acc,h1,e1,l1⟩,x3,x4,rfl⟩
   obtain⟨x,hx,rfl⟩:=enumG hd;rw[zv]at hx;obtain⟨s,hs,rfl⟩:=zu.mp hx;have hlt:=lt_of_get hs;have hsm:=zw hs;rw[plsL_drop hs]at e1;refine⟨_,_,rfl,?_⟩;have epl:D.tup (p.map D.int++[D.int m])=plD (p++[(m:Int)]):=by unfold plD;rw[zm];rfl
   have ep:plD p=.tup (p.map .int):=rfl;rw[ep];walk_at "wq";refine⟨_,h1,by walk_at "o",by rw[zz];show _ + 1<=_;walk_at "o",?_⟩;rw[epl];refine placesFrom_w n k M1 s (p++[(m:Int)]) (hfit s hsm).2 (by walk_at "o") (by rw[zt];show _ + 1 + _<=_;walk_at "o") fun j M3 g3 hj h3=>?_;have g3':=g1.trans g3;have h3a:=g3.keep _ _ h1;have l3:=B5 s hsm (p++[(m:Int)]);have hjl:M.length < M1.length:=lt_of_get h1;walk_at "wq";refine⟨_,h3,_,h3a,⟨by rw[zz,zz];walk_at "o",by simp;walk_at "o"⟩,?_⟩;generalize pls n s (p++[(m:Int)])=T at e1 l3 ⊢;refine⟨g3'.set (zr _) _,⟨acc++T,?_,by rw[e1,yq],by rw[zt];walk_at "o"⟩,_,_,rfl⟩;rw[zm];exact set_get h3a
  ·rintro ρ M1 ⟨g1,⟨acc,h1,e1,l1⟩,x3,x4,rfl⟩
   rw[enumN,zz,yf,plsL,zO]at e1;walk_at "wq";exact q _ _ g1 (zr _) (by rw[e1];exact h1)
theorem lawPlaces_w:∀ (n k:Nat) (M:MH) (t:Tr) (p:List Int),Fit as vs n t->n<=5->p.length + n<=100->∀ {Q:D->MH->Prop} (_:∀ (j:Nat) (M':MH),Gr M M'->M.length<=j->M'[j]?=some (.lst ((pls n t p).map plD))->Q (.ob j) M'),
  W ((cx srt (k + n)).fn "_law_places" [trD t,plD p]) M Q
 | 0,_,_,_,_,h,_,_,_,_=>h.elim
 | n + 1,k,M,t,p,fit,hn5,hpn,Q,q=>by
  have big:=line_big;obtain⟨hrl,hfit⟩:=id fit;obtain⟨eb,ec,ep,er,et⟩:=trD_eq t;have hc4:cntT n<=156:=by
   have:n<=4:=by walk_at "o"
   rcases n with _ | _ | _ | _ | _ | n <;> first | decide | walk_at "o"
  have B5:∀ s∈rowsT t,∀ p',(pls n s p').length<=156:=fun s hs p'=>zK (pls_len n s p' (hfit s hs).2) hc4;rw[show k + (n + 1)=k + n + 1 by walk_at "o",f__law_places,wf,b__law_places];walk_at "wq";refine⟨by walk_at "o",?_⟩;rw[et];walk_at "wq";rw[<- et];have e0:([plD p]:List D)=([p]:List (List Int)).map plD:=rfl;rw[e0];refine⟨⟨by walk_at "o",by rw[zz];walk_at "o"⟩,?_⟩;refine w_loop (fun m ρ M'=>Gr M M'/\∃ (jf:Nat) (acc:List (List Int)),M.length<=jf/\M'[jf]?=some (.lst (acc.map plD))/\pls (n + 1) t p=acc++plsL (pls n) p m ((rowsT t).drop m)/\acc.length<=1 + m * 156 /\
   ∃ x3,ρ=[some (trD t),some (plD p),some (.ob jf),x3]) ⟨Gr.app _ _,M.length,[p],zr _,get_new _ _,rfl,zr _,_,rfl⟩ (fun _ _ _ _=>trivial) ?_ ?_
  ·rintro m d ρ M1 hd ⟨g1,jf,acc,hjf,h1,e1,l1,x3,rfl⟩
   obtain⟨rfl,hm⟩:=rng_get hd;rw[zz]at hm;have hlt:m < (rowsT t).length:=by walk_at "o"
   have hs:=zx hlt;generalize (rowsT t)[m]=s at hs;have hsm:=zw hs;rw[plsL_drop hs]at e1;have epl:D.tup (p.map D.int++[D.int (m:Int)])=plD (p++[(m:Int)]):=by unfold plD;rw[zm];rfl
   have ep:plD p=.tup (p.map .int):=rfl;rw[ep,xc];rw[et];walk_at "wq";rw[<- et];refine⟨_,atD_nat (by rw[zv,hs];rfl),by walk_at "o",by rw[zz];walk_at "o",?_⟩;rw[epl];refine lawPlaces_w n k M1 s (p++[(m:Int)]) (hfit s hsm).2 (by walk_at "o") (by rw[zt];show _ + 1 + _<=_;walk_at "o") fun j M3 g3 hj h3=>?_;have g3':=g1.trans g3;have h3a:=g3.keep _ _ h1;have l3:=B5 s hsm (p++[(m:Int)]);walk_at "wq";refine⟨_,h3a,_,h3,by rw[zz,zz];walk_at "o",?_⟩;generalize pls n s (p++[(m:Int)])=T at e1 l3 h3 ⊢;refine⟨g3'.snoc _,_,acc++T,g3'.len,by rw[zm];exact get_new _ _,by rw[e1,yq],by rw[zt];walk_at "o",_,rfl⟩
  ·rintro ρ M1 ⟨g1,jf,acc,hjf,h1,e1,l1,x3,rfl⟩
   rw[rng_len,zz,show (((rowsT t).length:Int) - 0).toNat=(rowsT t).length by walk_at "o",yf,plsL,zO]at e1;walk_at "wq";exact q _ _ g1 hjf (by rw[e1];exact h1)
end
end Law
namespace Law
open PySem L3
section
variable {srt:List D->Option (List D)}{as vs:List Str}
noncomputable def subT:Tr->List Int->Option Tr
 | t,[]=>some t
 | t,i::p=>if i < 0 then none else match (rowsT t)[i.toNat]? with
  | some s=>subT s p
  | none=>none
theorem subT_c {t:Tr}{i:Int}{p:List Int}:subT t (i::p)=if i < 0 then none else match (rowsT t)[i.toNat]? with
  | some s=>subT s p
  | none=>none:=rfl
theorem subT_cons {t s:Tr}{i:Int}{p:List Int}(h:subT t (i::p)=some s):∃ (n:Nat) (r:Tr),i=n/\(rowsT t)[n]?=some r/\subT r p=some s:=by
 rw[subT_c]at h;split at h
 ·cases h
 ·split at h
  ·rename_i r hr
   exact⟨i.toNat,r,by walk_at "o",hr,h⟩
  ·cases h
noncomputable def OkR (as vs:List Str)(s:Tr):Prop:=(asksT s).length<=3/\∀ a∈asksT s,AskIn a as vs
theorem plsL_mem {rec:Tr->List Int->List (List Int)}{p:List Int}:∀ (ts:List Tr) (k:Nat) (pl:List Int),pl∈plsL rec p k ts->∃ (i:Nat) (t:Tr),ts[i]?=some t/\pl∈rec t (p++[((k + i:Nat):Int)])
 | [],_,pl,h=>by cases h
 | t::ts,k,pl,h=>by
  rw[plsL]at h;rcases zN.mp h with h | h
  ·exact⟨0,t,rfl,h⟩
  ·obtain⟨i,t',h1,h2⟩:=plsL_mem ts (k + 1) pl h
   exact⟨i + 1,t',by simpa using h1,by rw[show k + (i + 1)=k + 1 + i by walk_at "o"];exact h2⟩
theorem pls_ok:∀ (n:Nat) (t:Tr) (p pl:List Int),Fit as vs n t->OkR as vs t->pl∈pls n t p->∃ q s,pl=p++q/\subT t q=some s/\OkR as vs s
 | 0,_,_,_,f,_,_=>f.elim
 | n + 1,t,p,pl,f,ok,h=>by
  rw[pls]at h;rcases zG.mp h with rfl | h
  ·exact⟨[],t,by rw[zO],rfl,ok⟩
  ·obtain⟨i,s,h1,h2⟩:=plsL_mem _ _ _ h
   obtain⟨o,f'⟩:=f.2 s (zw h1);obtain⟨q,s',e1,e2,e3⟩:=pls_ok n s _ pl f' o h2;refine⟨(i:Int)::q,s',by rw[e1,wH,yq];rfl,?_,e3⟩;rw[subT_c,if_neg (by walk_at "o"),zE,h1];exact e2
noncomputable def plB (t:Tr):List (List Int):=plsL (pls 4) [] 0 (rowsT t)
theorem pls_B (t:Tr):pls 5 t []=[]::plB t:=rfl
theorem plB_len {t:Tr}(f:Fit as vs 5 t):(plB t).length<=780:=by
 have:=pls_len 5 t [] f
 rw[pls_B,zA]at this;have e:cntT 5=781:=by decide
 walk_at "o"
theorem plB_ok {t:Tr}(f:Fit as vs 5 t){p:List Int}(h:p∈plB t):∃ s,subT t p=some s/\OkR as vs s:=by
 obtain⟨i,s,h1,h2⟩:=plsL_mem _ _ _ h;obtain⟨o,f'⟩:=f.2 s (zw h1);obtain⟨q,s',e1,e2,e3⟩:=pls_ok 4 s _ p f' o h2;refine⟨s',?_,e3⟩;rw[e1,wH,vt];show subT t ((i:Int)::q)=_;rw[subT_c,if_neg (by walk_at "o"),zE,h1];exact e2
theorem rowAt_w (k:Nat)(M:MH){n:Nat}(t s:Tr)(p:List Int)(h:subT t p=some s)(fit:Fit as vs n t){Q:D->MH->Prop}(q:Q (trD s) M):W ((cx srt (k + 1)).fn "row_at" [trD t,plD p]) M Q:=by
 have big:=line_big;rw[f_row_at,wf,b_row_at,plD];walk_at "wq";refine w_loop (fun m ρ M'=>M'=M/\∃ r x3 n,subT r (p.drop m)=some s/\Fit as vs n r/\ρ=[some (trD t),some (.tup (p.map .int)),some (trD r),x3]) ⟨rfl,t,_,n,h,fit,rfl⟩ (fun _ _ _ _=>trivial) ?_ ?_
 ·rintro m d ρ M' hd ⟨rfl,r,x3,n,hr,fr,rfl⟩
  rw[zv]at hd;obtain⟨i,hi,rfl⟩:=zu.mp hd;obtain⟨hlt,hg⟩:=zp.mp hi;rw[yo hlt,hg]at hr;obtain⟨j,r',rfl,hj,hs⟩:=subT_cons hr;cases n with
  | zero=>exact fr.elim
  | succ n =>
   have h5:=fr.1;have hjl:=lt_of_get hj;obtain⟨eb,ec,ep,er,et⟩:=trD_eq r;rw[et];walk_at "wq";refine⟨fun _=>⟨fun z=>?_,fun _=>?_⟩,fun z=>absurd (Int.natCast_nonneg j) (of_decide_eq_false z)⟩
   ·rw[zz]at z
    exact absurd z (by simp;walk_at "o")
   ·exact⟨_,atD_nat (by rw[zv,hj];rfl),r',_,n,hs,(fr.2 r' (zw hj)).2,rfl⟩
 ·rintro ρ M' ⟨rfl,r,x3,n,hr,_,rfl⟩
  rw[zz,yf]at hr;cases hr;walk_at "wq";exact q
theorem lawAt_w (k:Nat)(M:MH)(t s:Tr)(p:List Int)(h:subT t p=some s){Q:D->MH->Prop}(q:Q (trD s) M):W ((cx srt (k + 1)).fn "_law_at" [trD t,plD p]) M Q:=by
 have big:=line_big;rw[f__law_at,wf,b__law_at,plD];walk_at "wq";refine w_loop (fun m ρ M'=>M'=M/\∃ r x2,subT r (p.drop m)=some s/\ρ=[some (trD r),some (.tup (p.map .int)),x2]) ⟨rfl,t,_,h,rfl⟩ (fun _ _ _ _=>trivial) ?_ ?_
 ·rintro m d ρ M' hd ⟨rfl,r,x3,hr,rfl⟩
  rw[zv]at hd;obtain⟨i,hi,rfl⟩:=zu.mp hd;obtain⟨hlt,hg⟩:=zp.mp hi;rw[yo hlt,hg]at hr;obtain⟨j,r',rfl,hj,hs⟩:=subT_cons hr;obtain⟨eb,ec,ep,er,et⟩:=trD_eq r;rw[et];walk_at "wq";exact⟨_,atD_nat (by rw[zv,hj];rfl),r',_,hs,rfl⟩
 ·rintro ρ M' ⟨rfl,r,x3,hr,rfl⟩
  rw[zz,yf]at hr;cases hr;walk_at "wq";exact q
noncomputable def rowOf (t:Tr)(p:List Int):Tr:=(subT t p).getD t
theorem rowOf_eq {t s:Tr}{p:List Int}(h:subT t p=some s):rowOf t p=s:=by unfold rowOf;rw[h];rfl
noncomputable def asksAt (t:Tr)(ps:List (List Int)):List Ask:=ps.flatMap fun p=>asksT (rowOf t p)
noncomputable def bel (t:Tr):List Ask:=asksAt t (plB t)
theorem asksAt_ok {t:Tr}(f:Fit as vs 5 t):∀ ps:List (List Int),(∀ p∈ps,p∈plB t)->(asksAt t ps).length<=3 * ps.length/\∀ a∈asksAt t ps,AskIn a as vs
 | [],_=>⟨zI _,fun a h=>by cases h⟩
 | p::ps,h=>by
  obtain⟨s,e,o1,o2⟩:=plB_ok f (h p zJ);obtain⟨i1,i2⟩:=asksAt_ok f ps fun p' hp=>h p' (zF _ hp);have e2:asksAt t (p::ps)=asksT s++asksAt t ps:=by unfold asksAt;rw[xm,rowOf_eq e]
  rw[e2];refine⟨by rw[zt,zA];walk_at "o",fun a ha=>?_⟩;rcases zN.mp ha with ha | ha
  ·exact o2 a ha
  ·exact i2 a ha
theorem asksAt_snoc {t s:Tr}{ps:List (List Int)}{m:Nat}{p:List Int}(h:ps[m]?=some p)(e:subT t p=some s):asksAt t (ps.take (m + 1))=asksAt t (ps.take m)++asksT s:=by
 rw[zM,h];unfold asksAt;rw[yX];congr 1;show (asksT (rowOf t p))++[]=_;rw[zO,rowOf_eq e]
theorem askingsAt_w (k:Nat)(M:MH)(t:Tr)(f:Fit as vs 5 t){j:Nat}(hj:M[j]?=some (.lst ((plB t).map plD))){Q:D->MH->Prop}(q:∀ j' M',Gr M M'->M'[j']?=some (.lst ((bel t).map askD))->Q (.ob j') M'):W ((cx srt (k + 2)).fn "askings_at" [trD t,.ob j]) M Q:=by
 have big:=line_big;have hl:=plB_len f;rw[f_askings_at,wf,b_askings_at];walk_at "wq";refine⟨by walk_at "o",_,(Gr.app _ _).keep _ _ hj,?_⟩;refine w_loop (fun m ρ M'=>Gr M M'/\M'[M.length]?=some (.lst ((asksAt t ((plB t).take m)).map askD))/\∃ x3,ρ=[some (trD t),some (.ob j),some (.ob M.length),x3]) ⟨Gr.app _ _,get_new _ _,_,rfl⟩ (fun _ _ _ h=>h.1.keep _ _ hj) ?_ ?_
 ·rintro m d ρ M' hd ⟨g,hM,x3,rfl⟩
  rw[zv]at hd;obtain⟨p,hp,rfl⟩:=zu.mp hd;obtain⟨s,e,o1,o2⟩:=plB_ok f (zw hp);have hm:=lt_of_get hp;have hlt:=(asksAt_ok f ((plB t).take m) fun p' h=>yl h).1;rw[ze]at hlt;walk_at "wq";refine⟨_,hM,rowAt_w k M' t s p e f ?_⟩;obtain⟨eb,ec,ep,er,et⟩:=trD_eq s;rw[et];walk_at "wq";refine⟨_,hM,by rw[zz,zz];walk_at "o",?_⟩;refine⟨g.set (zr _) _,?_,_,rfl⟩;rw[asksAt_snoc hp e,zm];exact set_get hM
 ·rintro ρ M' ⟨g,hM,x3,rfl⟩
  rw[zz,zH]at hM;walk_at "wq";exact q _ _ g hM
theorem askingsBelow_w (k:Nat)(M:MH)(t:Tr)(f:Fit as vs 5 t){Q:D->MH->Prop}(q:∀ j' M',Gr M M'->M'[j']?=some (.lst ((bel t).map askD))->Q (.ob j') M'):W ((cx srt (k + 7)).fn "askings_below" [trD t]) M Q:=by
 have big:=line_big;rw[f_askings_below,wf,b_askings_below];walk_at "wq";rw[f_places,wf,b_places];walk_at "wq";refine⟨by walk_at "o",?_⟩;refine placesFrom_w 5 k M t [] f (by decide) (by decide) fun j M1 g1 _ h1=>?_;rw[pls_B]at h1;walk_at "wq";refine⟨_,h1,?_⟩;rw[cut_lo _ (by decide)];have e1:(1:Int).toNat=1:=rfl;rw[e1,zD,wg,ww];exact askingsAt_w (k + 4) _ t f (get_new _ _) fun j' M' g h=>q j' M' ((g1.snoc _).trans g) h
end
end Law
namespace Law
open PySem L3
section
variable {srt:List D->Option (List D)}{as vs:List Str}
theorem sub_len {α:Type}[DecidableEq α]:∀ {xs ys:List α},xs.Nodup->(∀ x∈xs,x∈ys)->xs.length<=ys.length
 | [],_,_,_=>zI _
 | x::r,ys,h,hs=>by
  rw[yL]at h;have hx:=hs x zJ;have h1:=sub_len (ys:=ys.erase x) h.2 fun y hy=>(List.mem_erase_of_ne (by intro e;subst e;exact h.1 hy)).mpr (hs y (zF _ hy));rw[List.length_erase_of_mem hx]at h1
  have:0 < ys.length:=List.length_pos_of_mem hx
  rw[zA];walk_at "o"
theorem addAll_app:∀ (ys zs xs:List Str),addAll xs (ys++zs)=addAll (addAll xs ys) zs
 | [],_,_=>rfl
 | y::ys,zs,xs=>addAll_app ys zs (addS xs y)
theorem addS_nd {xs:List Str}{x:Str}(h:xs.Nodup):(addS xs x).Nodup:=by
 unfold addS;split
 ·exact h
 ·rename_i hx
  rw[wI];exact⟨h,by simp,fun a ha b hb e=>hx (by rw[<- zb.mp hb,<- e];exact ha)⟩
theorem addAll_ok:∀ (ys xs:List Str),xs.Nodup->(∀ x∈xs,x∈as)->(∀ y∈ys,y∈as)->(addAll xs ys).Nodup/\∀ z∈addAll xs ys,z∈as
 | [],_,h,hx,_=>⟨h,hx⟩
 | y::ys,xs,h,hx,hy=>addAll_ok ys (addS xs y) (addS_nd h) (fun z hz=>by
   unfold addS at hz;split at hz
   ·exact hx z hz
   ·rcases zN.mp hz with hz | hz
    ·exact hx z hz
    ·rw[zb.mp hz];exact hy y zJ) fun z hz=>hy z (zF _ hz)
theorem addAll_le {ys:List Str}(h:∀ y∈ys,y∈as):(addAll [] ys).length<=as.length:=by
 obtain⟨h1,h2⟩:=addAll_ok ys [] xE (fun x hx=>nomatch hx) h;exact sub_len h1 h2
noncomputable def nmsV (xs:List Ask):List Str:=xs.map (·.n)
noncomputable def valsV (nm:Str)(xs:List Ask):List Str:=xs.flatMap fun a=>if a.n=nm then a.vs else []
theorem vals_ok {xs:List Ask}{nm:Str}(h:∀ a∈xs,AskIn a as vs):(valsV nm xs).length<=3 * xs.length/\∀ v∈valsV nm xs,v∈vs:=by
 induction xs with
 | nil=>exact⟨zI _,fun v hv=>nomatch hv⟩
 | cons a xs ih =>
  obtain⟨i1,i2⟩:=ih fun b hb=>h b (zF _ hb);have ha:=h a zJ;unfold valsV at i1 i2 ⊢;rw[xm];refine⟨?_,fun v hv=>?_⟩
  ·rw[zt,zA]
   have:=ha.l
   split
   ·walk_at "o"
   ·rw[xU];walk_at "o"
  ·rcases zN.mp hv with hv | hv
   ·split at hv
    ·exact ha.v v hv
    ·cases hv
   ·exact i2 v hv
theorem vals_snoc {xs:List Ask}{m:Nat}{a:Ask}(h:xs[m]?=some a)(nm:Str):valsV nm (xs.take (m + 1))=valsV nm (xs.take m)++(if a.n=nm then a.vs else []):=by
 rw[zM,h];unfold valsV;rw[yX];congr 1;show (if a.n=nm then a.vs else [])++[]=_;rw[zO]
theorem namesIn_w (k:Nat)(M:MH){xs:List Ask}(hin:∀ a∈xs,AskIn a as vs)(ha:as.length<=3)(hl:xs.length<=2340){j:Nat}(hj:M[j]?=some (.lst (xs.map askD))){Q:D->MH->Prop}(q:∀ j' M',Gr M M'->M.length<=j'->M'[j']?=some (.lst ((sortS (addAll [] (nmsV xs))).map .str))->Q (.ob j') M'):W ((cx srt (k + 1)).fn "names_in" [.ob j]) M Q:=by
 have big:=line_big;rw[f_names_in,wf,b_names_in];walk_at "wq";refine⟨_,hj,by rw[zz];walk_at "o",?_⟩;refine w_compI (fun m ys M'=>M'=M/\ys=(nmsV (xs.take m)).map .str) ⟨rfl,rfl⟩ (fun _ _ _ h=>h.1 ▸ hj) ?_ ?_
 ·rintro m d ys M' hd ⟨rfl,rfl⟩
  rw[zv]at hd;obtain⟨a,ha',rfl⟩:=zu.mp hd;rw[askD];walk_at "wq";rw[zM,ha'];unfold nmsV;rw[zm,zm];rfl
 ·rintro ys M' ⟨rfl,rfl⟩
  rw[zz,zH];walk_at "wq";have hle:=addAll_le (as:=as) (ys:=nmsV xs) fun y hy=>by
   obtain⟨a,h1,rfl⟩:=zU.mp hy;exact(hin a h1).n
  exact⟨_,get_new _ _,_,allS_map _,by walk_at "o",q _ _ ((Gr.app _ _).snoc _) (by rw[zt];exact wN _ _) (get_new _ _)⟩
theorem valuesBeside_w (k:Nat)(M:MH){xs:List Ask}{nm:Str}(hin:∀ a∈xs,AskIn a as vs)(hv:vs.length<=3)(hl:xs.length<=2340){j:Nat}(hj:M[j]?=some (.lst (xs.map askD))){Q:D->MH->Prop}(q:∀ j' M',Gr M M'->M.length<=j'->M'[j']?=some (.lst ((sortS (addAll [] (valsV nm xs))).map .str))->Q (.ob j') M'):W ((cx srt (k + 1)).fn "values_beside" [.ob j,.str nm]) M Q:=by
 have big:=line_big;rw[f_values_beside,wf,b_values_beside];walk_at "wq";refine⟨by walk_at "o",_,(Gr.app _ _).keep _ _ hj,?_⟩;refine w_loop (fun m ρ M'=>Gr M M'/\M'[M.length]?=some (.lst ((valsV nm (xs.take m)).map .str))/\∃ x3,ρ=[some (.ob j),some (.str nm),some (.ob M.length),x3]) ⟨Gr.app _ _,get_new _ _,_,rfl⟩ (fun _ _ _ h=>h.1.keep _ _ hj) ?_ ?_
 ·rintro m d ρ M' hd ⟨g,hM,x3,rfl⟩
  rw[zv]at hd;obtain⟨a,ha,rfl⟩:=zu.mp hd;have hm:=lt_of_get ha;have hlt:=(vals_ok (nm:=nm) (xs:=xs.take m) fun b hb=>hin b (yl hb)).1;rw[ze]at hlt;have hal:=(hin a (zw ha)).l;have es:=vals_snoc ha nm;rw[askD];walk_at "wq";refine⟨fun h=>?_,fun h=>?_⟩
  ·rw[if_pos (beq_iff_eq.mp h)]at es
   refine⟨_,hM,_,hM,by rw[zz,zz];walk_at "o",?_⟩;refine⟨g.set (zr _) _,?_,_,rfl⟩;rw[es,zm];exact set_get hM
  ·rw[if_neg (ne_of_beq_false h),zO]at es
   exact⟨g,by rw[es];exact hM,_,rfl⟩
 ·rintro ρ M' ⟨g,hM,x3,rfl⟩
  rw[zz,zH]at hM;walk_at "wq";have hle:=addAll_le (as:=vs) (ys:=valsV nm xs) (vals_ok hin).2;exact⟨_,hM,_,allS_map _,by walk_at "o",q _ _ (g.snoc _) g.len (get_new _ _)⟩
theorem namesAsked_w (k:Nat)(M:MH)(t:Tr)(f:Fit as vs 5 t)(ha:as.length<=3){Q:D->MH->Prop}(q:∀ j' M',Gr M M'->M.length<=j'->M'[j']?=some (.lst ((sortS (addAll [] (nmsV (bel t)))).map .str))->Q (.ob j') M'):W ((cx srt (k + 8)).fn "names_asked" [trD t]) M Q:=by
 obtain⟨h1,h2⟩:=asksAt_ok f (plB t) fun p h=>h;have h3:=plB_len f;rw[f_names_asked,wf,b_names_asked];walk_at "wq";refine askingsBelow_w k M t f fun j M1 g1 hj=>?_;walk_at "wq";exact namesIn_w (k + 6) M1 h2 ha (by have:(bel t).length<=3 * (plB t).length:=h1;walk_at "o") hj fun j' M' g hle h=>q j' M' (g1.trans g) (zK g1.len hle) h
theorem valuesWith_w (k:Nat)(M:MH)(t:Tr)(nm:Str)(f:Fit as vs 5 t)(hv:vs.length<=3){Q:D->MH->Prop}(q:∀ j' M',Gr M M'->M.length<=j'->M'[j']?=some (.lst ((sortS (addAll [] (valsV nm (bel t)))).map .str))->Q (.ob j') M'):W ((cx srt (k + 8)).fn "values_with" [trD t,.str nm]) M Q:=by
 obtain⟨h1,h2⟩:=asksAt_ok f (plB t) fun p h=>h;have h3:=plB_len f;rw[f_values_with,wf,b_values_with];walk_at "wq";refine askingsBelow_w k M t f fun j M1 g1 hj=>?_;walk_at "wq";exact valuesBeside_w (k + 6) M1 h2 hv (by have:(bel t).length<=3 * (plB t).length:=h1;walk_at "o") hj fun j' M' g hle h=>q j' M' (g1.trans g) (zK g1.len hle) h
end
end Law
namespace Law
open PySem L3
section
variable {as vs:List Str}
structure Nd where
 a:List Ask
 n:List Str
 d:Nat
 kids:List Nat
 b:Bool
 id:Nat
noncomputable def okN (x:Nd):Bool:=decide (x.d < 4)&&decide (x.kids.length < 5)
noncomputable def nd0:Nd:=⟨[],[],0,[],false,0⟩
noncomputable def upV (sc:List Int)(i:Int)(N:List Nd):Nd:=(N.filter okN).getD (if pickV sc (i + 10) 2=0 then (N.filter okN).length - 1 else (pickV sc (i + 11) (N.filter okN).length).toNat) nd0
noncomputable def manyA (n:Nat):Nat:=[0,1,1,2,1,1,3].getD n 0
noncomputable def newV (sc:List Int)(i:Int)(as vs ns:List Str)(d m:Nat):Nd :=
 ⟨(List.range (manyA (pickV sc (i + 12) 7).toNat)).map fun (j:Nat)=>askV sc (i + 4 * (j:Int)) as vs,
   (ns.drop (pickV sc (i + 13) 6).toNat++ns.take (pickV sc (i + 13) 6).toNat).take (pickV sc (i + 14) 4).toNat,d,[],pickV sc (i + 15) 3==0,m⟩
noncomputable def kidU (x:Nd)(m:Nat):Nd:={ x with kids:=x.kids++[m] }
noncomputable def stepV (sc:List Int)(i:Int)(as vs ns:List Str)(m:Nat)(N:List Nd):List Nd :=
 if m=0 then [newV sc i as vs ns 0 0] else N.set (upV sc i N).id (kidU (upV sc i N) m)++[newV sc i as vs ns ((upV sc i N).d + 1) m]
noncomputable def ndsV (sc:List Int)(i:Int)(as vs ns:List Str):Nat->List Nd
 | 0=>[]
 | m + 1=>stepV sc (i + 16 * (m:Int)) as vs ns m (ndsV sc i as vs ns m)
noncomputable def uW:Nat->Int
 | 0=>25
 | 1=>5
 | 2=>1
 | _=>0
noncomputable def gW (x:Nd):Int:=uW x.d - x.kids.length * uW (x.d + 1)
noncomputable def potN (N:List Nd):Int:=(N.map gW).sum
theorem pot_set:∀ {N:List Nd} {i:Nat} {x:Nd} (y:Nd),N[i]?=some x->potN (N.set i y)=potN N - gW x + gW y
 | [],_,_,_,h=>by cases h
 | z::N,0,x,y,h=>by
  cases h;unfold potN;rw[List.set_cons_zero,zD,zD,yY,yY];walk_at "o"
 | z::N,i + 1,x,y,h=>by
  have ih:=pot_set (N:=N) (i:=i) (x:=x) y (by simpa using h);unfold potN at ih ⊢;rw[List.set_cons_succ,zD,zD,yY,yY,ih];walk_at "o"
theorem pot_snoc (N:List Nd)(y:Nd):potN (N++[y])=potN N + gW y:=by
 unfold potN;rw[zm,List.sum_append];show _ + (gW y + 0)=_;rw[Int.add_zero]
theorem pot_le:∀ (N:List Nd),(∀ x∈N,okN x=false)->potN N<=N.length
 | [],_=>by decide
 | x::N,h=>by
  have ih:=pot_le N fun y hy=>h y (zF _ hy);have hx:=h x zJ
  have:gW x<=1:=by
   unfold okN at hx;unfold gW;have hk:(x.d < 4->5<=x.kids.length):=fun h4=>by
    rw[decide_eq_true h4,yb]at hx
    have:=of_decide_eq_false hx
    walk_at "o"
   generalize x.d=d at hk ⊢;rcases d with _ | _ | _ | d
   ·have:=hk (by decide)
    simp only[uW];walk_at "o"
   ·have:=hk (by decide)
    simp only[uW];walk_at "o"
   ·simp only[uW]
    walk_at "o"
   ·have e1:uW (d + 1 + 1 + 1)=0:=rfl
    have e2:uW (d + 1 + 1 + 1 + 1)=0:=rfl;rw[e1,e2];walk_at "o"
  unfold potN at ih ⊢;rw[zD,yY,zA];walk_at "o"
structure NF (as vs:List Str) (N:List Nd):Prop where
 id:∀ (a:Nat) (x:Nd),N[a]?=some x->x.id=a
 d4:∀ x∈N,x.d<=4
 k5:∀ x∈N,x.kids.length<=5
 kd:∀ x∈N,∀ c∈x.kids,∃ y,N[c]?=some y/\y.d=x.d + 1
 ak:∀ x∈N,0 < x.d->x.a.length<=3/\∀ a∈x.a,AskIn a as vs
 r0:∀ x,N[0]?=some x->x.d=0
theorem NF.nil:NF as vs []:=⟨fun _ _ h=>(nomatch h),fun _ h=>(nomatch h),fun _ h=>(nomatch h),fun _ h=>(nomatch h),fun _ h=>(nomatch h),fun _ h=>(nomatch h)⟩
theorem NF.set {N:List Nd}(f:NF as vs N){i:Nat}{x y:Nd}(h:N[i]?=some x)(e1:y.id=x.id)(e2:y.d=x.d)(e3:y.a=x.a\/x.d=0)(e4:y.kids=x.kids):NF as vs (N.set i y):=by
 have hx:=zw h;have get:∀ (a:Nat) (z:Nd),N[a]?=some z->∃ z',(N.set i y)[a]?=some z'/\z'.d=z.d:=fun a z hz=>by
  by_cases e:i=a
  ·subst e
   rw[h]at hz;cases hz;exact⟨y,zL (lt_of_get h),e2⟩
  ·exact⟨z,by rw[zi e];exact hz,rfl⟩
 refine⟨fun a z hz=>?_,fun z hz=>?_,fun z hz=>?_,fun z hz c hc=>?_,fun z hz h0=>?_,fun z hz=>?_⟩
 ·by_cases e:i=a
  ·subst e
   rw[zL (lt_of_get h)]at hz;cases hz;rw[e1];exact f.id _ _ h
  ·rw[zi e]at hz
   exact f.id _ _ hz
 ·rcases zW hz with hz | rfl
  ·exact f.d4 z hz
  ·rw[e2];exact f.d4 x hx
 ·rcases zW hz with hz | rfl
  ·exact f.k5 z hz
  ·rw[e4];exact f.k5 x hx
 ·have:∃ z0∈N,z0.d=z.d/\c∈z0.kids:=by
   rcases zW hz with hz | rfl
   ·exact⟨z,hz,rfl,hc⟩
   ·exact⟨x,hx,e2.symm,e4 ▸ hc⟩
  obtain⟨z0,h1,h2,h3⟩:=this;obtain⟨w,h4,h5⟩:=f.kd z0 h1 c h3;obtain⟨w',h6,h7⟩:=get c w h4;exact⟨w',h6,by rw[h7,h5,h2]⟩
 ·rcases zW hz with hz | rfl
  ·exact f.ak z hz h0
  ·rcases e3 with e3 | e3
   ·rw[e3];exact f.ak x hx (e2 ▸ h0)
   ·walk_at "o"
 ·by_cases e:i=0
  ·subst e
   rw[zL (lt_of_get h)]at hz;cases hz;rw[e2];exact f.r0 _ h
  ·rw[zi e]at hz
   exact f.r0 _ hz
theorem NF.add {N:List Nd}(f:NF as vs N){u new:Nd}(h:N[u.id]?=some u)(hu:okN u=true)(n1:new.id=N.length)(n2:new.d=u.d + 1)(n3:new.kids=[])(n4:new.a.length<=3/\∀ a∈new.a,AskIn a as vs):NF as vs (N.set u.id (kidU u N.length)++[new]):=by
 have hx:=zw h;have hd:=f.d4 u hx;unfold okN at hu;rw[zk]at hu;have u1:=of_decide_eq_true hu.1;have u2:=of_decide_eq_true hu.2;have get:∀ (a:Nat) (z:Nd),N[a]?=some z->∃ z',(N.set u.id (kidU u N.length)++[new])[a]?=some z'/\z'.d=z.d:=fun a z hz=>by
  rw[zd (by rw[zQ];exact lt_of_get hz)];by_cases e:u.id=a
  ·subst e
   rw[h]at hz;cases hz;exact⟨_,zL (lt_of_get h),rfl⟩
  ·exact⟨z,by rw[zi e];exact hz,rfl⟩
 have last:(N.set u.id (kidU u N.length)++[new])[N.length]?=some new:=by
  rw[zC (by rw[zQ];exact zr _),zQ,yN];rfl
 have cs:∀ z∈N.set u.id (kidU u N.length)++[new],z∈N\/z=kidU u N.length\/z=new:=fun z hz=>by
  rcases zN.mp hz with hz | hz
  ·rcases zW hz with hz | hz
   ·exact .inl hz
   ·exact .inr (.inl hz)
  ·exact .inr (.inr (zb.mp hz))
 refine⟨fun a z hz=>?_,fun z hz=>?_,fun z hz=>?_,fun z hz c hc=>?_,fun z hz h0=>?_,fun z hz=>?_⟩
 ·by_cases e:a < N.length
  ·rw[zd (by rw[zQ];exact e)]at hz
   by_cases e:u.id=a
   ·subst e
    rw[zL (lt_of_get h)]at hz;cases hz;rfl
   ·rw[zi e]at hz
    exact f.id _ _ hz
  ·have hl:=lt_of_get hz
   rw[zt,zQ,xl]at hl
   have:a=N.length:=by walk_at "o"
   subst this;rw[last]at hz;cases hz;exact n1
 ·rcases cs z hz with hz | rfl | rfl
  ·exact f.d4 z hz
  ·exact hd
  ·walk_at "o"
 ·rcases cs z hz with hz | rfl | rfl
  ·exact f.k5 z hz
  ·show (u.kids++[N.length]).length<=5
   rw[zt];show _ + 1<=_;walk_at "o"
  ·rw[n3];exact zI _
 ·rcases cs z hz with hz | rfl | rfl
  ·obtain⟨y,h1,h2⟩:=f.kd z hz c hc
   obtain⟨y',h3,h4⟩:=get c y h1;exact⟨y',h3,by rw[h4,h2]⟩
  ·rcases zN.mp (show c∈u.kids++[N.length] from hc) with hc | hc
   ·obtain⟨y,h1,h2⟩:=f.kd u hx c hc
    obtain⟨y',h3,h4⟩:=get c y h1;exact⟨y',h3,by rw[h4,h2];rfl⟩
   ·rw[zb.mp hc]
    exact⟨new,last,n2⟩
  ·rw[n3]at hc;cases hc
 ·rcases cs z hz with hz | rfl | rfl
  ·exact f.ak z hz h0
  ·exact f.ak u hx h0
  ·exact n4
 ·rw[zd (by rw[zQ];exact Nat.lt_of_le_of_lt (zI _) (lt_of_get h))]at hz
  by_cases e:u.id=0
  ·rw[e]at h hz
   rw[zL (lt_of_get h)]at hz;cases hz;exact f.r0 u h
  ·rw[zi e]at hz
   exact f.r0 _ hz
theorem pot_add {N:List Nd}{u new:Nd}(h:N[u.id]?=some u)(n2:new.d=u.d + 1)(n3:new.kids=[])(m:Nat):potN (N.set u.id (kidU u m)++[new])=potN N:=by
 rw[pot_snoc,pot_set _ h];unfold gW kidU;rw[n2,n3,zt];show potN N - (uW u.d - u.kids.length * uW (u.d + 1)) + (uW u.d - ((u.kids.length + 1:Nat):Int) * uW (u.d + 1)) + (uW (u.d + 1) - (0:Int) * _)=_;rw[Int.zero_mul,Int.natCast_add,Int.add_mul];generalize (u.kids.length:Int) * uW (u.d + 1)=A;show _ - (_ - A) + (_ - (A + 1 * uW (u.d + 1))) + _=_;walk_at "o"
theorem over_pos {N:List Nd}(hp:potN N=25)(hl:N.length<=19):0 < (N.filter okN).length:=by
 refine wb fun h0=>?_;have h1:=yA h0
 have:=pot_le N fun x hx=>by
  cases e:okN x with
  | false=>rfl
  | true =>
   have:x∈N.filter okN:=yE.mpr ⟨hx,e⟩
   rw[h1]at this;cases this
 walk_at "o"
noncomputable def trV:Nat->List Nd->Nat->Tr
 | 0,_,_=>.mk [] false [] 0 0 []
 | f + 1,N,n=>.mk (N.getD n nd0).a (N.getD n nd0).b (N.getD n nd0).n (1 + (n:Int)) (2 * (n:Int) + 1) ((N.getD n nd0).kids.map (trV f N))
theorem getD_of {N:List Nd}{n:Nat}{x:Nd}(h:N[n]?=some x):N.getD n nd0=x:=by rw[zg,h];rfl
theorem trV_s {f:Nat}{N:List Nd}{n:Nat}{x:Nd}(h:N[n]?=some x):trV (f + 1) N n=.mk x.a x.b x.n (1 + (n:Int)) (2 * (n:Int) + 1) (x.kids.map (trV f N)):=by
 rw[trV,getD_of h]
theorem trV_fit {N:List Nd}(nf:NF as vs N):∀ (f n:Nat) (x:Nd),N[n]?=some x->5<=x.d + f->Fit as vs f (trV f N n)
 | 0,n,x,h,h5=>by
  have:=nf.d4 x (zw h)
  walk_at "o"
 | f + 1,n,x,h,h5=>by
  have hm:=zw h;rw[trV_s h];refine⟨by show (x.kids.map (trV f N)).length<=5;rw[zz];exact nf.k5 x hm,fun s hs=>?_⟩;obtain⟨c,hc,rfl⟩:=zU.mp (show s∈x.kids.map (trV f N) from hs);obtain⟨y,h1,h2⟩:=nf.kd x hm c hc;refine⟨?_,trV_fit nf f c y h1 (by walk_at "o")⟩
  have:=nf.d4 y (zw h1)
  cases f with
  | zero=>walk_at "o"
  | succ f =>
   rw[trV_s h1];exact nf.ak y (zw h1) (by walk_at "o")
end
end Law
namespace Law
open PySem L3
section
variable {srt:List D->Option (List D)}{as vs:List Str}
noncomputable def kidsD (x:Nd):MO:=.lst (x.kids.map fun (n:Nat)=>.int (n:Int))
noncomputable def ndD (j:Nat)(x:Nd):MO:=.lst [.tup (x.a.map askD),.tup (x.n.map .str),.int (x.d:Int),.ob j,.bl x.b]
structure Rep (M:MH) (jN:Nat) (E:List (Nat×Nd)):Prop where
 l:M[jN]?=some (.lst (E.map fun e=>.ob (e.1 + 1)))
 lt:∀ (a b:Nat) (e e':Nat×Nd),E[a]?=some e->E[b]?=some e'->a < b->e.1 + 1 < e'.1
 o:∀ e∈E,jN < e.1/\M[e.1]?=some (kidsD e.2)/\M[e.1 + 1]?=some (ndD e.1 e.2)
theorem Rep.keep {M M':MH}{jN:Nat}{E:List (Nat×Nd)}(r:Rep M jN E)(g:Gr M M'):Rep M' jN E:=⟨g.keep _ _ r.l,r.lt,fun e he=>⟨(r.o e he).1,g.keep _ _ (r.o e he).2.1,g.keep _ _ (r.o e he).2.2⟩⟩
theorem row_w:∀ (f k:Nat) (M:MH) (jN:Nat) (E:List (Nat×Nd)) (n:Nat) (e:Nat×Nd),Rep M jN E->NF as vs (E.map (·.2))->E[n]?=some e->5<=e.2.d + f->n<=100->E.length<=100->∀ {Q:D->MH->Prop} (_:∀ (M':MH),Gr M M'->Q (trD (trV f (E.map (·.2)) n)) M'),
  W ((cx srt (k + f)).fn "_law_row" [.ob jN,.int (n:Int)]) M Q
 | 0,k,M,jN,E,n,e,_,nf,h,h5,_,_,Q,q=>by
  have:=nf.d4 e.2 (yh (zw h))
  walk_at "o"
 | f + 1,k,M,jN,E,n,e,R,nf,h,h5,hn,hE,Q,q=>by
  have big:=line_big;have hm:=zw h;have hN:(E.map (·.2))[n]?=some e.2:=by rw[zv,h];rfl
  have hmN:=zw hN;have hk5:=nf.k5 _ hmN;obtain⟨r1,r2,r3⟩:=R.o e hm;rw[show k + (f + 1)=k + f + 1 by walk_at "o",f__law_row,wf,b__law_row];walk_at "wq";refine⟨_,R.l,_,rfl,_,atD_nat (by rw[zv,h];rfl),?_⟩;walk_at "wq";refine⟨_,r3,_,rfl,_,rfl,?_⟩;walk_at "wq";refine⟨_,r3,_,rfl,_,rfl,_,r3,_,rfl,_,rfl,.inl ⟨by walk_at "o",by walk_at "o"⟩,zI _,_,r3,_,rfl,_,rfl,?_⟩;walk_at "wq";refine⟨_,r2,by rw[zz];walk_at "o",?_⟩;refine w_compI (fun m ys M'=>Gr M M'/\ys=((e.2.kids.take m).map fun c=>trD (trV f (E.map (·.2)) c))) ⟨Gr.refl,rfl⟩ (fun _ _ _ h=>h.1.keep _ _ r2) ?_ ?_
  ·rintro m d ys M' hd ⟨g,rfl⟩
   rw[zv]at hd;obtain⟨c,hc,rfl⟩:=zu.mp hd;obtain⟨y,y1,y2⟩:=nf.kd _ hmN c (zw hc);rw[zv]at y1;obtain⟨e',he',rfl⟩:=zu.mp y1;walk_at "wq";refine row_w f k M' jN E c e' (R.keep g) nf he' (by walk_at "o") (by have:=lt_of_get he';walk_at "o") hE fun M2 g2=>⟨g.trans g2,?_⟩;rw[zM,hc,zm];rfl
  ·rintro ys M' ⟨g,rfl⟩
   rw[zz,zH];walk_at "wq";refine⟨_,get_new _ _,?_⟩;walk_at "wq";refine⟨by walk_at "o",?_⟩;have q:=q _ (g.snoc (MO.lst (e.2.kids.map fun c=>trD (trV f (E.map (·.2)) c))));rw[trV_s hN,trD,trDs_eq,yw]at q;exact q
theorem Rep.add {M:MH}{jN k:Nat}{E:List (Nat×Nd)}{x:Nd}(R:Rep M jN E)(h1:M[k]?=some (kidsD x))(h2:M[k + 1]?=some (ndD k x))(hj:jN < k)(hE:∀ e∈E,e.1 + 1 < k):Rep (M.set jN (.lst ((E.map fun e=>.ob (e.1 + 1))++[.ob (k + 1)]))) jN (E++[(k,x)]):=by
 refine⟨?_,fun a b e e' ha hb hab=>?_,fun e he=>?_⟩
 ·rw[zm]
  exact set_get R.l
 ·by_cases hb':b < E.length
  ·rw[zd hb']at hb
   rw[zd (by walk_at "o")]at ha;exact R.lt a b e e' ha hb hab
  ·have hl:=lt_of_get hb
   rw[zt,xl]at hl
   have:b=E.length:=by walk_at "o"
   subst this;rw[zd (by walk_at "o")]at ha;rw[zC (zr _),yN]at hb;cases hb;exact hE e (zw ha)
 ·rcases zN.mp he with he | he
  ·obtain⟨o1,o2,o3⟩:=R.o e he
   rw[zi (by walk_at "o"),zi (by walk_at "o")];exact⟨o1,o2,o3⟩
  ·rw[zb.mp he]
   rw[zi (by walk_at "o"),zi (by walk_at "o")];exact⟨hj,h1,h2⟩
theorem Rep.other {M:MH}{jN j:Nat}{E:List (Nat×Nd)}(R:Rep M jN E)(o:MO)(hj:jN < j)(hE:∀ e∈E,e.1 + 1 < j):Rep (M.set j o) jN E:=by
 refine⟨by rw[zi (by walk_at "o")];exact R.l,R.lt,fun e he=>?_⟩;obtain⟨o1,o2,o3⟩:=R.o e he
 have:=hE e he
 rw[zi (by walk_at "o"),zi (by walk_at "o")];exact⟨o1,o2,o3⟩
theorem Rep.ne {M:MH}{jN a b:Nat}{E:List (Nat×Nd)}(R:Rep M jN E){e e':Nat×Nd}(ha:E[a]?=some e)(hb:E[b]?=some e')(h:a≠b):e.1 + 1 < e'.1\/e'.1 + 1 < e.1:=by
 rcases Nat.lt_or_gt_of_ne h with h | h
 ·exact .inl (R.lt a b e e' ha hb h)
 ·exact .inr (R.lt b a e' e hb ha h)
theorem Rep.upd {M:MH}{jN a j:Nat}{E:List (Nat×Nd)}(R:Rep M jN E){e:Nat×Nd}{y:Nd}{o:MO}(ha:E[a]?=some e)(hj:j=e.1\/j=e.1 + 1)(h1:(M.set j o)[e.1]?=some (kidsD y))(h2:(M.set j o)[e.1 + 1]?=some (ndD e.1 y)):Rep (M.set j o) jN (E.set a (e.1,y)):=by
 have hr:=(R.o e (zw ha)).1;have same:∀ (b:Nat) (z:Nat×Nd),(E.set a (e.1,y))[b]?=some z->∃ z0,E[b]?=some z0/\z0.1=z.1/\(b=a/\z=(e.1,y)\/b≠a/\z0=z):=fun b z hz=>by
  by_cases h:a=b
  ·subst h
   rw[zL (lt_of_get ha)]at hz;cases hz;exact⟨e,ha,rfl,.inl ⟨rfl,rfl⟩⟩
  ·rw[zi h]at hz
   exact⟨z,hz,rfl,.inr ⟨Ne.symm h,rfl⟩⟩
 refine⟨?_,fun b c z z' hb hc hbc=>?_,fun z hz=>?_⟩
 ·rw[zi (by walk_at "o"),R.l,xb]
  have hg:(E.map fun e=>D.ob (e.1 + 1))[a]?=some (.ob (e.1 + 1)):=by rw[zv,ha];rfl
  obtain⟨hlt,he⟩:=zp.mp hg;show _=some (MO.lst ((E.map fun e=>D.ob (e.1 + 1)).set a (.ob (e.1 + 1))));rw[<- he,List.set_getElem_self hlt]
 ·obtain⟨z0,h3,h4,_⟩:=same b z hb
  obtain⟨z1,h5,h6,_⟩:=same c z' hc
  have:=R.lt b c z0 z1 h3 h5 hbc
  walk_at "o"
 ·obtain⟨b,hb⟩:=wv hz
  obtain⟨z0,h3,h4,h5⟩:=same b z hb;rcases h5 with ⟨rfl,rfl⟩|⟨hne,rfl⟩
  ·exact⟨hr,h1,h2⟩
  ·obtain⟨o1,o2,o3⟩:=R.o z0 (zw h3)
   have:=R.ne ha h3 (Ne.symm hne)
   rw[zi (by walk_at "o"),zi (by walk_at "o")];exact⟨o1,o2,o3⟩
end
end Law
namespace Law
open PySem L3
section
variable {srt:List D->Option (List D)}{as vs:List Str}
theorem nds_len (sc:List Int)(i:Int)(as vs ns:List Str):∀ m:Nat,(ndsV sc i as vs ns m).length=m
 | 0=>rfl
 | m + 1=>by
  have ih:=nds_len sc i as vs ns m;rw[ndsV];unfold stepV;split
  ·rename_i h
   rw[h];rfl
  ·rw[zt,zQ,ih]
   rfl
theorem many_at (n:Nat)(h:n < 7):atD [D.int 0,D.int 1,D.int 1,D.int 2,D.int 1,D.int 1,D.int 3] (n:Int)=some (.int (manyA n:Int))/\manyA n<=3:=by
 rcases n with _ | _ | _ | _ | _ | _ | _ | n
 all_goals first | exact⟨rfl,by decide⟩ | walk_at "o"
theorem up_at (sc:List Int)(i:Int)(E O:List (Nat×Nd))(hO:E.filter (fun e=>okN e.2)=O)(hl:0 < O.length){f:Nat×Nd->D}:∃ (y:Int) (e:Nat×Nd),atD [D.int (-1),D.int (pickV sc (i + 11) O.length)] (pickV sc (i + 10) 2)=some (.int y)/\atD (O.map f) y=some (f e)/\e∈O/\upV sc i (E.map (·.2))=e.2:=by
 have hf:(E.map (·.2)).filter okN=O.map (·.2):=by rw[<- hO,vq];rfl
 obtain⟨v,hv,lv⟩:=pick_nat sc (i + 11) hl;obtain⟨w,hw,lw⟩:=pick_nat sc (i + 10) (m:=2) (by decide);rw[show ((2:Nat):Int)=2 from rfl]at hw;unfold upV;rw[hf,zz,hv,hw];have fin:∀ n:Nat,n < O.length->∃ e,O[n]?=some e/\e∈O/\(O.map (·.2)).getD n nd0=e.2:=fun n hn=>⟨O[n],zx hn,yG hn,getD_of (by rw[zv,zx hn];rfl)⟩
 have:w=0\/w=1:=by walk_at "o"
 rcases this with rfl | rfl
 ·rw[if_pos (show ((0:Nat):Int)=0 from rfl)]
  obtain⟨e,h1,h2,h3⟩:=fin (O.length - 1) (by walk_at "o");refine⟨-1,e,rfl,?_,h2,h3⟩;unfold atD ixD;rw[zz,if_neg (by walk_at "o"),if_pos (by walk_at "o")];show (O.map f)[(-1 + (O.length:Int)).toNat]?=_;rw[show (-1 + (O.length:Int)).toNat=O.length - 1 by walk_at "o",zv,h1];rfl
 ·rw[if_neg (by decide)]
  obtain⟨e,h1,h2,h3⟩:=fin v lv;exact⟨v,e,rfl,atD_nat (by rw[zv,h1];rfl),h2,h3⟩
theorem nodes_w (k:Nat)(sc:List Int)(i:Int)(many:Nat)(M:MH){d:D}{ns:List Str}{ot:Str}(P:Pool M d as vs ns ot)(h0:0<=i)(h1:i<=1000)(hm:many<=19){Q:D->MH->Prop}(q:∀ (jN:Nat) (E:List (Nat×Nd)) (M':MH),Gr M M'->M.length<=jN->Rep M' jN E->NF as vs (E.map (·.2))->E.map (·.2)=ndsV sc i as vs ns (many + 1)->Q (.ob jN) M') :
  W ((cx srt (k + 5)).fn "_law_nodes" [.fl (sc.map .int),.int i,.int (many:Int),d]) M Q:=by
 have big:=line_big;rw[f__law_nodes,wf,b__law_nodes];walk_at "wq";refine⟨by walk_at "o",⟨by walk_at "o",by walk_at "o"⟩,?_⟩;have n0:(M++[MO.lst []])[M.length]?=some (.lst []):=get_new _ _;have g0:Gr M (M++[MO.lst []]):=Gr.app _ _;generalize M++[MO.lst []]=M0 at n0 g0 ⊢;refine w_loop (fun m ρ M'=>Gr M M'/\(∃ E:List (Nat×Nd),Rep M' M.length E/\NF as vs (E.map (·.2))/\E.map (·.2)=ndsV sc i as vs ns m/\(m≠0->potN (E.map (·.2))=25))/\∃ x5 x6 x7 x8 x9 x10 x11 x12,ρ=[some (.fl (sc.map .int)),some (.int i),some (.int (many:Int)),some d,some (.ob M.length),x5,x6,x7,x8,x9,x10,x11,x12])
  ⟨g0,⟨[],⟨n0,(fun _ _ _ _ h=>nomatch h),(fun _ h=>nomatch h)⟩,NF.nil,rfl,fun h=>absurd rfl h⟩,_,_,_,_,_,_,_,_,rfl⟩ (fun _ _ _ _=>trivial) ?_ ?_
 ·rintro m d' ρ M1 hd ⟨g1,⟨E,R,nf,eN,pot⟩,x5,x6,x7,x8,x9,x10,x11,x12,rfl⟩
  obtain⟨rfl,hmm⟩:=rng_get hd;rw[xc];have P1:=P.keep g1;obtain⟨ia,iv,iN,rfl,p2,p3,p4⟩:=P1.is;have hl:E.length=m:=by rw[<- zz (f:=(·.2)),eN,nds_len]
  have hm19:m<=19:=by walk_at "o"
  obtain⟨v12,h12,l12⟩:=pick_nat sc (i + 16 * (m:Int) + 12) (m:=7) (by decide);obtain⟨v13,h13,l13⟩:=pick_nat sc (i + 16 * (m:Int) + 13) (m:=6) (by decide);obtain⟨v14,h14,l14⟩:=pick_nat sc (i + 16 * (m:Int) + 14) (m:=4) (by decide);rw[show ((7:Nat):Int)=7 from rfl]at h12;rw[show ((6:Nat):Int)=6 from rfl]at h13;rw[show ((4:Nat):Int)=4 from rfl]at h14;obtain⟨ma,mb⟩:=many_at v12 l12;walk_at "wq";refine⟨.inl ⟨by walk_at "o",by walk_at "o"⟩,by walk_at "o",pick_w (k + 2) sc _ _ _ (by walk_at "o") (by walk_at "o") (by decide) ?_⟩;rw[h12];walk_at "wq";refine⟨_,get_new _ _,?_⟩;walk_at "wq";refine⟨_,ma,?_⟩;have g2:Gr M1 (M1++[MO.lst [D.int 0,D.int 1,D.int 1,D.int 2,D.int 1,D.int 1,D.int 3]]):=Gr.app _ _;generalize M1++[MO.lst [D.int 0,D.int 1,D.int 1,D.int 2,D.int 1,D.int 1,D.int 3]]=M2 at g2 ⊢;refine askings_w k sc _ _ M2 (P1.keep g2) (by walk_at "o") (by walk_at "o") (by walk_at "o") fun M3 hin g3=>?_;replace g3:=g2.trans g3;have hnew:(newV sc (i + 16 * (m:Int)) as vs ns 0 m).a.length<=3/\∀ a∈(newV sc (i + 16 * (m:Int)) as vs ns 0 m).a,AskIn a as vs:=by
   unfold newV;rw[h12];exact⟨by rw[zz,zR];exact mb,hin⟩
  walk_at "wq";refine pick_w (k + 2) sc _ _ _ (by walk_at "o") (by walk_at "o") (by decide) ?_;rw[h13];walk_at "wq";have p4':=g3.keep _ _ p4;refine⟨_,p4',_,(Gr.app _ _).keep _ _ p4',?_⟩;rw[cut_lo _ (by walk_at "o"),cut_hi _ (by walk_at "o")];have et:(v13:Int).toNat=v13:=rfl;rw[et];refine⟨_,(Gr.app _ _).keep _ _ (get_new _ _),_,get_new _ _,?_,?_⟩
  ·rw[zS,ze,zz,P1.n6];walk_at "o"
  rw[<- yZ,<- zV,<- zm];have g4:Gr M1 (M3++[MO.lst ((ns.drop v13).map .str)]++[MO.lst ((ns.take v13).map .str)]):=(g3.snoc _).snoc _;generalize M3++[MO.lst ((ns.drop v13).map .str)]++[MO.lst ((ns.take v13).map .str)]=M4 at g4 ⊢;refine pick_w (k + 2) sc _ _ _ (by walk_at "o") (by walk_at "o") (by decide) ?_;rw[h14];walk_at "wq";refine⟨_,get_new _ _,?_⟩;rw[cut_hi _ (by walk_at "o"),<- zV];have et:(v14:Int).toNat=v14:=rfl;rw[et];walk_at "wq";generalize hA:(List.range (manyA v12)).map (fun (j:Nat)=>askV sc (i + 16 * (m:Int) + 4 * (j:Int)) as vs)=A;generalize hB:(ns.drop v13++ns.take v13).take v14=B;have n5:(M4++[MO.lst ((ns.drop v13++ns.take v13).map .str)]++[MO.lst (B.map .str)])[(M4++[MO.lst ((ns.drop v13++ns.take v13).map .str)]).length]?=some (.lst (B.map .str)):=get_new _ _;have g5:Gr M1 (M4++[MO.lst ((ns.drop v13++ns.take v13).map .str)]++[MO.lst (B.map .str)]):=(g4.snoc _).snoc _;generalize M4++[MO.lst ((ns.drop v13++ns.take v13).map .str)]++[MO.lst (B.map .str)]=M5 at n5 g5 ⊢;generalize (M4++[MO.lst ((ns.drop v13++ns.take v13).map .str)]).length=j9 at n5 ⊢;have R5:=R.keep g5;refine⟨_,R5.l,by rw[zz];walk_at "o",?_⟩;refine w_compI (fun n ys M'=>M'=M5/\ys=((E.take n).filter fun e=>okN e.2).map fun e=>.ob (e.1 + 1)) ⟨rfl,rfl⟩ (fun _ _ _ h=>h.1 ▸ R5.l) ?_ ?_
  ·rintro n dd ys M' hd ⟨rfl,rfl⟩
   rw[zv]at hd;obtain⟨e,he,rfl⟩:=zu.mp hd;obtain⟨o1,o2,o3⟩:=R5.o e (zw he);have es:(E.take (n + 1)).filter (fun e=>okN e.2)=(E.take n).filter (fun e=>okN e.2)++(if okN e.2 then [e] else []):=by
    rw[zM,he,xF];congr 1;show [e].filter _=_;rw[wQ];rfl
   walk_at "wq";refine⟨_,o3,_,rfl,_,rfl,?_⟩;walk_at "wq";rw[es];have e4:decide ((e.2.d:Int) < 4)=decide (e.2.d < 4):=by apply decide_eq_decide.mpr;walk_at "o"
   have e5:okN e.2=(decide (e.2.d < 4)&&decide (e.2.kids.length < 5)):=rfl;rw[e4,e5];refine⟨fun h=>?_,fun h=>by rw[h,xY];simp⟩;rw[h];refine⟨_,o3,_,rfl,_,rfl,?_⟩;walk_at "wq";refine⟨_,o2,?_⟩;walk_at "wq";have e6:decide (lenO (kidsD e.2) < 5)=decide (e.2.kids.length < 5):=by
    unfold kidsD;rw[k_lenl,zz];apply decide_eq_decide.mpr;walk_at "o"
   rw[e6,yb];exact⟨fun h=>by rw[h,zm];rfl,fun h=>by rw[h];simp⟩
  ·rintro ys M' ⟨rfl,rfl⟩
   rw[zz,zH];walk_at "wq";generalize hO:E.filter (fun e=>okN e.2)=O;refine⟨_,(Gr.app _ _).keep _ _ n5,zI _,pick_w (k + 2) sc _ _ _ (by walk_at "o") (by walk_at "o") (by decide) ?_⟩;walk_at "wq";refine⟨by walk_at "o",?_⟩;generalize hb:(pickV sc (i + 16 * (m:Int) + 15) 3==0)=b15;have hnw:∀ dd,newV sc (i + 16 * (m:Int)) as vs ns dd m=⟨A,B,dd,[],b15,m⟩:=fun dd=>by
    unfold newV;rw[h12,h13,h14,<- hA,<- hB,<- hb];rfl
   have hak:A.length<=3/\∀ a∈A,AskIn a as vs:=by rw[hnw 0]at hnew;exact hnew
   have l0:M.length < M1.length:=lt_of_get R.l;have lE:∀ e∈E,e.1 + 1 < M1.length:=fun e he=>lt_of_get (R.o e he).2.2;generalize hM6:M'++[MO.lst (O.map fun e=>D.ob (e.1 + 1))]=M6;have g6:Gr M1 M6:=hM6 ▸ g5.snoc _;have n6:M6[M'.length]?=some (.lst (O.map fun e=>D.ob (e.1 + 1))):=hM6 ▸ get_new _ _;have k1:(M6++[MO.lst []]++[MO.lst [D.tup (A.map askD),D.tup (B.map .str),D.int 0,D.ob M6.length,D.bl b15]])[M6.length]?=some (kidsD ⟨A,B,0,[],b15,m⟩):=(Gr.app _ _).keep _ _ (get_new _ _);have k2:(M6++[MO.lst []]++[MO.lst [D.tup (A.map askD),D.tup (B.map .str),D.int 0,D.ob M6.length,D.bl b15]])[M6.length + 1]?=some (ndD M6.length ⟨A,B,0,[],b15,m⟩):=by
    have:=get_new (M6++[MO.lst []]) (MO.lst [D.tup (A.map askD),D.tup (B.map .str),D.int 0,D.ob M6.length,D.bl b15])
    rw[zt]at this;exact this
   have g7:Gr M6 (M6++[MO.lst []]++[MO.lst [D.tup (A.map askD),D.tup (B.map .str),D.int 0,D.ob M6.length,D.bl b15]]):=(Gr.app _ _).snoc _;have el:(M6++[MO.lst []]).length=M6.length + 1:=zt;have l6:=g6.len;rw[el];generalize M6++[MO.lst []]++[MO.lst [D.tup (A.map askD),D.tup (B.map .str),D.int 0,D.ob M6.length,D.bl b15]]=M7 at k1 k2 g7 ⊢;have n7:=g7.keep _ _ n6;have R7:=R.keep (g6.trans g7);have G7:=g1.trans (g6.trans g7);generalize M6.length=kk at k1 k2 l6 ⊢;refine⟨fun h=>?_,fun h=>?_⟩
   ·have hm0:m≠0:=by have:=of_decide_eq_true h;walk_at "o"
    have pot:=pot hm0;have hol:0 < O.length:=by
     have:=over_pos pot (by rw[zz,hl];exact hm19)
     rw[vq,zz]at this;rw[<- hO];exact this
    obtain⟨y,e,y1,y2,y3,y4⟩:=up_at sc (i + 16 * (m:Int)) E O hO hol (f:=fun e=>.ob (e.1 + 1));refine⟨_,n7,?_⟩;rw[k_lenl,zz];refine pick_w (k + 2) sc _ _ _ (by walk_at "o") (by walk_at "o") (by walk_at "o") ?_;walk_at "wq";refine⟨by walk_at "o",pick_w (k + 2) sc _ _ _ (by walk_at "o") (by walk_at "o") (by decide) ?_⟩;walk_at "wq";refine⟨_,get_new _ _,_,rfl,_,y1,?_⟩;walk_at "wq";refine⟨_,(Gr.app _ _).keep _ _ n7,_,rfl,_,y2,?_⟩;walk_at "wq";have g8:Gr M7 (M7++[MO.lst [D.int (-1),D.int (pickV sc (i + 16 * (m:Int) + 11) O.length)]]):=Gr.app _ _;generalize M7++[MO.lst [D.int (-1),D.int (pickV sc (i + 16 * (m:Int) + 11) O.length)]]=M8 at g8 ⊢;have R8:=R7.keep g8;have G8:=G7.trans g8;rw[<- hO]at y3;obtain⟨eE,eok⟩:=yE.mp y3;obtain⟨a,hea⟩:=wv eE;have hNa:(E.map (·.2))[a]?=some e.2:=by rw[zv,hea];rfl
    have hid:=nf.id _ _ hNa;obtain⟨o1,o2,o3⟩:=R8.o e eE;have hle:=lE e eE;refine⟨_,o3,_,rfl,_,rfl,?_⟩;walk_at "wq";have k2':M8[kk + 1]?=some (MO.lst [D.tup (A.map askD),D.tup (B.map .str),D.int 0,D.ob kk,D.bl b15]):=g8.keep _ _ k2;refine⟨_,k2',?_⟩;walk_at "wq";refine⟨2,rfl,?_⟩;walk_at "wq";have R9:=R8.other (MO.lst [D.tup (A.map askD),D.tup (B.map .str),D.int ((e.2.d:Int) + 1),D.ob kk,D.bl b15]) (j:=kk + 1) (by walk_at "o") fun e he=>by have:=lE e he;walk_at "o"
    have c1:(M8.set (kk + 1) (MO.lst [D.tup (A.map askD),D.tup (B.map .str),D.int ((e.2.d:Int) + 1),D.ob kk,D.bl b15]))[kk]?=some (kidsD ⟨A,B,e.2.d + 1,[],b15,m⟩):=by
     rw[zi (by walk_at "o")];exact g8.keep _ _ k1
    have c2:(M8.set (kk + 1) (MO.lst [D.tup (A.map askD),D.tup (B.map .str),D.int ((e.2.d:Int) + 1),D.ob kk,D.bl b15]))[kk + 1]?=some (ndD kk ⟨A,B,e.2.d + 1,[],b15,m⟩):=set_get (g8.keep _ _ k2);have G9:Gr M (M8.set (kk + 1) (MO.lst [D.tup (A.map askD),D.tup (B.map .str),D.int ((e.2.d:Int) + 1),D.ob kk,D.bl b15])):=G8.set (by walk_at "o") _;generalize M8.set (kk + 1) (MO.lst [D.tup (A.map askD),D.tup (B.map .str),D.int ((e.2.d:Int) + 1),D.ob kk,D.bl b15])=M9 at R9 c1 c2 G9 ⊢;obtain⟨o1,o2,o3⟩:=R9.o e eE;refine⟨_,o3,_,rfl,_,rfl,?_⟩;walk_at "wq";have hk5:e.2.kids.length<=5:=nf.k5 _ (zw hNa);refine⟨_,o2,_,o2,by rw[zz];walk_at "o",?_⟩;have ek:(MO.lst ((e.2.kids.map fun (n:Nat)=>D.int (n:Int))++[D.int (m:Int)]))=kidsD (kidU e.2 m):=by
     unfold kidsD kidU;rw[zm];rfl
    rw[ek];have R10:=R9.upd (j:=e.1) (o:=kidsD (kidU e.2 m)) (y:=kidU e.2 m) hea (.inl rfl) (set_get o2) (by rw[zi (by walk_at "o")];exact o3);have c1':(M9.set e.1 (kidsD (kidU e.2 m)))[kk]?=some (kidsD ⟨A,B,e.2.d + 1,[],b15,m⟩):=by
     rw[zi (by walk_at "o")];exact c1
    have c2':(M9.set e.1 (kidsD (kidU e.2 m)))[kk + 1]?=some (ndD kk ⟨A,B,e.2.d + 1,[],b15,m⟩):=by
     rw[zi (by walk_at "o")];exact c2
    have G10:Gr M (M9.set e.1 (kidsD (kidU e.2 m))):=G9.set (by walk_at "o") _;generalize M9.set e.1 (kidsD (kidU e.2 m))=M10 at R10 c1' c2' G10 ⊢;walk_at "wq";have em:(E.set a (e.1,kidU e.2 m)).map (·.2)=(E.map (·.2)).set e.2.id (kidU e.2 m):=by rw[xb,hid]
    rw[<- hid]at hNa;have hnl:(E.map (·.2)).length=m:=by rw[zz,hl]
    refine⟨_,R10.l,_,R10.l,by rw[zz,zQ];walk_at "o",G10.set (zr _) _,⟨_,R10.add c1' c2' (by walk_at "o") fun z hz=>?_,?_,?_,?_⟩,_,_,_,_,_,_,_,_,rfl⟩
    ·rcases zW hz with hz | rfl
     ·have:=lE z hz
      walk_at "o"
     ·show e.1 + 1 < kk
      walk_at "o"
    ·rw[zm,em]
     have:=nf.add (u:=e.2) (new:=⟨A,B,e.2.d + 1,[],b15,m⟩) hNa eok hnl.symm rfl rfl hak
     rw[hnl]at this;exact this
    ·rw[zm,em,ndsV]
     unfold stepV;rw[if_neg hm0,<- eN,y4,hnw];rfl
    ·intro _
     rw[zm,em];rw[<- pot];exact pot_add (u:=e.2) (new:=⟨A,B,e.2.d + 1,[],b15,m⟩) hNa rfl rfl m
   ·have hm0:m=0:=by have:=of_decide_eq_false h;walk_at "o"
    subst hm0;have hE:E=[]:=yA hl;refine⟨_,R7.l,_,R7.l,by rw[zz];walk_at "o",G7.set (zr _) _,⟨_,R7.add k1 k2 (by walk_at "o") fun e he=>zB (lE e he) l6,?_,?_,?_⟩,_,_,_,_,_,_,_,_,rfl⟩
    ·rw[hE]
     refine⟨fun a x hx=>?_,fun x hx=>?_,fun x hx=>?_,fun x hx c hc=>?_,fun x hx h0=>?_,fun x hx=>by cases hx;rfl⟩
     ·have:=lt_of_get hx
      have:a=0:=by simpa using this
      subst this;cases hx;rfl
     all_goals
      rw[zb.mp hx]at *
     ·exact zI _
     ·exact zI _
     ·cases hc
     ·exact hak
    ·rw[hE,ndsV]
     unfold stepV;rw[if_pos rfl,hnw 0];rfl
    ·rw[hE]
     intro _;rfl
 ·rintro ρ M1 ⟨g1,⟨E,R,nf,eN,pot⟩,x5,x6,x7,x8,x9,x10,x11,x12,rfl⟩
  rw[rng_len]at eN;walk_at "wq";exact q _ E M1 g1 (zr _) R nf (by rw[eN];congr 1)
end
end Law
namespace Law
open PySem L3
section
variable {srt:List D->Option (List D)}{as vs:List Str}
noncomputable def rootA (x:Nd)(nm ot:Str):Nd:={ x with a:=[⟨"is",nm,[ot]⟩] }
noncomputable def treeV (sc:List Int)(as vs ns:List Str)(ot:Str)(many:Nat):Tr:=trV 5 ((ndsV sc 28 as vs ns (many + 1)).set 0 (rootA ((ndsV sc 28 as vs ns (many + 1)).getD 0 nd0) (ns.getD 5 "") ot)) 0
theorem last6 {ns:List Str}(h:ns.length=6):atD (ns.map D.str) (-1)=some (.str (ns.getD 5 "")):=by
 unfold atD ixD;rw[zz,h,if_neg (by decide),if_pos (by decide)];show (ns.map D.str)[5]?=_;rw[zv,zg,zx (by walk_at "o")];rfl
theorem tree_w (k:Nat)(sc:List Int)(many:Nat)(M:MH){d:D}{ns:List Str}{ot:Str}(P:Pool M d as vs ns ot)(hm:many<=19){Q:D->MH->Prop}(q:∀ M',Gr M M'->Fit as vs 5 (treeV sc as vs ns ot many)->Q (trD (treeV sc as vs ns ot many)) M') :
  W ((cx srt (k + 6)).fn "_law_tree" [.fl (sc.map .int),.int 28,.int (many:Int),d]) M Q:=by
 have big:=line_big;rw[f__law_tree,wf,b__law_tree];walk_at "wq";refine nodes_w k sc 28 many M P (by decide) (by decide) hm fun jN E M1 g1 hj R nf eN=>?_;obtain⟨ia,iv,iN,rfl,p2,p3,p4⟩:=(P.keep g1).is;have hl:E.length=many + 1:=by rw[<- zz (f:=(·.2)),eN,nds_len]
 have h0:∃ e,E[0]?=some e:=⟨E[0],zx (by walk_at "o")⟩;obtain⟨e,he⟩:=h0;have hN:(E.map (·.2))[0]?=some e.2:=by rw[zv,he];rfl
 obtain⟨o1,o2,o3⟩:=R.o e (zw he);walk_at "wq";refine⟨_,p4,?_⟩;walk_at "wq";refine⟨_,last6 P.n6,by walk_at "o",?_⟩;refine⟨by walk_at "o",by walk_at "o",_,R.l,_,rfl,_,atD_nat (j:=0) (by rw[zv,he];rfl),?_⟩;walk_at "wq";have o3':M1[e.1 + 1]?=some (MO.lst [.tup (e.2.a.map askD),.tup (e.2.n.map .str),.int (e.2.d:Int),.ob e.1,.bl e.2.b]):=o3;refine⟨_,o3',?_⟩;walk_at "wq";refine⟨0,rfl,?_⟩;walk_at "wq";have R2:=R.upd (j:=e.1 + 1) (o:=ndD e.1 (rootA e.2 (ns.getD 5 "") ot)) (y:=rootA e.2 (ns.getD 5 "") ot) he (.inr rfl) (by rw[zi (by walk_at "o")];exact o2) (set_get o3);have em:(E.set 0 (e.1,rootA e.2 (ns.getD 5 "") ot)).map (·.2)=(E.map (·.2)).set 0 (rootA e.2 (ns.getD 5 "") ot):=xb;have nf2:NF as vs ((E.set 0 (e.1,rootA e.2 (ns.getD 5 "") ot)).map (·.2)):=by
  rw[em];exact nf.set hN rfl rfl (.inr (nf.r0 _ hN)) rfl
 have hE0:(E.set 0 (e.1,rootA e.2 (ns.getD 5 "") ot))[0]?=some (e.1,rootA e.2 (ns.getD 5 "") ot):=zL (by walk_at "o");have et:trV 5 ((E.set 0 (e.1,rootA e.2 (ns.getD 5 "") ot)).map (·.2)) 0=treeV sc as vs ns ot many:=by
  unfold treeV;rw[em,<- eN,getD_of hN]
 have hfit:=trV_fit nf2 5 0 (rootA e.2 (ns.getD 5 "") ot) (by rw[zv,hE0];rfl) (xV _ _);rw[et]at hfit;have g2:Gr M (M1.set (e.1 + 1) (ndD e.1 (rootA e.2 (ns.getD 5 "") ot))):=g1.set (by walk_at "o") _;exact row_w 5 k _ jN _ 0 _ R2 nf2 hE0 (xV _ _) (zI _) (by rw[zQ];walk_at "o") fun M3 g3=>by rw[et];exact q _ (g2.trans g3) hfit
end
end Law
namespace Law
open PySem L3
section
variable {srt:List D->Option (List D)}
noncomputable abbrev Vl:=Option Str
noncomputable def vD:Vl->D
 | none=>.non
 | some s=>.str s
noncomputable abbrev Kn:=List (Str×Vl)
noncomputable def pvD (p:Str×Vl):D:=.tup [.str p.1,vD p.2]
noncomputable def knD (kn:Kn):D:=.tup (kn.map pvD)
noncomputable def knows (kn:Kn)(n:Str):Bool:=kn.any fun p=>p.1==n
noncomputable def valK (kn:Kn)(n:Str):Vl:=((kn.find? fun p=>decide (p.1=n)).map (·.2)).getD (some ("" : Str))
noncomputable def inV (vs:List Str)(v:Vl):Bool:=match v with
 | none=>false
 | some s=>vs.contains s
noncomputable def metV (a:Ask)(v:Vl):Bool:=if a.w = "is" then inV a.vs v else if a.w = "no" then !inV a.vs v else if a.w = "there" then !decide (v=some ("" : Str)) else decide (v=some ("" : Str))
noncomputable def meetK (a:Ask)(kn:Kn):Bool:=if a.w = "is" then inV a.vs (valK kn a.n) else if a.w = "no" then !inV a.vs (valK kn a.n) else if a.w = "there" then knows kn a.n else !knows kn a.n
theorem flat_vD (v:Vl):flatD (vD v)=true:=by cases v <;> rfl
theorem eqF_vD (v w:Vl):eqF (vD v) (vD w)=decide (v=w):=by
 cases v with
 | none=>cases w <;> simp[vD,eqF]
 | some s =>
  cases w with
  | none=>simp[vD,eqF]
  | some r =>
   show (s==r)=_;rw[yz];simp
theorem eo_vD {M:MH}{n:Nat}(v w:Vl):eqO M (n + 1) (vD v) (vD w)=some (decide (v=w)):=by rw[eo_flat (flat_vD v) (flat_vD w),eqF_vD]
theorem in_vD {M:MH}(vs:List Str)(v:Vl):inL M (vD v) (vs.map .str)=some (inV vs v):=by
 rw[inL_flat (flat_vD v) (by rw[xf,yu];exact fun _ _=>rfl)];congr 1;rw[xS];cases v with
 | none =>
  show (vs.any fun x=>eqF (.str x) .non)=false;rw[yO];exact fun x _=>by simp[eqF]
 | some s =>
  show (vs.any fun x=>x==s)=vs.contains s;rw[List.contains_eq_any_beq];congr 1;funext x;exact Bool.beq_comm
theorem hasName_k (k:Nat)(M:MH)(kn:Kn)(n:Str)(hl:kn.length<=1000){Q:D->MH->Prop}(q:∀ M',Gr M M'->Q (.bl (knows kn n)) M'):W ((cx srt (k + 1)).fn "has_name" [knD kn,.str n]) M Q:=by
 have big:=line_big;rw[f_has_name,wf,b_has_name,knD];walk_at "wq";refine⟨by rw[zz];walk_at "o",?_⟩;refine w_compI (fun j ys M'=>M'=M/\ys=((kn.take j).map fun p=>p.1==n).map D.bl) ⟨rfl,rfl⟩ (fun _ _ _ _=>trivial) ?_ ?_
 ·rintro j d ys M' hd ⟨rfl,rfl⟩
  rw[zv]at hd;obtain⟨p,hp,rfl⟩:=zu.mp hd;unfold pvD;walk_at "wq";rw[zM,hp];simp
 ·rintro ys M' ⟨rfl,rfl⟩
  rw[zz,zH];walk_at "wq";refine⟨_,get_new _ _,_,mapM_bools _,?_⟩;rw[xS];exact q _ (Gr.app _ _)
theorem valueIn_k (k:Nat)(M:MH)(kn:Kn)(n:Str){Q:D->MH->Prop}(q:Q (vD (valK kn n)) M):W ((cx srt (k + 1)).fn "value_in" [knD kn,.str n]) M Q:=by
 rw[f_value_in,wf,b_value_in,knD];walk_at "wq";refine w_loop (fun j ρ M'=>M'=M/\(∀ p∈kn.take j,p.1≠n)/\∃ x,ρ=[some (.tup (kn.map pvD)),some (.str n),x]) ⟨rfl,by simp,none,rfl⟩ (fun _ _ _ _=>trivial) ?_ ?_
 ·rintro j d ρ M' hd ⟨rfl,hne,x,rfl⟩
  rw[zv]at hd;obtain⟨p,hp,rfl⟩:=zu.mp hd;obtain⟨hlt,hg⟩:=zp.mp hp;unfold pvD;walk_at "wq";refine⟨fun h=>?_,fun h=>⟨fun y hy=>?_,_,rfl⟩⟩
  ·have e:kn.find? (fun p=>decide (p.1=n))=some p:=by
    rw[List.find?_eq_some_iff_getElem];refine⟨by simpa using h,j,hlt,hg,fun i hi=>?_⟩;simpa using hne kn[i] (xH.mpr ⟨i,by walk_at "o",rfl⟩)
   unfold valK at q;rw[e]at q;exact q
  ·rw[zM,hp]at hy
   rcases zN.mp hy with hy | hy
   ·exact hne y hy
   ·simp at hy
    subst hy;simpa using h
 ·rintro ρ M' ⟨rfl,hne,x,rfl⟩
  rw[zz,zH]at hne;walk_at "wq";unfold valK at q;rw[xG.mpr (fun p hp=>by simpa using hne p hp)]at q;exact q
theorem meets_k (k:Nat)(M:MH)(a:Ask)(kn:Kn)(hl:kn.length<=1000){Q:D->MH->Prop}(q:∀ M',Gr M M'->Q (.bl (meetK a kn)) M'):W ((cx srt (k + 2)).fn "meets" [askD a,knD kn]) M Q:=by
 rw[f_meets,wf,b_meets];unfold askD;unfold meetK at q;walk_at "wq";refine⟨fun h1=>?_,fun h1=>⟨fun h2=>?_,fun h2=>⟨fun h3=>?_,fun h3=>?_⟩⟩⟩
 ·rw[if_pos (by simpa using h1)]at q
  walk_at "wq";refine valueIn_k k M kn a.n ?_;walk_at "wq";rw[in_vD];exact⟨_,rfl,q _ Gr.refl⟩
 ·rw[if_neg (by simpa using h1),if_pos (by simpa using h2)]at q
  walk_at "wq";refine valueIn_k k M kn a.n ?_;walk_at "wq";rw[in_vD];exact⟨_,rfl,q _ Gr.refl⟩
 ·rw[if_neg (by simpa using h1),if_neg (by simpa using h2),if_pos (by simpa using h3)]at q
  walk_at "wq";refine hasName_k k M kn a.n hl fun M' g=>?_;walk_at "wq";exact q _ g
 ·rw[if_neg (by simpa using h1),if_neg (by simpa using h2),if_neg (by simpa using h3)]at q
  walk_at "wq";refine hasName_k k M kn a.n hl fun M' g=>?_;walk_at "wq";exact q _ g
theorem meetsAll_k (k:Nat)(M:MH)(xs:List Ask)(kn:Kn)(hx:xs.length<=1000)(hl:kn.length<=1000){Q:D->MH->Prop}(q:∀ M',Gr M M'->Q (.bl (xs.all fun a=>meetK a kn)) M'):W ((cx srt (k + 3)).fn "meets_all" [.tup (xs.map askD),knD kn]) M Q:=by
 have big:=line_big;rw[f_meets_all,wf,b_meets_all];walk_at "wq";refine⟨by rw[zz];walk_at "o",?_⟩;refine w_compI (fun j ys M'=>Gr M M'/\ys=((xs.take j).map fun a=>meetK a kn).map D.bl) ⟨Gr.refl,rfl⟩ (fun _ _ _ _=>trivial) ?_ ?_
 ·rintro j d ys M' hd ⟨g,rfl⟩
  rw[zv]at hd;obtain⟨a,ha,rfl⟩:=zu.mp hd;walk_at "wq";refine meets_k k M' a kn hl fun M2 g2=>?_;rw[zM,ha];exact⟨g.trans g2,by simp⟩
 ·rintro ys M' ⟨g,rfl⟩
  rw[zz,zH];walk_at "wq";refine⟨_,get_new _ _,_,mapM_bools _,?_⟩;rw[xf];exact q _ (g.snoc _)
noncomputable def marksK (kn:Kn):Kn:=kn.filter fun p=>!decide (p.2=some ("" : Str))
theorem marksSplit_w (k:Nat)(M:MH)(kn:Kn)(hl:kn.length<=1000){Q:D->MH->Prop}(q:∀ M',Gr M M'->Q (knD (marksK kn)) M'):W ((cx srt (k + 1)).fn "marks_split" [knD kn]) M Q:=by
 have big:=line_big;rw[f_marks_split,wf,b_marks_split,knD];walk_at "wq";refine⟨by rw[zz];walk_at "o",?_⟩;refine w_compI (fun j ys M'=>M'=M/\ys=(marksK (kn.take j)).map pvD) ⟨rfl,rfl⟩ (fun _ _ _ _=>trivial) ?_ ?_
 ·rintro j d ys M' hd ⟨rfl,rfl⟩
  rw[zv]at hd;obtain⟨p,hp,rfl⟩:=zu.mp hd;have ep:pvD p=.tup [.str p.1,vD p.2]:=rfl;rw[ep];walk_at "wq";rw[p_ne];refine⟨_,eo_vD p.2 (some ("" : Str)),?_⟩;unfold marksK;rw[zM,hp,xF,zm];walk_at "wq";refine⟨fun h=>?_,fun h=>?_⟩
  ·simp[h,ep]
  ·simp[h]
 ·rintro ys M' ⟨rfl,rfl⟩
  rw[zz,zH];walk_at "wq";exact⟨_,get_new _ _,q _ (Gr.app _ _)⟩
theorem lawMet_k (k:Nat)(M:MH)(a:Ask)(v:Vl){Q:D->MH->Prop}(q:Q (.bl (metV a v)) M):W ((cx srt (k + 1)).fn "_law_met" [askD a,vD v]) M Q:=by
 rw[f__law_met,wf,b__law_met];unfold askD;unfold metV at q;walk_at "wq";refine⟨fun h1=>?_,fun h1=>⟨fun h2=>?_,fun h2=>?_⟩⟩
 ·rw[if_pos (by simpa using h1)]at q
  walk_at "wq";rw[in_vD];exact⟨_,rfl,q⟩
 ·rw[if_neg (by simpa using h1),if_pos (by simpa using h2)]at q
  walk_at "wq";rw[in_vD];exact⟨_,rfl,q⟩
 ·rw[if_neg (by simpa using h1),if_neg (by simpa using h2)]at q
  walk_at "wq";rw[p_ne];refine⟨_,eo_vD v (some ("" : Str)),?_⟩;walk_at "wq";have e:((!decide (v=some ("" : Str)))==(a.w=="there"))=(if a.w = "there" then !decide (v=some ("" : Str)) else decide (v=some ("" : Str))):=by
   split
   ·rename_i h;rw[h];simp
   ·rename_i h
    have:(a.w=="there")=false:=by simpa using h
    rw[this];cases decide (v=some ("" : Str)) <;> rfl
  rw[e];exact q
theorem knows_find {kn:Kn}{n:Str}(h:knows kn n=true):∃ p,kn.find? (fun p=>decide (p.1=n))=some p/\p∈kn/\p.1=n:=by
 unfold knows at h;rw[yV]at h;obtain⟨p,hp,e⟩:=h;cases hf:kn.find? (fun p=>decide (p.1=n)) with
 | none=>exact absurd (by simpa using e) (by simpa using xG.mp hf p hp)
 | some r=>exact⟨r,rfl,List.mem_of_find?_eq_some hf,by simpa using List.find?_some hf⟩
theorem valK_mem {kn:Kn}(nd:(kn.map (·.1)).Nodup):∀ {p:Str×Vl},p∈kn->valK kn p.1=p.2/\knows kn p.1=true:=by
 induction kn with
 | nil=>intro p h;cases h
 | cons a r ih =>
  intro p hp;rw[zD,yL]at nd;unfold valK knows;rw[zZ,yj];rcases zG.mp hp with rfl | hp
  ·simp
  ·have hne:¬ a.1=p.1:=fun z=>nd.1 (z ▸ yh hp)
   have:=ih nd.2 hp
   unfold valK knows at this;rw[decide_eq_false hne];exact⟨this.1,by rw[this.2,Bool.or_true]⟩
theorem meet_met {kn:Kn}(nd:(kn.map (·.1)).Nodup){a:Ask}(h:knows kn a.n=true):meetK a (marksK kn)=metV a (valK kn a.n):=by
 obtain⟨p,hf,hp,hn⟩:=knows_find h;have e1:valK kn a.n=p.2:=by unfold valK;rw[hf];rfl
 have nd':((marksK kn).map (·.1)).Nodup:=(List.filter_sublist.map _).nodup nd;have key:valK (marksK kn) a.n=p.2/\knows (marksK kn) a.n = !decide (p.2=some ("" : Str)):=by
  by_cases z:p.2=some ("" : Str)
  ·have hno:∀ r∈marksK kn,¬ r.1=a.n:=fun r hr e=>by
    obtain⟨h1,h2⟩:=yE.mp hr
    have:=(valK_mem nd h1).1
    rw[e,e1]at this;rw[<- this,z]at h2;simp at h2
   refine⟨?_,?_⟩
   ·unfold valK
    rw[xG.mpr (fun r hr=>by simpa using hno r hr),z];rfl
   ·rw[z]
    unfold knows;rw[yO.mpr (fun r hr=>by simpa using hno r hr)];simp
  ·have hm:p∈marksK kn:=yE.mpr ⟨hp,by simpa using z⟩
   have:=valK_mem nd' hm
   rw[hn]at this;rw[decide_eq_false z];exact this
 unfold meetK metV;rw[key.1,key.2,e1];split
 ·rfl
 ·split
  ·rfl
  ·split
   ·rfl
   ·simp
end
end Law
namespace Law
open PySem L3
section
variable {srt:List D->Option (List D)}{as vs:List Str}
noncomputable def onT:Tr->Bool
 | .mk _ on _ _ _ _=>on
theorem trD_on (t:Tr):∃ c p r,trD t=.tup [.tup ((asksT t).map askD),.bl (onT t),c,p,r,.tup [],.tup ((rowsT t).map trD)]:=by
 cases t with
 | mk xs on b p r rows=>exact⟨_,_,_,by rw[trD,trDs_eq];rfl⟩
theorem eqL_ints {M:MH}{n:Nat}:∀ a b:List Int,eqL (eqO M (n + 1)) (a.map .int) (b.map .int)=some (decide (a=b))
 | [],[]=>by simp[eqL]
 | [],_::_=>by simp[eqL]
 | _::_,[]=>by simp[eqL]
 | x::a,y::b=>by
  rw[zD,zD,eqL,eo_int,eqL_ints a b];show some ((x==y)&&decide (a=b))=_;congr 1;rw[yz];simp
theorem eo_pl {M:MH}{n:Nat}(a b:List Int):eqO M (n + 2) (.tup (a.map .int)) (.tup (b.map .int))=some (decide (a=b)):=by rw[eo_tup,eqL_ints]
theorem in_pl {M:MH}(p:List Int):∀ ps:List (List Int),inL M (plD p) (ps.map plD)=some (ps.contains p)
 | []=>rfl
 | r::ps=>by
  have e:eqO M 8 (plD r) (plD p)=some (decide (r=p)):=eo_pl r p;rw[zD,inL,e,in_pl p ps,List.contains_cons];show some (decide (r=p)||ps.contains p)=some ((p==r)||ps.contains p);congr 2;rw[yz,decide_eq_true_eq,beq_iff_eq];exact⟨Eq.symm,Eq.symm⟩
theorem cut_neg {α:Type}(xs:List α):cutD xs none (some (-1))=xs.dropLast:=by
 unfold cutD;simp only[cutIx];rw[if_pos (by decide),xo,List.dropLast_eq_take];congr 1;walk_at "o"
theorem at_neg {α:Type}{xs:List α}{y:α}(h:xs.getLast?=some y):atD xs (-1)=some y:=by
 have hne:xs≠[]:=fun z=>by rw[z]at h;cases h
 have hl:0 < xs.length:=List.length_pos_iff.mpr hne;unfold atD ixD;rw[if_neg (by decide),if_pos (by walk_at "o")];show xs[(-1 + (xs.length:Int)).toNat]?=_;rw[show (-1 + (xs.length:Int)).toNat=xs.length - 1 by walk_at "o",<- h,List.getLast?_eq_getElem?]
noncomputable def liesB (a p:List Int):Bool:=!decide (a=[])&&decide (p.take a.length=a)
theorem lies_w (k:Nat)(M:MH)(a p:List Int){Q:D->MH->Prop}(q:Q (.bl (liesB a p)) M):W ((cx srt (k + 1)).fn "lies_above" [plD a,plD p]) M Q:=by
 rw[f_lies_above,wf,b_lies_above,plD,plD];walk_at "wq";refine⟨zI _,?_⟩;rw[p_ne];have e0:eqO M 20 (.tup (a.map D.int)) (.tup [])=some (decide (a=[])):=eo_pl a [];refine⟨_,e0,?_⟩;unfold liesB at q;walk_at "wq";refine⟨fun h=>?_,fun h=>?_⟩
 ·rw[zz,cut_hi _ (by walk_at "o"),zE,<- zV,p_eq]
  refine⟨_,eo_pl _ _,?_⟩;rw[h,yb]at q;exact q
 ·rw[h]at q
  exact q
noncomputable def takesB (a p:List Int)(on:Bool):Bool:=if a=[] then false else if a.dropLast=p then true else if ¬ p.take a.dropLast.length=a.dropLast\/p.getD a.dropLast.length 0<=a.getLastD 0 then false else !on
theorem takes_w (k:Nat)(M:MH){n:Nat}(t s:Tr)(fit:Fit as vs n t)(a p:List Int)(hs:subT t a=some s){Q:D->MH->Prop}(q:Q (.bl (takesB a p (onT s))) M):W ((cx srt (k + 2)).fn "takes_away" [trD t,plD a,plD p]) M Q:=by
 have big:=line_big;rw[f_takes_away,wf,b_takes_away];have ea:plD a=.tup (a.map .int):=rfl;have ep:plD p=.tup (p.map .int):=rfl;rw[ea,ep];walk_at "wq";refine⟨zI _,?_⟩;rw[p_eq];have e0:eqO M 20 (.tup (a.map D.int)) (.tup [])=some (decide (a=[])):=eo_pl a [];refine⟨_,e0,?_⟩;unfold takesB at q;walk_at "wq";refine⟨fun h=>?_,fun h=>?_⟩
 ·rw[if_pos (of_decide_eq_true h)]at q
  exact q
 ·have hne:=of_decide_eq_false h
  rw[if_neg hne]at q;rw[cut_neg,<- xJ,p_eq];refine⟨_,eo_pl _ _,?_⟩;walk_at "wq";refine⟨fun h2=>?_,fun h2=>?_⟩
  ·rw[if_pos (of_decide_eq_true h2)]at q
   exact q
  ·have h2':=of_decide_eq_false h2
   rw[if_neg h2']at q;rw[zz,cut_hi _ (by walk_at "o"),zE,<- zV,p_ne];refine⟨_,eo_pl _ _,?_⟩;walk_at "wq";refine⟨fun h3=>?_,fun h3=>?_⟩
   ·have:¬ p.take a.dropLast.length=a.dropLast:=by simpa using h3
    rw[if_pos (.inl this)]at q;exact q
   ·have h3':p.take a.dropLast.length=a.dropLast:=by simpa using h3
    obtain⟨y,hy⟩:∃ y,a.getLast?=some y:=⟨_,xg hne⟩;have hlt:a.dropLast.length < p.length:=by
     refine wC ?_ fun z=>h2' ?_
     ·have:=congrArg List.length h3'
      rw[ze]at this;walk_at "o"
     ·rw[<- h3',z,zH]
    have hd:p[a.dropLast.length]?=some p[a.dropLast.length]:=zx hlt;have egd:p.getD a.dropLast.length 0=p[a.dropLast.length]:=by rw[zg,hd];rfl
    have ega:a.getLastD 0=y:=by rw[yW,hy];rfl
    rw[egd,ega]at q;generalize p[a.dropLast.length]=z at hd q;refine⟨_,at_neg (by rw[List.getLast?_map,hy];rfl),_,atD_nat (by rw[zv,zz,hd];rfl),?_⟩;walk_at "wq";refine⟨fun h4=>?_,fun h4=>?_⟩
    ·rw[if_pos (.inr (of_decide_eq_true h4))]at q
     exact q
    ·rw[if_neg (not_or.mpr ⟨fun w=>w h3',of_decide_eq_false h4⟩)]at q
     rw[<- ea];refine rowAt_w k M t s a hs fit ?_;obtain⟨c,pp,r,et⟩:=trD_on s;rw[et];walk_at "wq";exact q
end
end Law
namespace Law
open PySem L3
section
variable {srt:List D->Option (List D)}{as vs:List Str}
theorem plsL_in {rec:Tr->List Int->List (List Int)}{p:List Int}:∀ (ts:List Tr) (k i:Nat) (t:Tr) (pl:List Int),ts[i]?=some t->pl∈rec t (p++[((k + i:Nat):Int)])->pl∈plsL rec p k ts
 | [],_,_,_,_,h,_=>by cases h
 | s::ts,k,0,t,pl,h,hp=>by
  cases h;rw[plsL];exact yM _ hp
 | s::ts,k,i + 1,t,pl,h,hp=>by
  rw[plsL];exact zP _ (plsL_in ts (k + 1) i t pl (by simpa using h) (by rw[show k + 1 + i=k + (i + 1) by walk_at "o"];exact hp))
theorem pls_in:∀ (n:Nat) (t:Tr) (p q:List Int) (s:Tr),Fit as vs n t->subT t q=some s->p++q∈pls n t p
 | 0,_,_,_,_,h,_=>h.elim
 | n + 1,t,p,[],s,_,_=>by rw[zO,pls];exact zJ
 | n + 1,t,p,i::q,s,h,e=>by
  obtain⟨m,r,rfl,h1,h2⟩:=subT_cons e;rw[pls];refine zF _ (plsL_in _ 0 m r _ h1 ?_)
  have:=pls_in n r (p++[(m:Int)]) q s (h.2 r (zw h1)).2 h2
  rw[wH]
  rwa [yq]at this
theorem pls_has {t:Tr}(fit:Fit as vs 5 t)(a:List Int):(pls 5 t []).contains a=(subT t a).isSome:=by
 rw[yz,yg];refine⟨fun h=>?_,fun h=>?_⟩
 ·rw[pls_B]at h
  rcases zG.mp h with rfl | h
  ·rfl
  ·obtain⟨s,hs,_⟩:=plB_ok fit h
   rw[hs];rfl
 ·obtain⟨s,hs⟩:=zX.mp h
  have:=pls_in 5 t [] a s fit hs
  exact this
theorem row_ok {t:Tr}(fit:Fit as vs 5 t){a:List Int}{s:Tr}(hs:subT t a=some s)(hne:a≠[]):OkR as vs s:=by
 have h:=pls_in 5 t [] a s fit hs;rw[pls_B]at h;rcases zG.mp h with e | h
 ·exact absurd e hne
 ·obtain⟨s',hs',ok⟩:=plB_ok fit h
  rw[vt]at hs';rw[hs]at hs';cases hs';exact ok
noncomputable def knKv (kn:Kn):List (Ky×D):=kn.map fun p=>(.inr p.1,vD p.2)
theorem kv_get (kn:Kn)(n:Str):kvGet (knKv kn) (.inr n)=if knows kn n=true then some (vD (valK kn n)) else none:=by
 unfold kvGet knKv knows valK;induction kn with
 | nil=>rfl
 | cons p r ih =>
  rw[zD,zZ,yj,zZ];by_cases e:p.1=n
  ·subst e;simp
  ·have e1:decide ((Sum.inr p.1:Ky)=.inr n)=false:=decide_eq_false fun z=>e (Sum.inr.inj z)
   have e2:(p.1==n)=false:=by simpa using e
   rw[e1,e2,decide_eq_false e];exact ih
theorem kv_some (kn:Kn)(n:Str):(kvGet (knKv kn) (.inr n)).isSome=knows kn n:=by
 rw[kv_get];split
 ·rename_i h;rw[h];rfl
 ·rename_i h
  have h:knows kn n=false:=by simpa using h
  rw[h];rfl
theorem w_inK {kvs:List (Ky×D)}{n:Str}{M:MH}{B:Bool->MH->Prop}(q:B (kvGet kvs (.inr n)).isSome M):W (do let k <- lift (some (Sum.inr n));pure (kvGet kvs k).isSome:Mo Bool) M B:=⟨_,_,rfl,q⟩
noncomputable def lowB (s:Tr)(kn:Kn):Bool:=(asksT s).any fun a=>knows kn a.n&&!metV a (valK kn a.n)
noncomputable def upB (s:Tr)(kn:Kn):Bool:=(asksT s).all fun a=>knows kn a.n&&metV a (valK kn a.n)
theorem lower_w (k:Nat)(M:MH)(t s:Tr)(a:List Int)(hs:subT t a=some s)(jk:Nat)(kn:Kn)(hk:M[jk]?=some (.dic (knKv kn))){Q:D->MH->Prop}(q:Q (.bl (lowB s kn)) M):W ((cx srt (k + 2)).fn "_law_lower" [trD t,plD a,.ob jk]) M Q:=by
 rw[f__law_lower,wf,b__law_lower];walk_at "wq";refine lawAt_w k M t s a hs ?_;obtain⟨eb,ec,ep,er,et⟩:=trD_eq s;rw[et];walk_at "wq";refine w_loop (fun m ρ M'=>M'=M/\((asksT s).take m).any (fun a=>knows kn a.n&&!metV a (valK kn a.n))=false/\∃ x3,ρ=[some (trD t),some (plD a),some (.ob jk),x3]) ⟨rfl,rfl,_,rfl⟩ (fun _ _ _ _=>trivial) ?_ ?_
 ·rintro m d ρ M' hd ⟨rfl,hno,x3,rfl⟩
  rw[zv]at hd;obtain⟨x,hx,rfl⟩:=zu.mp hd;have eX:askD x=.tup [.str x.w,.str x.n,.tup (x.vs.map .str)]:=rfl;have step:(knows kn x.n&&!metV x (valK kn x.n))=false->((asksT s).take (m + 1)).any (fun a=>knows kn a.n&&!metV a (valK kn a.n))=false:=fun h=>by
   rw[zM,hx,vp,hno,wj];show (([x]:List Ask).any _)=false;rw[yj,h];rfl
  rw[eX];walk_at "wq";refine⟨_,hk,w_inK ?_⟩;rw[kv_some];walk_at "wq";refine⟨fun h=>?_,fun h=>⟨step (by rw[h];rfl),_,rfl⟩⟩;have hg:kvGet (knKv kn) (.inr x.n)=some (vD (valK kn x.n)):=by rw[kv_get,if_pos h]
  walk_at "wq";refine⟨_,hk,_,rfl,_,hg,?_⟩;rw[<- eX];refine lawMet_k k M' x _ ?_;walk_at "wq";refine⟨fun h2=>?_,fun h2=>⟨step (by rw[h];simpa using h2),_,by rw[eX]⟩⟩
  have:lowB s kn=true:=by
   unfold lowB;rw[yV];exact⟨x,zw hx,by rw[h];simpa using h2⟩
  rw[this]at q;exact q
 ·rintro ρ M' ⟨rfl,hno,x3,rfl⟩
  rw[zz,zH]at hno;walk_at "wq";unfold lowB at q;rw[hno]at q;exact q
theorem upper_w (k:Nat)(M:MH)(t s:Tr)(a:List Int)(hs:subT t a=some s)(jk:Nat)(kn:Kn)(hk:M[jk]?=some (.dic (knKv kn))){Q:D->MH->Prop}(q:Q (.bl (upB s kn)) M):W ((cx srt (k + 2)).fn "_law_upper" [trD t,plD a,.ob jk]) M Q:=by
 rw[f__law_upper,wf,b__law_upper];walk_at "wq";refine lawAt_w k M t s a hs ?_;obtain⟨eb,ec,ep,er,et⟩:=trD_eq s;rw[et];walk_at "wq";refine w_loop (fun m ρ M'=>M'=M/\((asksT s).take m).all (fun a=>knows kn a.n&&metV a (valK kn a.n))=true/\∃ x3,ρ=[some (trD t),some (plD a),some (.ob jk),x3]) ⟨rfl,rfl,_,rfl⟩ (fun _ _ _ _=>trivial) ?_ ?_
 ·rintro m d ρ M' hd ⟨rfl,hno,x3,rfl⟩
  rw[zv]at hd;obtain⟨x,hx,rfl⟩:=zu.mp hd;have eX:askD x=.tup [.str x.w,.str x.n,.tup (x.vs.map .str)]:=rfl;have step:(knows kn x.n&&metV x (valK kn x.n))=true->((asksT s).take (m + 1)).all (fun a=>knows kn a.n&&metV a (valK kn a.n))=true:=fun h=>by
   rw[zM,hx,vo,hno,yb];show (([x]:List Ask).all _)=true;rw[yv,h];rfl
  have bad:(knows kn x.n&&metV x (valK kn x.n))=false->upB s kn=false:=fun h=>by
   unfold upB;rw[wJ];exact⟨x,zw hx,by rw[h];exact zh⟩
  rw[eX];walk_at "wq";refine⟨_,hk,w_inK ?_⟩;rw[kv_some];walk_at "wq";refine⟨fun h=>?_,fun h=>?_⟩
  ·have h:knows kn x.n=false:=by simpa using h
   rw[bad (by rw[h];rfl)]at q;exact q
  have h:knows kn x.n=true:=by simpa using h
  have hg:kvGet (knKv kn) (.inr x.n)=some (vD (valK kn x.n)):=by rw[kv_get,if_pos h]
  walk_at "wq";refine⟨_,hk,_,rfl,_,hg,?_⟩;rw[<- eX];refine lawMet_k k M' x _ ?_;walk_at "wq";refine⟨fun h2=>?_,fun h2=>⟨step (by rw[h];simpa using h2),_,by rw[eX]⟩⟩;rw[bad (by rw[h];simpa using h2)]at q;exact q
 ·rintro ρ M' ⟨rfl,hno,x3,rfl⟩
  rw[zz,zH]at hno;walk_at "wq";unfold upB at q;rw[hno]at q;exact q
theorem any_cong {α:Type}{p q:α->Bool}:∀ {l:List α},(∀ x∈l,p x=q x)->l.any p=l.any q
 | [],_=>rfl
 | x::l,h=>by rw[yj,yj,h x zJ,any_cong fun y hy=>h y (zF _ hy)]
theorem low_eq {kn:Kn}(nd:(kn.map (·.1)).Nodup)(s:Tr):((asksT s).any fun a=>knows kn a.n&&!meetK a (marksK kn))=lowB s kn:=any_cong fun a _=>by
 cases h:knows kn a.n with
 | false=>rfl
 | true=>rw[meet_met nd h]
theorem up_eq {kn:Kn}(nd:(kn.map (·.1)).Nodup)(s:Tr):(((asksT s).all fun a=>knows kn a.n)&&(asksT s).all fun a=>meetK a (marksK kn))=upB s kn:=by
 unfold upB;induction asksT s with
 | nil=>rfl
 | cons a r ih =>
  rw[yv,yv,yv,<- ih];cases h:knows kn a.n with
  | false=>simp
  | true =>
   rw[meet_met nd h];cases metV a (valK kn a.n) <;> simp
theorem fails_w (k:Nat)(M:MH)(t s:Tr)(fit:Fit as vs 5 t)(a p:List Int)(hs:subT t a=some s)(kn:Kn)(nd:(kn.map (·.1)).Nodup)(hl:kn.length<=1000){Q:D->MH->Prop}(q:∀ M',Gr M M'->Q (.bl (liesB a p&&lowB s kn)) M'):W ((cx srt (k + 3)).fn "fails" [trD t,plD a,plD p,knD kn]) M Q:=by
 have big:=line_big;rw[f_fails,wf,b_fails];walk_at "wq";refine lies_w (k + 1) M a p ?_;walk_at "wq";refine⟨fun h=>?_,fun h=>?_⟩
 ·have h:liesB a p=false:=by simpa using h
  rw[h]at q;exact q _ Gr.refl
 have h:liesB a p=true:=by simpa using h
 have hne:a≠[]:=fun z=>by rw[z]at h;cases h
 obtain⟨ol,_⟩:=row_ok fit hs hne;rw[h,yb]at q;walk_at "wq";refine marksSplit_w (k + 1) M kn hl fun M1 g1=>?_;walk_at "wq";refine rowAt_w (k + 1) M1 t s a hs fit ?_;obtain⟨eb,ec,ep,er,et⟩:=trD_eq s;rw[et];walk_at "wq";refine⟨by rw[zz];walk_at "o",?_⟩;refine w_compI (fun j ys M'=>Gr M1 M'/\ys=(((asksT s).take j).map fun a=>knows kn a.n&&!meetK a (marksK kn)).map D.bl) ⟨Gr.refl,rfl⟩ (fun _ _ _ _=>trivial) ?_ ?_
 ·rintro j d ys M' hd ⟨g,rfl⟩
  rw[zv]at hd;obtain⟨x,hx,rfl⟩:=zu.mp hd;have eX:askD x=.tup [.str x.w,.str x.n,.tup (x.vs.map .str)]:=rfl;rw[zM,hx,zm,zm,eX];walk_at "wq";refine hasName_k (k + 1) M' kn x.n hl fun M2 g2=>?_;walk_at "wq";refine⟨fun h2=>?_,fun h2=>⟨g.trans g2,by simp[h2]⟩⟩;rw[<- eX];refine meets_k k M2 x _ (by unfold marksK;exact zK (xj _ _) hl) fun M3 g3=>?_;walk_at "wq";exact⟨(g.trans g2).trans g3,by simp[h2]⟩
 ·rintro ys M' ⟨g,rfl⟩
  rw[zz,zH];walk_at "wq";refine⟨_,get_new _ _,_,mapM_bools _,?_⟩;rw[xS]
  have:=q _ ((g1.trans g).snoc (MO.lst (((asksT s).map fun a=>knows kn a.n&&!meetK a (marksK kn)).map D.bl)))
  rw[<- low_eq nd]at this;exact this
theorem caught_w (k:Nat)(M:MH)(t s:Tr)(fit:Fit as vs 5 t)(a p:List Int)(hs:subT t a=some s)(kn:Kn)(nd:(kn.map (·.1)).Nodup)(hl:kn.length<=1000){Q:D->MH->Prop}(q:∀ M',Gr M M'->Q (.bl (takesB a p (onT s)&&upB s kn)) M'):W ((cx srt (k + 4)).fn "is_caught" [trD t,plD a,plD p,knD kn]) M Q:=by
 have big:=line_big;rw[f_is_caught,wf,b_is_caught];walk_at "wq";refine takes_w (k + 1) M t s fit a p hs ?_;walk_at "wq";refine⟨fun h=>?_,fun h=>?_⟩
 ·have h:takesB a p (onT s)=false:=by simpa using h
  rw[h]at q;exact q _ Gr.refl
 have h:takesB a p (onT s)=true:=by simpa using h
 have hne:a≠[]:=fun z=>by rw[z]at h;cases h
 obtain⟨ol,_⟩:=row_ok fit hs hne;rw[h,yb,<- up_eq nd]at q;walk_at "wq";refine rowAt_w (k + 2) M t s a hs fit ?_;obtain⟨eb,ec,ep,er,et⟩:=trD_eq s;rw[et];walk_at "wq";refine⟨by rw[zz];walk_at "o",?_⟩;refine w_compI (fun j ys M'=>Gr M M'/\ys=(((asksT s).take j).map fun a=>knows kn a.n).map D.bl) ⟨Gr.refl,rfl⟩ (fun _ _ _ _=>trivial) ?_ ?_
 ·rintro j d ys M' hd ⟨g,rfl⟩
  rw[zv]at hd;obtain⟨x,hx,rfl⟩:=zu.mp hd;have eX:askD x=.tup [.str x.w,.str x.n,.tup (x.vs.map .str)]:=rfl;rw[zM,hx,zm,zm,eX];walk_at "wq";refine hasName_k (k + 2) M' kn x.n hl fun M2 g2=>⟨g.trans g2,by simp⟩
 ·rintro ys M' ⟨g,rfl⟩
  rw[zz,zH];walk_at "wq";refine⟨_,get_new _ _,_,mapM_bools _,?_⟩;rw[xf];walk_at "wq";refine⟨fun h2=>?_,fun h2=>?_⟩
  ·have h2:((asksT s).all fun a=>knows kn a.n)=true:=h2
   rw[h2,yb]at q;refine marksSplit_w (k + 2) _ kn hl fun M3 g3=>?_;walk_at "wq";exact meetsAll_k k M3 (asksT s) _ (by walk_at "o") (by unfold marksK;exact zK (xj _ _) hl) fun M4 g4=>q _ (((g.snoc _).trans g3).trans g4)
  ·have h2:((asksT s).all fun a=>knows kn a.n)=false:=h2
   rw[h2,xY]at q;exact q _ (g.snoc _)
end
end Law
namespace Law
open PySem L3
section
variable {srt:List D->Option (List D)}{as vs:List Str}
theorem subT_app:∀ (p q:List Int) (t:Tr),subT t (p++q)=(subT t p).bind fun r=>subT r q
 | [],q,t=>rfl
 | i::p,q,t=>by
  rw[wR,subT_c,subT_c];split
  ·rfl
  ·cases (rowsT t)[i.toNat]? with
   | none=>rfl
   | some r=>exact subT_app p q r
theorem subT_one {t s:Tr}{n:Nat}(h:(rowsT t)[n]?=some s):subT t [(n:Int)]=some s:=by
 rw[subT_c,if_neg (by walk_at "o"),zE,h];rfl
theorem sub_sib:∀ (p:List Int) {n:Nat} {t s:Tr},Fit as vs n t->subT t p=some s->∀ (sz:Nat) (h:sz < p.length),∃ m:Nat,p[sz]=(m:Int)/\m < 5/\∀ j:Nat,j < m->∃ r,subT t (p.take sz++[(j:Int)])=some r
 | [],_,_,_,_,_,_,h=>absurd h (Nat.not_lt_zero _)
 | i::p,n,t,s,f,e,sz,h=>by
  obtain⟨m,r,rfl,h1,h2⟩:=subT_cons e;have hm:=lt_of_get h1;cases n with
  | zero=>exact f.elim
  | succ n =>
   obtain⟨f5,ff⟩:=f;cases sz with
   | zero =>
    refine⟨m,rfl,by walk_at "o",fun j hj=>?_⟩;exact⟨_,subT_one (zx (by walk_at "o"))⟩
   | succ sz =>
    obtain⟨m2,e2,l2,k2⟩:=sub_sib p (ff r (zw h1)).2 h2 sz (by simpa using h);refine⟨m2,by simpa using e2,l2,fun j hj=>?_⟩;obtain⟨r2,hr2⟩:=k2 j hj;refine⟨r2,?_⟩;rw[wo,wR,subT_c,if_neg (by walk_at "o"),zE,h1];exact hr2
theorem sub_dep:∀ (p:List Int) {n:Nat} {t s:Tr},Fit as vs n t->subT t p=some s->p.length<=n
 | [],_,_,_,_,_=>zI _
 | i::p,n,t,s,f,e=>by
  obtain⟨m,r,rfl,h1,h2⟩:=subT_cons e;cases n with
  | zero=>exact f.elim
  | succ n =>
   have:=sub_dep p (f.2 r (zw h1)).2 h2
   rw[zA];walk_at "o"
noncomputable def wayF (t:Tr)(p:List Int)(sz:Nat)(m:Nat):List (List Int):=((List.range m).filter fun (j:Nat)=>!onT (rowOf t (p.take sz++[(j:Int)]))).map fun (j:Nat)=>p.take sz++[(j:Int)]
noncomputable def wayA (t:Tr)(p:List Int)(m:Nat):List (List Int):=(List.range m).flatMap fun sz=>wayF t p sz (p.getD sz 0).toNat
noncomputable def wayV (t:Tr)(p:List Int):List (List Int):=((List.range (rowsT (rowOf t p)).length).map fun (j:Nat)=>p++[(j:Int)])++wayA t p p.length
theorem wayF_len (t:Tr)(p:List Int)(sz m:Nat):(wayF t p sz m).length<=m:=by
 unfold wayF;rw[zz];exact zK (xj _ _) (by rw[zR];exact zr _)
theorem way_w (k:Nat)(M:MH)(t s0:Tr)(fit:Fit as vs 5 t)(p:List Int)(hs:subT t p=some s0)(hr5:(rowsT s0).length<=5){Q:D->MH->Prop}(q:∀ j M',Gr M M'->M'[j]?=some (.lst ((wayV t p).map plD))->Q (.ob j) M'):W ((cx srt (k + 2)).fn "_law_in_the_way" [trD t,plD p]) M Q:=by
 have big:=line_big;have e0:rowOf t p=s0:=rowOf_eq hs;have hp5:=sub_dep p fit hs;have ep:plD p=.tup (p.map .int):=rfl;rw[f__law_in_the_way,wf,b__law_in_the_way];walk_at "wq";refine lawAt_w k M t s0 p hs ?_;obtain⟨eb,ec,e3,er,et⟩:=trD_eq s0;rw[et];walk_at "wq";rw[zz];refine⟨⟨by walk_at "o",by walk_at "o"⟩,by rw[rng_len];walk_at "o",?_⟩;refine w_compI (fun j ys M'=>M'=M/\ys=((List.range j).map fun (j:Nat)=>plD (p++[(j:Int)]))) ⟨rfl,rfl⟩ (fun _ _ _ _=>trivial) ?_ ?_
 ·rintro j d ys M' hd ⟨rfl,rfl⟩
  obtain⟨rfl,hj⟩:=rng_get hd;rw[ep];walk_at "wq";refine⟨by walk_at "o",by rw[zz];show _ + 1<=_;walk_at "o",?_⟩;have epj:D.tup (p.map D.int++[D.int (0 + (j:Int))])=plD (p++[(j:Int)]):=by unfold plD;rw[xc,zm];rfl
  rw[epj,yF,zm];rfl
 ·rintro ys M' ⟨rfl,rfl⟩
  rw[rng_len,show (((rowsT s0).length:Int) - 0).toNat=(rowsT s0).length by walk_at "o"];have n1:(M'++[MO.lst ((List.range (rowsT s0).length).map fun (j:Nat)=>plD (p++[(j:Int)]))])[M'.length]?=some (.lst ((((List.range (rowsT s0).length).map fun (j:Nat)=>p++[(j:Int)])++wayA t p 0).map plD)):=by
   rw[get_new];show _=some (MO.lst ((_++[]).map plD));rw[zO,yw];rfl
  have g1:Gr M' (M'++[MO.lst ((List.range (rowsT s0).length).map fun (j:Nat)=>plD (p++[(j:Int)]))]):=Gr.app _ _;generalize M'++[MO.lst ((List.range (rowsT s0).length).map fun (j:Nat)=>plD (p++[(j:Int)]))]=M1 at n1 g1 ⊢;have hA:((List.range (rowsT s0).length).map fun (j:Nat)=>p++[(j:Int)]).length<=5:=by rw[zz,zR];exact hr5
  unfold wayV at q;rw[e0]at q;generalize ((List.range (rowsT s0).length).map fun (j:Nat)=>p++[(j:Int)])=A at n1 hA q;rw[ep];walk_at "wq";rw[zz];refine⟨⟨by walk_at "o",by walk_at "o"⟩,?_⟩;generalize hj0:M'.length=jf at n1 ⊢;have hjf:jf < M1.length:=lt_of_get n1;refine w_loop (fun sz ρ M2=>Gr M' M2/\M2[jf]?=some (.lst ((A++wayA t p sz).map plD))/\(A++wayA t p sz).length<=5 + 5 * sz/\∃ x3 x4,ρ=[some (trD t),some (.tup (p.map .int)),some (.ob jf),x3,x4]) ⟨g1,n1,by rw[zt];show _ + 0<=_;walk_at "o",_,_,rfl⟩ (fun _ _ _ _=>trivial) ?_ ?_
  ·rintro sz d ρ M2 hd ⟨g2,h2,l2,x3,x4,rfl⟩
   obtain⟨rfl,hsz⟩:=rng_get hd;have hszl:sz < p.length:=by walk_at "o"
   obtain⟨m,em,hm5,hsib⟩:=sub_sib p fit hs sz hszl;have egd:p.getD sz 0=(m:Int):=by rw[zg,zx hszl,em];rfl
   have eA:wayA t p (sz + 1)=wayA t p sz++wayF t p sz m:=by
    unfold wayA;rw[yF,yX,xm,wS,zO,egd,zE]
   rw[xc];walk_at "wq";refine⟨_,atD_nat (by rw[zv,zx hszl,em];rfl),?_⟩;walk_at "wq";refine⟨⟨by walk_at "o",by walk_at "o"⟩,?_⟩;refine w_loop (fun j ρ M3=>Gr M' M3/\M3[jf]?=some (.lst ((A++wayA t p sz++wayF t p sz j).map plD))/\∃ x4,ρ=[some (trD t),some (.tup (p.map .int)),some (.ob jf),some (.int sz),x4]) ⟨g2,by rw[h2];show _=some (MO.lst ((_++[]).map plD));rw[zO],_,rfl⟩ (fun _ _ _ _=>trivial) ?_ ?_
   ·rintro j d ρ M3 hd3 ⟨g3,h3,x4,rfl⟩
    obtain⟨rfl,hj⟩:=rng_get hd3;have hjm:j < m:=by walk_at "o"
    obtain⟨r,hr⟩:=hsib j hjm;have er':rowOf t (p.take sz++[(j:Int)])=r:=rowOf_eq hr;have eF:wayF t p sz (j + 1)=wayF t p sz j++(if onT r=true then [] else [p.take sz++[(j:Int)]]):=by
     unfold wayF;rw[yF,xF,zm];congr 1;rw[wQ];rw[er'];cases onT r <;> rfl
    have epl:D.tup ((p.map D.int).take sz++[D.int (j:Int)])=plD (p.take sz++[(j:Int)]):=by unfold plD;rw[zm,zV];rfl
    have lF:=wayF_len t p sz j;have hlen:((A++wayA t p sz++wayF t p sz j).map plD).length < zj:=by rw[zz,zt];walk_at "o"
    rw[xc];walk_at "wq";have ec:cutD (p.map D.int) none (some (sz:Int))=(p.map D.int).take sz:=by rw[cut_hi _ (by walk_at "o"),zE]
    have hz:((p.map D.int).take sz).length + 1<=zj:=by rw[ze,zz];walk_at "o"
    rw[ec];refine⟨by walk_at "o",hz,?_⟩;rw[epl];refine lawAt_w k M3 t r _ hr ?_;obtain⟨c,pp,rr,eT⟩:=trD_on r;rw[eT];walk_at "wq";refine⟨fun ho=>?_,fun ho=>?_⟩
    ·have ho:onT r=false:=by simpa using ho
     rw[ho,if_neg zh]at eF;rw[ec,epl];refine⟨_,h3,by walk_at "o",hz,_,h3,hlen,g3.set (by walk_at "o") _,?_,_,rfl⟩;rw[eF,<- yq,zm (l₂:=[p.take sz++[(j:Int)]])];exact set_get h3
    ·have ho:onT r=true:=by simpa using ho
     rw[ho,if_pos rfl,zO]at eF;exact⟨g3,by rw[eF];exact h3,_,rfl⟩
   ·rintro ρ M3 ⟨g3,h3,x4,rfl⟩
    rw[rng_len,show (((m:Nat):Int) - 0).toNat=m by walk_at "o"]at h3;walk_at "wq";refine⟨g3,by rw[eA,<- yq];exact h3,?_,_,_,rfl⟩
    have:=wayF_len t p sz m
    rw[eA,<- yq,zt];walk_at "o"
  ·rintro ρ M2 ⟨g2,h2,l2,x3,x4,rfl⟩
   rw[rng_len,show (((p.length:Nat):Int) - 0).toNat=p.length by walk_at "o"]at h2;walk_at "wq";exact q _ _ g2 h2
theorem way_has {t s0:Tr}(fit:Fit as vs 5 t){p:List Int}(hs:subT t p=some s0)(a:List Int):(wayV t p).contains a=((subT t a).isSome&&takesB a p (onT (rowOf t a))):=by
 have e0:rowOf t p=s0:=rowOf_eq hs;rw[yz,yg,zk];unfold wayV wayA;rw[e0,zN];refine⟨fun h=>?_,fun ⟨h1,h2⟩=>?_⟩
 ·rcases h with h | h
  ·obtain⟨j,hj,rfl⟩:=zU.mp h
   have hj:=yx.mp hj;have hsub:subT t (p++[(j:Int)])=some (rowsT s0)[j]:=by
    rw[subT_app,hs];exact subT_one (zx hj)
   refine⟨by rw[hsub];rfl,?_⟩;unfold takesB;rw[if_neg (by simp),if_pos (by simp)]
  ·obtain⟨sz,hsz,h⟩:=wT.mp h
   have hsz:=yx.mp hsz;obtain⟨m,em,hm5,hsib⟩:=sub_sib p fit hs sz hsz;have egd:p.getD sz 0=(m:Int):=by rw[zg,zx hsz,em];rfl
   rw[egd,zE]at h;unfold wayF at h;obtain⟨j,hj,rfl⟩:=zU.mp h;obtain⟨hj1,hj2⟩:=yE.mp hj;have hj1:=yx.mp hj1;obtain⟨r,hr⟩:=hsib j hj1;refine⟨by rw[hr];rfl,?_⟩;have hd:(p.take sz++[(j:Int)]).dropLast=p.take sz:=by simp
   have hl:(p.take sz).length=sz:=by rw[ze];walk_at "o"
   have hlast:(p.take sz++[(j:Int)]).getLastD 0=(j:Int):=by rw[yW];simp
   unfold takesB;rw[if_neg (by simp),hd,if_neg (fun z=>by rw[z]at hl;walk_at "o"),hl,hlast,egd,if_neg (not_or.mpr ⟨fun w=>w rfl,by walk_at "o"⟩)];exact hj2
 ·obtain⟨s,hsub⟩:=zX.mp h1
  unfold takesB at h2;by_cases hne:a=[]
  ·rw[if_pos hne]at h2;cases h2
  rw[if_neg hne]at h2;have ea:a=a.dropLast++[a.getLast hne]:=(List.dropLast_concat_getLast hne).symm;have hlD:a.getLastD 0=a.getLast hne:=by rw[yW,xg hne];rfl
  generalize a.getLast hne=x at ea hlD;generalize a.dropLast=b at ea h2;subst ea;rw[subT_app]at hsub;obtain⟨r,hr,hx⟩:=yC.mp hsub;obtain⟨m,r2,rfl,hm,_⟩:=subT_cons hx;by_cases hb:b=p
  ·subst hb
   rw[hs]at hr;cases hr;exact .inl (zU.mpr ⟨m,yx.mpr (lt_of_get hm),rfl⟩)
  ·rw[if_neg hb]at h2
   by_cases hc:¬ p.take b.length=b\/p.getD b.length 0<=(b++[(m:Int)]).getLastD 0
   ·rw[if_pos hc]at h2;cases h2
   ·rw[if_neg hc]at h2
    obtain⟨c1,c2⟩:=not_or.mp hc;have c1:p.take b.length=b:=Classical.not_not.mp c1;rw[hlD]at c2;have hlt:b.length < p.length:=by
     refine wC ?_ fun z=>hb ?_
     ·have:=congrArg List.length c1
      rw[ze]at this;walk_at "o"
     ·rw[<- c1,z,zH]
    refine .inr (wT.mpr ⟨b.length,yx.mpr hlt,?_⟩);unfold wayF;rw[c1];exact zU.mpr ⟨m,yE.mpr ⟨yx.mpr (by walk_at "o"),h2⟩,rfl⟩
end
end Law
namespace Law
open PySem L3
section
variable {srt:List D->Option (List D)}{as vs:List Str}
noncomputable def namesV (t:Tr):List Str:=sortS (addAll [] (nmsV (bel t)))
noncomputable def spV (t:Tr)(nm:Str):List Vl:=(sortS (addAll [] (valsV nm (bel t)))).map some++[some ("" : Str),none]
structure SplAt (M:MH) (jS:Nat) (t:Tr):Prop where
 is:∃ E:List (Str×Nat),M[jS]?=some (.dic (E.map fun e=>(.inr e.1,.ob e.2)))/\E.map (·.1)=namesV t/\∀ e∈E,M[e.2]?=some (.lst ((spV t e.1).map vD))
theorem SplAt.keep {M M':MH}{jS:Nat}{t:Tr}(h:SplAt M jS t)(g:Gr M M'):SplAt M' jS t:=by
 obtain⟨E,h1,h2,h3⟩:=h.is;exact⟨E,g.keep _ _ h1,h2,fun e he=>g.keep _ _ (h3 e he)⟩
theorem ob_get:∀ (E:List (Str×Nat)) (n:Str),(∃ e∈E,e.1=n/\kvGet (E.map fun e=>((.inr e.1:Ky),D.ob e.2)) (.inr n)=some (.ob e.2))\/(n ∉ E.map (·.1)/\kvGet (E.map fun e=>((.inr e.1:Ky),D.ob e.2)) (.inr n)=none)
 | [],n=>.inr ⟨by simp,rfl⟩
 | e::E,n=>by
  by_cases h:e.1=n
  ·refine .inl ⟨e,zJ,h,?_⟩
   unfold kvGet;rw[zD,zZ,h];simp
  ·have e1:decide ((Sum.inr e.1:Ky)=.inr n)=false:=decide_eq_false fun z=>h (Sum.inr.inj z)
   have e2:kvGet ((e::E).map fun e=>((.inr e.1:Ky),D.ob e.2)) (.inr n)=kvGet (E.map fun e=>((.inr e.1:Ky),D.ob e.2)) (.inr n):=by
    unfold kvGet;rw[zD,zZ];simp only[e1]
   rw[e2];rcases ob_get E n with ⟨r,hr,h1,h2⟩|⟨h1,h2⟩
   ·exact .inl ⟨r,zF _ hr,h1,h2⟩
   ·exact .inr ⟨by rw[zD,zG];exact fun z=>z.elim (fun z=>h z.symm) h1,h2⟩
noncomputable def IsC:Nat->D->Prop
 | 0,_=>False
 | n + 1,d=>(∃ a,d=.tup [.str "fails",plD a])\/(∃ a,d=.tup [.str "caught",plD a])\/∃ (nm:Str) (ps:List (Vl×D)),d=.tup [.str "split",.str nm,.tup (ps.map fun p=>.tup [vD p.1,p.2])]/\ps.length<=1000/\∀ p∈ps,IsC n p.2
theorem IsC.up:∀ {n:Nat} {d:D},IsC n d->IsC (n + 1) d
 | 0,_,h=>h.elim
 | n + 1,d,h=>by
  rcases h with h | h | ⟨nm,ps,e,l,h⟩
  ·exact .inl h
  ·exact .inr (.inl h)
  ·exact .inr (.inr ⟨nm,ps,e,l,fun p hp=>IsC.up (h p hp)⟩)
theorem eqL_vD {M:MH}{n:Nat}:∀ a b:List Vl,eqL (eqO M (n + 1)) (a.map vD) (b.map vD)=some (decide (a=b))
 | [],[]=>by simp[eqL]
 | [],_::_=>by simp[eqL]
 | _::_,[]=>by simp[eqL]
 | x::a,y::b=>by
  rw[zD,zD,eqL,eo_vD,eqL_vD a b];show some (decide (x=y)&&decide (a=b))=_;congr 1;rw[yz];simp
theorem eo_vl {M:MH}{i j:Nat}{a b:List Vl}(h1:M[i]?=some (.lst (a.map vD)))(h2:M[j]?=some (.lst (b.map vD))):eqO M 20 (.ob i) (.ob j)=some (decide (a=b)):=by
 rw[eo_ob h1 h2];split
 ·exact eqL_vD a b
 ·rename_i h
  rw[decide_eq_false (fun z=>h (by rw[z]))]
theorem places_w (k:Nat)(M:MH)(t:Tr)(fit:Fit as vs 5 t){Q:D->MH->Prop}(q:∀ j M',Gr M M'->M'[j]?=some (.lst ((pls 5 t []).map plD))->Q (.ob j) M'):W ((cx srt (k + 6)).fn "places" [trD t]) M Q:=by
 rw[f_places,wf,b_places];walk_at "wq";have e0:D.tup []=plD []:=rfl;rw[e0];exact⟨zI _,placesFrom_w 5 k M t [] fit (zr _) (by decide) fun j M' g _ h=>q j M' g h⟩
theorem toSplit_w (k:Nat)(M:MH)(t:Tr)(nm:Str)(fit:Fit as vs 5 t)(hv:vs.length<=3){Q:D->MH->Prop}(q:∀ j M',Gr M M'->M'[j]?=some (.lst ((spV t nm).map vD))->Q (.ob j) M'):W ((cx srt (k + 9)).fn "values_to_split" [trD t,.str nm]) M Q:=by
 have big:=line_big;have hin:∀ y∈valsV nm (bel t),y∈vs:=(vals_ok (asksAt_ok fit (plB t) fun _ h=>h).2).2;have hl:(sortS (addAll [] (valsV nm (bel t)))).length<=3:=by rw[(sortS_perm _).length_eq];exact zK (addAll_le hin) hv
 rw[f_values_to_split,wf,b_values_to_split];walk_at "wq";refine valuesWith_w k M t nm fit hv fun j M1 g1 _ h1=>?_;walk_at "wq";refine⟨by walk_at "o",_,(Gr.app _ _).keep _ _ h1,_,get_new _ _,by rw[zz];show _ + 2<=_;walk_at "o",?_⟩;refine q _ _ ((g1.snoc _).snoc _) ?_;rw[get_new];unfold spV;rw[zm,yw];rfl
theorem in_run {M:MH}{j:Nat}{ps:List (List Int)}{a:List Int}(h:M[j]?=some (.lst (ps.map plD))):inD (plD a) (.ob j) M=some (.ok (ps.contains a),M):=by
 show (getM j >>= fun o=>_:Mo Bool) M=_;rw[ok_bind (m:=getM j) (M1:=M) (a:=.lst (ps.map plD)) (by unfold getM;rw[h])];show inMo _ _ M=_;unfold inMo;rw[in_pl]
theorem p_inPl {M:MH}{j:Nat}{ps:List (List Int)}{a:List Int}{B:Bool->MH->Prop}(h:M[j]?=some (.lst (ps.map plD)))(q:B (ps.contains a) M):W (cmpD .In (plD a) (.ob j)) M B:=⟨_,M,in_run h,q⟩
theorem p_notPl {M:MH}{j:Nat}{ps:List (List Int)}{a:List Int}{B:Bool->MH->Prop}(h:M[j]?=some (.lst (ps.map plD)))(q:B (!ps.contains a) M):W (cmpD .NotIn (plD a) (.ob j)) M B:=⟨_,M,by
 show (inD (plD a) (.ob j) >>= fun b=>pure (!b):Mo Bool) M=_;rw[ok_bind (in_run h)]
 rfl,q⟩
theorem fs_ne:¬ ((("fails" : Str)==("split" : Str))=true):=by decide +kernel
theorem cs_ne:¬ ((("caught" : Str)==("split" : Str))=true):=by decide +kernel
theorem cf_ne:¬ ((("caught" : Str)==("fails" : Str))=true):=by decide +kernel
theorem sf_ne:¬ ((("split" : Str)==("fails" : Str))=true):=by decide +kernel
theorem sc_ne:¬ ((("split" : Str)==("caught" : Str))=true):=by decide +kernel
theorem ss_eq (x:Str):¬ ((x==x)=false):=by simp
noncomputable def Both (srt:List D->Option (List D))(t:Tr)(p:List Int)(n:Nat)(d:D)(kn:Kn)(b:Bool):Prop :=
 (∀ (k:Nat) (M:MH) (Q:D->MH->Prop),(∀ M',Gr M M'->Q (.bl b) M')->W ((cx srt (k + 2 * n + 10)).fn "bears_for" [trD t,plD p,d,knD kn]) M Q) /\
 (∀ (k:Nat) (M:MH) (jS jk:Nat) (Q:D->MH->Prop),SplAt M jS t->M[jk]?=some (.dic (knKv kn))->(∀ M',Gr M M'->Q (.bl b) M')->W ((cx srt (k + n + 10)).fn "_law_bears" [trD t,plD p,.ob jS,d,.ob jk]) M Q)
theorem both_f {t s0:Tr}(fit:Fit as vs 5 t){p:List Int}(n:Nat)(a:List Int)(kn:Kn)(nd:(kn.map (·.1)).Nodup)(hl:kn.length<=1000)(hs:subT t p=some s0):Both srt t p (n + 1) (.tup [.str "fails",plD a]) kn (liesB a p&&lowB (rowOf t a) kn):=by
 have big:=line_big;have hpre:liesB a p=true->∃ s,subT t a=some s:=fun h=>by
  unfold liesB at h;rw[zk]at h;have e:=of_decide_eq_true h.2;rw[<- yJ a.length p,e,subT_app]at hs;obtain⟨r,hr,_⟩:=yC.mp hs;exact⟨r,hr⟩
 refine⟨fun k M Q q=>?_,fun k M jS jk Q hS hk q=>?_⟩
 ·rw[show k + 2 * (n + 1) + 10=k + 2 * n + 11 + 1 by walk_at "o",f_bears_for,wf,b_bears_for]
  walk_at "wq";refine⟨fun z=>absurd z fs_ne,fun _=>places_w (k + 2 * n + 5) M t fit fun j M1 g1 h1=>p_notPl h1 ?_⟩;rw[pls_has fit];walk_at "wq";refine⟨fun z=>?_,fun z=>⟨fun _=>?_,fun z=>absurd z (ss_eq _)⟩⟩
  ·have z:(subT t a).isSome=false:=by simpa using z
   have:liesB a p=false:=by
    cases h:liesB a p with
    | false=>rfl
    | true =>
     obtain⟨s,hs'⟩:=hpre h;rw[hs']at z;cases z
   rw[this]at q;exact q _ g1
  ·have z:(subT t a).isSome=true:=by simpa using z
   obtain⟨s,hs'⟩:=zX.mp z;rw[rowOf_eq hs']at q;exact fails_w (k + 2 * n + 8) M1 t s fit a p hs' kn nd hl fun M2 g2=>q _ (g1.trans g2)
 ·rw[show k + (n + 1) + 10=k + n + 10 + 1 by walk_at "o",f__law_bears,wf,b__law_bears]
  have ea:plD a=.tup (a.map .int):=rfl;have ep:plD p=.tup (p.map .int):=rfl;rw[ea,ep];walk_at "wq";refine⟨fun _=>?_,fun z=>absurd z (ss_eq _)⟩;rw[zz];have el:((a.length:Int)==0)=decide (a=[]):=by
   rw[yz,beq_iff_eq,decide_eq_true_eq];exact⟨fun h=>xP.mp (by walk_at "o"),fun h=>by rw[h];rfl⟩
  rw[el];refine⟨fun z=>?_,fun z=>?_⟩
  ·have:liesB a p=false:=by unfold liesB;rw[z];rfl
   rw[this]at q;exact q _ Gr.refl
  ·rw[cut_hi _ (by walk_at "o"),zE,<- zV,p_ne]
   refine⟨_,eo_pl _ _,?_⟩;have eli:liesB a p=decide (a=p.take a.length):=by
    unfold liesB;rw[z];show decide _=decide _;exact decide_eq_decide.mpr ⟨Eq.symm,Eq.symm⟩
   rw[eli]at q hpre;walk_at "wq";refine⟨fun z2=>?_,fun z2=>?_⟩
   ·have z2:decide (a=p.take a.length)=false:=by simpa using z2
    rw[z2]at q;exact q _ Gr.refl
   ·have z2:decide (a=p.take a.length)=true:=by simpa using z2
    rw[z2,yb]at q;obtain⟨s,hs'⟩:=hpre z2;rw[rowOf_eq hs']at q;rw[<- ea];exact lower_w (k + n + 8) M t s a hs' jk kn hk (q _ Gr.refl)
theorem both_c {t s0:Tr}(fit:Fit as vs 5 t){p:List Int}(n:Nat)(a:List Int)(kn:Kn)(nd:(kn.map (·.1)).Nodup)(hl:kn.length<=1000)(hs:subT t p=some s0)(hr5:(rowsT s0).length<=5):Both srt t p (n + 1) (.tup [.str "caught",plD a]) kn ((wayV t p).contains a&&upB (rowOf t a) kn):=by
 refine⟨fun k M Q q=>?_,fun k M jS jk Q hS hk q=>?_⟩
 ·rw[way_has fit hs]at q
  rw[show k + 2 * (n + 1) + 10=k + 2 * n + 11 + 1 by walk_at "o",f_bears_for,wf,b_bears_for];walk_at "wq";refine⟨fun z=>absurd z cs_ne,fun _=>places_w (k + 2 * n + 5) M t fit fun j M1 g1 h1=>p_notPl h1 ?_⟩;rw[pls_has fit];walk_at "wq";refine⟨fun z=>?_,fun z=>⟨fun z=>absurd z cf_ne,fun _=>?_⟩⟩
  ·have z:(subT t a).isSome=false:=by simpa using z
   rw[z]at q;exact q _ g1
  ·have z:(subT t a).isSome=true:=by simpa using z
   obtain⟨s,hs'⟩:=zX.mp z;rw[rowOf_eq hs',z,yb]at q;exact caught_w (k + 2 * n + 7) M1 t s fit a p hs' kn nd hl fun M2 g2=>q _ (g1.trans g2)
 ·rw[show k + (n + 1) + 10=k + n + 10 + 1 by walk_at "o",f__law_bears,wf,b__law_bears]
  walk_at "wq";refine⟨fun z=>absurd z cf_ne,fun _=>⟨fun _=>?_,fun z=>absurd z (ss_eq _)⟩⟩;refine way_w (k + n + 8) M t s0 fit p hs hr5 fun j M1 g1 h1=>p_inPl h1 ?_;walk_at "wq";refine⟨fun z=>?_,fun z=>?_⟩
  ·rw[z,yb]at q
   have z':=z;rw[way_has fit hs,zk]at z';obtain⟨s,hs'⟩:=zX.mp z'.1;rw[rowOf_eq hs']at q;exact upper_w (k + n + 8) M1 t s a hs' jk kn (g1.keep _ _ hk) (q _ g1)
  ·rw[z]at q
   exact q _ g1
end
end Law
namespace Law
open PySem L3
section
variable {srt:List D->Option (List D)}{as vs:List Str}
theorem inS_run {M:MH}{j:Nat}{xs:List Str}{x:Str}(h:M[j]?=some (.lst (xs.map .str))):inD (.str x) (.ob j) M=some (.ok (xs.contains x),M):=by
 show (getM j >>= fun o=>_:Mo Bool) M=_;rw[ok_bind (m:=getM j) (M1:=M) (a:=.lst (xs.map .str)) (by unfold getM;rw[h])];show inMo _ _ M=_;unfold inMo
 have:=in_vD (M:=M) xs (some x)
 rw[show vD (some x)=D.str x from rfl]at this;rw[this];rfl
theorem p_notStr {M:MH}{j:Nat}{xs:List Str}{x:Str}{B:Bool->MH->Prop}(h:M[j]?=some (.lst (xs.map .str)))(q:B (!xs.contains x) M):W (cmpD .NotIn (.str x) (.ob j)) M B:=⟨_,M,by
 show (inD (.str x) (.ob j) >>= fun b=>pure (!b):Mo Bool) M=_;rw[ok_bind (inS_run h)]
 rfl,q⟩
theorem kn_put {kn:Kn}{nm:Str}(h:knows kn nm=false)(v:Vl):kvPut (knKv kn) (.inr nm) (vD v)=knKv (kn++[(nm,v)]):=by
 unfold kvPut;rw[if_neg]
 ·unfold knKv;rw[zm];rfl
 ·unfold knKv
  rw[xS,Bool.not_eq_true,yO];intro p hp z;unfold knows at h;rw[yO]at h;exact h p hp (by simpa using Sum.inr.inj (of_decide_eq_true z))
theorem kn_nd {kn:Kn}{nm:Str}(h:knows kn nm=false)(nd:(kn.map (·.1)).Nodup)(v:Vl):((kn++[(nm,v)]).map (·.1)).Nodup:=by
 rw[zm,wI];refine⟨nd,by simp,fun a ha b hb z=>?_⟩;obtain⟨p,hp,rfl⟩:=zU.mp ha
 have:b=nm:=zb.mp hb
 unfold knows at h;rw[yO]at h;exact h p hp (by rw[z,this];simp)
theorem both_s {t:Tr}(fit:Fit as vs 5 t)(ha:as.length<=3)(hv:vs.length<=3){p:List Int}(n:Nat)(nm:Str)(ps:List (Vl×D))(kn:Kn)(nd:(kn.map (·.1)).Nodup)(hl:kn.length + (n + 1)<=1000)(lps:ps.length<=1000)
  (ih:∀ q∈ps,∀ kn':Kn,(kn'.map (·.1)).Nodup->kn'.length + n<=1000->∃ b,Both srt t p n q.2 kn' b):∃ b,Both srt t p (n + 1) (.tup [.str "split",.str nm,.tup (ps.map fun q=>.tup [vD q.1,q.2])]) kn b:=by
 have big:=line_big;have hnl:namesV t=sortS (addAll [] (nmsV (bel t))):=rfl;have prog:∀ b:Bool,(knows kn nm=false->(namesV t).contains nm=true->ps.map (·.1)=spV t nm->∀ (k:Nat) (M:MH) (Q:D->MH->Prop),(∀ M',Gr M M'->Q (.bl b) M') ->
   W (semSs (cx srt (k + 2 * n + 10)) (dropS 3 b_bears_split) [some (trD t),some (plD p),some (.tup [.str "split",.str nm,.tup (ps.map fun q=>.tup [vD q.1,q.2])]),some (knD kn),some (.str nm)]) M (endF Q)) ->
   ((knows kn nm=true\/(namesV t).contains nm=false\/¬ ps.map (·.1)=spV t nm)->b=false) ->
   ∀ (k:Nat) (M:MH) (Q:D->MH->Prop),(∀ M',Gr M M'->Q (.bl b) M')->W ((cx srt (k + 2 * (n + 1) + 10)).fn "bears_for" [trD t,plD p,.tup [.str "split",.str nm,.tup (ps.map fun q=>.tup [vD q.1,q.2])],knD kn]) M Q:=by
  intro b tl hb k M Q q;rw[show k + 2 * (n + 1) + 10=k + 2 * n + 11 + 1 by walk_at "o",f_bears_for,wf,b_bears_for];walk_at "wq";refine⟨fun _=>?_,fun z=>absurd z (ss_eq _)⟩;rw[show k + 2 * n + 11=k + 2 * n + 10 + 1 by walk_at "o",f_bears_split,wf];rw[cut_S 3 b_bears_split];generalize dropS 3 b_bears_split=tl0 at tl ⊢;simp only[b_bears_split,cut_s,cut_0];walk_at "wq";refine hasName_k (k + 2 * n + 9) M kn nm (by walk_at "o") fun M1 g1=>?_;walk_at "wq";refine⟨fun z=>?_,fun z=>?_⟩
  ·rw[hb (.inl z)]at q
   exact q _ g1
  refine namesAsked_w (k + 2 * n + 2) M1 t fit ha fun j2 M2 g2 _ h2=>p_notStr h2 ?_;walk_at "wq";refine⟨fun z2=>?_,fun z2=>?_⟩
  ·rw[hb (.inr (.inl (by rw[hnl];simpa using z2)))]at q
   exact q _ (g1.trans g2)
  have g2':=g1.trans g2;walk_at "wq";refine⟨by rw[zz];walk_at "o",?_⟩;refine w_compI (fun j ys M'=>M'=M2/\ys=((ps.take j).map (·.1)).map vD) ⟨rfl,rfl⟩ (fun _ _ _ _=>trivial) ?_ ?_
  ·rintro j d ys M' hd ⟨rfl,rfl⟩
   rw[zv]at hd;obtain⟨x,hx,rfl⟩:=zu.mp hd;walk_at "wq";rw[zM,hx];simp
  ·rintro ys M' ⟨rfl,rfl⟩
   rw[zz,zH];have g3:Gr M (M'++[MO.lst ((ps.map (·.1)).map vD)]):=g2'.snoc _;have h3:(M'++[MO.lst ((ps.map (·.1)).map vD)])[M'.length]?=some (.lst ((ps.map (·.1)).map vD)):=get_new _ _;generalize M'++[MO.lst ((ps.map (·.1)).map vD)]=M3 at g3 h3 ⊢;walk_at "wq";refine toSplit_w (k + 2 * n + 1) M3 t nm fit hv fun j4 M4 g4 h4=>?_;rw[p_ne];refine⟨_,eo_vl (g4.keep _ _ h3) h4,?_⟩;walk_at "wq";refine⟨fun z3=>?_,fun z3=>?_⟩
   ·rw[hb (.inr (.inr (by simpa using z3)))]at q
    exact q _ (g3.trans g4)
   ·exact tl (by simpa using z) (by rw[hnl];simpa using z2) (by simpa using z3) k M4 Q fun M5 g5=>q _ ((g3.trans g4).trans g5)
 have lawh:∀ b:Bool,(knows kn nm=false->(namesV t).contains nm=true->ps.map (·.1)=spV t nm->∀ (k:Nat) (M:MH) (jS jk:Nat) (Q:D->MH->Prop),SplAt M jS t->M[jk]?=some (.dic (knKv kn))->(∀ M',Gr M M'->Q (.bl b) M') ->
   W (semSs (cx srt (k + n + 10)) (dropS 3 b__law_bears) [some (trD t),some (plD p),some (.ob jS),some (.tup [.str "split",.str nm,.tup (ps.map fun q=>.tup [vD q.1,q.2])]),some (.ob jk),none,none,none]) M (endF Q)) ->
   ((knows kn nm=true\/(namesV t).contains nm=false\/¬ ps.map (·.1)=spV t nm)->b=false) ->
   ∀ (k:Nat) (M:MH) (jS jk:Nat) (Q:D->MH->Prop),SplAt M jS t->M[jk]?=some (.dic (knKv kn))->(∀ M',Gr M M'->Q (.bl b) M')->W ((cx srt (k + (n + 1) + 10)).fn "_law_bears" [trD t,plD p,.ob jS,.tup [.str "split",.str nm,.tup (ps.map fun q=>.tup [vD q.1,q.2])],.ob jk]) M Q:=by
  intro b tl hb k M jS jk Q hS hk q;rw[show k + (n + 1) + 10=k + n + 10 + 1 by walk_at "o",f__law_bears,wf];rw[cut_S 3 b__law_bears];generalize dropS 3 b__law_bears=tl0 at tl ⊢;simp only[b__law_bears,cut_s,cut_0];walk_at "wq";refine⟨fun z=>absurd z sf_ne,fun _=>⟨fun z=>absurd z sc_ne,fun _=>?_⟩⟩;refine⟨_,hk,w_inK ?_⟩;rw[kv_some];walk_at "wq";refine⟨fun z=>?_,fun z=>?_⟩
  ·rw[hb (.inl z)]at q
   exact q _ Gr.refl
  obtain⟨E,hE1,hE2,hE3⟩:=hS.is;refine⟨_,hE1,w_inK ?_⟩;have ec:(kvGet (E.map fun e=>((.inr e.1:Ky),D.ob e.2)) (.inr nm)).isSome=(namesV t).contains nm:=by
   rw[yz,yg,<- hE2];rcases ob_get E nm with ⟨e,he,h1,h2⟩|⟨h1,h2⟩
   ·rw[h2]
    exact⟨fun _=>h1 ▸ yh he,fun _=>rfl⟩
   ·rw[h2]
    exact⟨fun z=>(by cases z),fun z=>absurd z h1⟩
  rw[ec];walk_at "wq";refine⟨fun z2=>?_,fun z2=>?_⟩
  ·rw[hb (.inr (.inl (by simpa using z2)))]at q
   exact q _ Gr.refl
  have z2:(namesV t).contains nm=true:=by simpa using z2
  walk_at "wq";refine⟨by rw[zz];walk_at "o",?_⟩;refine w_compI (fun j ys M'=>M'=M/\ys=((ps.take j).map (·.1)).map vD) ⟨rfl,rfl⟩ (fun _ _ _ _=>trivial) ?_ ?_
  ·rintro j d ys M' hd ⟨rfl,rfl⟩
   rw[zv]at hd;obtain⟨x,hx,rfl⟩:=zu.mp hd;walk_at "wq";rw[zM,hx];simp
  ·rintro ys M' ⟨rfl,rfl⟩
   rw[zz,zH];have g3:Gr M' (M'++[MO.lst ((ps.map (·.1)).map vD)]):=Gr.app _ _;have h3:(M'++[MO.lst ((ps.map (·.1)).map vD)])[M'.length]?=some (.lst ((ps.map (·.1)).map vD)):=get_new _ _;generalize M'++[MO.lst ((ps.map (·.1)).map vD)]=M3 at g3 h3 ⊢;rcases ob_get E nm with ⟨e,he,h1,h2⟩|⟨h1,h2⟩
   ·walk_at "wq"
    refine⟨_,g3.keep _ _ hE1,_,rfl,_,h2,?_⟩;dsimp only;rw[p_ne];have h4:=g3.keep _ _ (hE3 e he);rw[h1]at h4;refine⟨_,eo_vl h3 h4,?_⟩;walk_at "wq";refine⟨fun z3=>?_,fun z3=>?_⟩
    ·rw[hb (.inr (.inr (by simpa using z3)))]at q
     exact q _ g3
    ·exact tl (by simpa using z) z2 (by simpa using z3) k M3 jS jk Q (hS.keep g3) (g3.keep _ _ hk) fun M5 g5=>q _ (g3.trans g5)
   ·rw[<- hE2,yg]at z2
    exact absurd z2 h1
 by_cases hb:knows kn nm=true\/(namesV t).contains nm=false\/¬ ps.map (·.1)=spV t nm
 ·have no:∀ {P:Prop},knows kn nm=false->(namesV t).contains nm=true->ps.map (·.1)=spV t nm->P:=fun a b c=>by
   rcases hb with h | h | h
   ·rw[a]at h;cases h
   ·rw[b]at h;cases h
   ·exact absurd c h
  exact⟨false,prog false (fun a b c=>no a b c) fun _=>rfl,lawh false (fun a b c=>no a b c) fun _=>rfl⟩
 obtain⟨hk0,hb⟩:=not_or.mp hb;have hk0:knows kn nm=false:=by simpa using hk0
 have ex:∀ x:Vl×D,∃ b,x∈ps->Both srt t p n x.2 (kn++[(nm,x.1)]) b:=fun x=>by
  by_cases hx:x∈ps
  ·obtain⟨b,h⟩:=ih x hx (kn++[(nm,x.1)]) (kn_nd hk0 nd _) (by rw[zt];show _ + 1 + n<=1000;walk_at "o")
   exact⟨b,fun _=>h⟩
  ·exact⟨false,fun h=>absurd h hx⟩
 let f:Vl×D->Bool:=fun x=>Classical.choose (ex x)
 have hf:∀ x∈ps,Both srt t p n x.2 (kn++[(nm,x.1)]) (f x):=fun x hx=>Classical.choose_spec (ex x) hx
 clear_value f
 refine⟨ps.all f,prog _ (fun _ _ _ k M Q q=>?_) fun h=>absurd h (not_or.mpr ⟨by rw[hk0];exact zh,hb⟩),lawh _ (fun _ _ _ k M jS jk Q hS hk q=>?_) fun h=>absurd h (not_or.mpr ⟨by rw[hk0];exact zh,hb⟩)⟩
 ·simp only[b_bears_split,drop_s,drop_0]
  walk_at "wq";refine⟨by rw[zz];walk_at "o",?_⟩;refine w_compI (fun j ys M'=>Gr M M'/\ys=((ps.take j).map f).map D.bl) ⟨Gr.refl,rfl⟩ (fun _ _ _ _=>trivial) ?_ ?_
  ·rintro j d ys M' hd ⟨g,rfl⟩
   rw[zv]at hd;obtain⟨x,hx,rfl⟩:=zu.mp hd;have ek:knD kn=.tup (kn.map pvD):=rfl;have ek2:D.tup (kn.map pvD++[D.tup [D.str nm,vD x.1]])=knD (kn++[(nm,x.1)]):=by unfold knD;rw[zm];rfl
   rw[ek];walk_at "wq";refine⟨by walk_at "o",by walk_at "o",by rw[zz];show _ + 1<=_;walk_at "o",?_⟩;rw[ek2];refine(hf x (zw hx)).1 k M' _ fun M2 g2=>?_;rw[zM,hx];exact⟨g.trans g2,by simp⟩
  ·rintro ys M' ⟨g,rfl⟩
   rw[zz,zH];walk_at "wq";refine⟨_,get_new _ _,_,mapM_bools _,?_⟩;rw[xf];exact q _ (g.snoc _)
 ·simp only[b__law_bears,drop_s,drop_0]
  walk_at "wq";refine w_loopP (fun j ρ M'=>Gr M M'/\(ps.take j).all f=true/\∃ x5 x6 x7,ρ=[some (trD t),some (plD p),some (.ob jS),some (.tup [.str "split",.str nm,.tup (ps.map fun q=>.tup [vD q.1,q.2])]),some (.ob jk),x5,x6,x7]) ⟨Gr.refl,rfl,_,_,_,rfl⟩ (fun _ _ _ _=>trivial) ?_ ?_
  ·rintro j d ρ M' hd ⟨g,hall,x5,x6,x7,rfl⟩
   rw[zv]at hd;obtain⟨x,hx,rfl⟩:=zu.mp hd;refine⟨_,_,rfl,?_⟩;walk_at "wq";refine⟨_,g.keep _ _ hk,?_⟩;have n1:(M'++[MO.dic (knKv kn)])[M'.length]?=some (.dic (knKv kn)):=get_new _ _;walk_at "wq";refine⟨_,n1,_,rfl,by unfold knKv;rw[zz];walk_at "o",?_⟩;rw[kn_put hk0];have g2:Gr M ((M'++[MO.dic (knKv kn)]).set M'.length (.dic (knKv (kn++[(nm,x.1)])))):=(g.snoc _).set g.len _;refine(hf x (zw hx)).2 k _ jS M'.length _ (hS.keep g2) (set_get n1) fun M3 g3=>?_;have g3':=g2.trans g3;walk_at "wq";refine⟨fun z=>?_,fun z=>⟨g3',?_,_,_,_,rfl⟩⟩
   ·have z:f x=false:=by simpa using z
    have:ps.all f=false:=by
     rw[wJ];exact⟨x,zw hx,by rw[z];exact zh⟩
    rw[this]at q;exact q _ g3'
   ·have z:f x=true:=by simpa using z
    rw[zM,hx,vo,hall];show (true&&([x]:List (Vl×D)).all f)=true;rw[yv,z];rfl
  ·rintro ρ M' ⟨g,hall,x5,x6,x7,rfl⟩
   rw[zz,zH]at hall;rw[hall]at q;walk_at "wq";exact q _ g
theorem both_all {t s0:Tr}(fit:Fit as vs 5 t)(ha:as.length<=3)(hv:vs.length<=3){p:List Int}(hs:subT t p=some s0)(hr5:(rowsT s0).length<=5):∀ (n:Nat) (d:D) (kn:Kn),IsC n d->(kn.map (·.1)).Nodup->kn.length + n<=1000->∃ b,Both srt t p n d kn b
 | 0,_,_,h,_,_=>h.elim
 | n + 1,d,kn,h,nd,hl=>by
  rcases h with ⟨a,rfl⟩|⟨a,rfl⟩|⟨nm,ps,rfl,l,h⟩
  ·exact⟨_,both_f fit n a kn nd (by walk_at "o") hs⟩
  ·exact⟨_,both_c fit n a kn nd (by walk_at "o") hs hr5⟩
  ·exact both_s fit ha hv n nm ps kn nd hl l fun q hq kn' nd' hl'=>both_all fit ha hv hs hr5 n q.2 kn' (h q hq) nd' hl'
end
end Law
namespace Law
open PySem L3
section
variable {srt:List D->Option (List D)}{as vs:List Str}
noncomputable def IsL (d:D):Prop:=(∃ a:List Int,a.length<=2000/\d=.tup [.str "fails",plD a])\/∃ a:List Int,a.length<=2000/\d=.tup [.str "caught",plD a]
noncomputable def IsC1:Nat->D->Prop
 | 0,_=>False
 | n + 1,d=>IsL d\/∃ (nm:Str) (ps:List (Vl×D)),d=.tup [.str "split",.str nm,.tup (ps.map fun p=>.tup [vD p.1,p.2])]/\(1<=ps.length/\ps.length<=300)/\∀ p∈ps,IsC1 n p.2
theorem IsL.c {n:Nat}{d:D}(h:IsL d):IsC (n + 1) d:=by
 rcases h with ⟨a,_,h⟩|⟨a,_,h⟩
 ·exact .inl ⟨a,h⟩
 ·exact .inr (.inl ⟨a,h⟩)
theorem IsC1.c:∀ {n:Nat} {d:D},IsC1 n d->IsC n d
 | 0,_,h=>h.elim
 | n + 1,d,h=>by
  rcases h with h | ⟨nm,ps,e,l,h⟩
  ·exact h.c
  ·exact .inr (.inr ⟨nm,ps,e,by walk_at "o",fun p hp=>(h p hp).c⟩)
theorem seven (n:Nat)(h:n < 7)(a b c d e f g:List Int){B:Nat}(ha:a.length<=B)(hb:b.length<=B)(hc:c.length<=B)(hd:d.length<=B)(he:e.length<=B)(hf:f.length<=B)(hg:g.length<=B):∃ r:List Int,r.length<=B/\atD [plD a,plD b,plD c,plD d,plD e,plD f,plD g] (n:Int)=some (plD r):=by
 have h7:n=0\/n=1\/n=2\/n=3\/n=4\/n=5\/n=6:=by walk_at "o"
 rcases h7 with rfl | rfl | rfl | rfl | rfl | rfl | rfl
 ·exact⟨a,ha,at0⟩
 ·exact⟨b,hb,at1⟩
 ·exact⟨c,hc,at2⟩
 ·exact⟨d,hd,at3⟩
 ·exact⟨e,he,at4⟩
 ·exact⟨f,hf,at5⟩
 ·exact⟨g,hg,at6⟩
theorem leaf_w (k:Nat)(M:MH)(sc:List Int)(i:Int)(p:List Int)(h0:0<=i)(h1:i<=90000)(hp:p.length<=1000){Q:D->MH->Prop}(q:∀ d M',IsL d->Gr M M'->Q d M'):W ((cx srt (k + 3)).fn "_law_leaf" [.fl (sc.map .int),.int i,plD p]) M Q:=by
 have big:=line_big;have ep:plD p=.tup (p.map .int):=rfl;have e1:∀ x:Int,D.tup (p.map D.int++[D.int x])=plD (p++[x]):=fun x=>by unfold plD;rw[zm];rfl
 have e2:∀ x:Int,D.tup (p.dropLast.map D.int++[D.int x])=plD (p.dropLast++[x]):=fun x=>by unfold plD;rw[zm];rfl
 rw[f__law_leaf,wf,b__law_leaf,ep];walk_at "wq";rw[cut_neg,<- xJ,cut_hi _ (by decide),<- zV];have hd:p.dropLast.length<=1000:=by rw[wx];walk_at "o"
 refine⟨by walk_at "o",by rw[zz];show _ + 1<=_;walk_at "o",by walk_at "o",by rw[zz];show _ + 1<=_;walk_at "o",by walk_at "o",by rw[zz];show _ + 1<=_;walk_at "o",zI _,by walk_at "o",?_⟩;rw[ep.symm,e1,e2,e2,show D.tup (p.dropLast.map D.int)=plD p.dropLast from rfl,show D.tup ((p.take (Int.toNat 1)).map D.int)=plD (p.take (Int.toNat 1)) from rfl,show D.tup []=plD [] from rfl];obtain⟨w,hw,hw2⟩:=pick_nat sc i (m:=2) (by decide);rw[show ((2:Nat):Int)=2 from rfl]at hw;obtain⟨v,hv,hv7⟩:=pick_nat sc (i + 1) (m:=7) (by decide);rw[show ((7:Nat):Int)=7 from rfl]at hv;obtain⟨r,hrl,hr⟩:=seven v hv7 p (p++[0]) p.dropLast (p.dropLast++[1]) (p.take (Int.toNat 1)) (p.dropLast++[0]) [] (B:=2000) (by walk_at "o") (by rw[zt];show _ + 1<=_;walk_at "o") (by walk_at "o") (by rw[zt];show _ + 1<=_;walk_at "o") (by rw[ze];walk_at "o") (by rw[zt];show _ + 1<=_;walk_at "o") (zI _);generalize [plD p,plD (p++[0]),plD p.dropLast,plD (p.dropLast++[1]),plD (p.take (Int.toNat 1)),plD (p.dropLast++[0]),plD []]=L7 at hr ⊢;have n1:(M++[MO.lst L7])[M.length]?=some (.lst L7):=get_new _ _;have g1:Gr M (M++[MO.lst L7]):=Gr.app _ _;generalize M++[MO.lst L7]=M1 at n1 g1 ⊢;refine⟨by walk_at "o",pick_w k sc _ _ _ h0 (by walk_at "o") (by decide) ?_⟩;rw[hw];have hat:∃ wd:Str,(wd = "fails"\/wd = "caught")/\atD [D.str "fails",.str "caught"] (w:Int)=some (.str wd):=by
  have:w=0\/w=1:=by walk_at "o"
  rcases this with rfl | rfl
  ·exact⟨_,.inl rfl,at0⟩
  ·exact⟨_,.inr rfl,at1⟩
 obtain⟨wd,hwd,hat⟩:=hat;walk_at "wq";refine⟨_,get_new _ _,_,rfl,_,hat,?_⟩;walk_at "wq";refine pick_w k sc _ _ _ (by walk_at "o") (by walk_at "o") (by decide) ?_;rw[hv];walk_at "wq";refine⟨_,(Gr.app _ _).keep _ _ n1,_,rfl,_,hr,?_⟩;walk_at "wq";refine⟨by walk_at "o",q _ _ ?_ (g1.snoc _)⟩;rcases hwd with rfl | rfl
 ·exact .inl ⟨r,hrl,rfl⟩
 ·exact .inr ⟨r,hrl,rfl⟩
theorem end_w (k:Nat)(M:MH)(sc:List Int)(t s0:Tr)(fit:Fit as vs 5 t)(p:List Int)(hs:subT t p=some s0)(hr5:(rowsT s0).length<=5)(jk:Nat)(kn:Kn)(hk:M[jk]?=some (.dic (knKv kn))){Q:D->MH->Prop}(q:∀ d M',(d=.non\/IsL d)->Gr M M'->Q d M'):W ((cx srt (k + 3)).fn "_law_end" [.fl (sc.map .int),trD t,plD p,.ob jk]) M Q:=by
 have big:=line_big;have hp5:=sub_dep p fit hs;have ep:plD p=.tup (p.map .int):=rfl;rw[f__law_end,wf,b__law_end,ep];walk_at "wq";rw[zz];refine⟨_,_,rfl,rfl,⟨by walk_at "o",by walk_at "o"⟩,⟨by walk_at "o",by walk_at "o"⟩,?_⟩;refine w_loop (fun m ρ M'=>M'=M/\∃ x4,ρ=[some (.fl (sc.map .int)),some (trD t),some (.tup (p.map .int)),some (.ob jk),x4,none]) ⟨rfl,_,rfl⟩ (fun _ _ _ _=>trivial) ?_ ?_
 ·rintro m d ρ M' hd ⟨rfl,x4,rfl⟩
  obtain⟨rfl,hm⟩:=rng_get hd;have e1:(1 + (m:Int)).toNat=m + 1:=by walk_at "o"
  have hsub:∃ s,subT t (p.take (m + 1))=some s:=by
   rw[<- yJ (m + 1) p,subT_app]at hs;obtain⟨r,hr,_⟩:=yC.mp hs;exact⟨r,hr⟩
  obtain⟨s,hsub⟩:=hsub;walk_at "wq";rw[cut_hi _ (by walk_at "o"),e1,<- zV];refine lower_w k M' t s (p.take (m + 1)) hsub jk kn hk ?_;walk_at "wq";refine⟨fun z=>⟨by walk_at "o",?_⟩,fun z=>⟨_,rfl⟩⟩;exact q _ _ (.inr (.inl ⟨p.take (m + 1),by rw[ze];walk_at "o",by rw[cut_hi _ (by walk_at "o"),e1,<- zV];rfl⟩)) Gr.refl
 ·rintro ρ M' ⟨rfl,x4,rfl⟩
  walk_at "wq";rw[<- ep];refine way_w k M' t s0 fit p hs hr5 fun j M1 g1 h1=>?_;walk_at "wq";refine⟨_,h1,?_⟩;refine w_loop (fun m ρ M2=>M2=M1/\∃ x5,ρ=[some (.fl (sc.map .int)),some (trD t),some (plD p),some (.ob jk),x4,x5]) ⟨rfl,_,rfl⟩ (fun _ _ _ h=>h.1 ▸ h1) ?_ ?_
  ·rintro m d ρ M2 hd ⟨rfl,x5,rfl⟩
   rw[zv]at hd;obtain⟨a,ha,rfl⟩:=zu.mp hd;have hc:=yg.mpr (zw ha);rw[way_has fit hs,zk]at hc;obtain⟨s,hsub⟩:=zX.mp hc.1;walk_at "wq";refine upper_w k M2 t s a hsub jk kn (g1.keep _ _ hk) ?_;walk_at "wq";refine⟨fun z=>⟨by walk_at "o",q _ _ (.inr (.inr ⟨a,by have:=sub_dep a fit hsub;walk_at "o",rfl⟩)) g1⟩,fun z=>⟨_,rfl⟩⟩
  ·rintro ρ M2 ⟨rfl,x5,rfl⟩
   walk_at "wq";exact q _ _ (.inl rfl) g1
end
end Law
namespace Law
open PySem L3
section
variable {srt:List D->Option (List D)}{as vs:List Str}
theorem sp_len {t:Tr}(fit:Fit as vs 5 t)(hv:vs.length<=3)(nm:Str):2<=(spV t nm).length/\(spV t nm).length<=5:=by
 have hin:∀ y∈valsV nm (bel t),y∈vs:=(vals_ok (asksAt_ok fit (plB t) fun _ h=>h).2).2;have hl:(sortS (addAll [] (valsV nm (bel t)))).length<=3:=by rw[(sortS_perm _).length_eq];exact zK (addAll_le hin) hv
 unfold spV;rw[zt,zz];show 2<=_ + 2/\_ + 2<=5;walk_at "o"
theorem case_w (sc:List Int)(t s0:Tr)(fit:Fit as vs 5 t)(hv:vs.length<=3)(p:List Int)(hs:subT t p=some s0)(hr5:(rowsT s0).length<=5):∀ (ns:List Str) (k:Nat) (M:MH) (jS jn jk:Nat) (kn:Kn),(∀ n∈ns,n∈namesV t)->ns.Nodup->(∀ n∈ns,knows kn n=false)->ns.length + kn.length<=1000->SplAt M jS t->M[jn]?=some (.lst (ns.map .str))->M[jk]?=some (.dic (knKv kn)) ->
  ∀ {Q:D->MH->Prop} (_:∀ d M',IsC1 (ns.length + 1) d->Gr M M'->Q d M'),W ((cx srt (k + ns.length + 4)).fn "_law_case" [.fl (sc.map .int),trD t,plD p,.ob jS,.ob jn,.ob jk]) M Q:=by
 intro ns;have big:=line_big;have hp5:=sub_dep p fit hs;induction ns with
 | nil =>
  intro k M jS jn jk kn _ _ _ _ hS hn hk Q q;rw[show k + ([]:List Str).length + 4=k + 3 + 1 from rfl,f__law_case,wf,b__law_case];walk_at "wq";refine end_w k M sc t s0 fit p hs hr5 jk kn hk fun d M1 hd g1=>?_;walk_at "wq";refine⟨rfl,fun z=>?_,fun z=>?_⟩
  ·rcases hd with rfl | hd
   ·cases z
   ·exact q _ _ (.inl hd) g1
  ·refine⟨_,g1.keep _ _ hn,?_⟩
   walk_at "wq";refine⟨fun _=>?_,fun z=>(by cases z)⟩;exact leaf_w k M1 sc 140 p (by decide) (by decide) (by walk_at "o") fun d M2 hd g2=>q _ _ (.inl hd) (g1.trans g2)
 | cons nm ns ih =>
  intro k M jS jn jk kn hin hnd hkn hlen hS hn hk Q q;rw[zA]at hlen;rw[yL]at hnd;have hk0:=hkn nm zJ;rw[show k + (nm::ns).length + 4=k + ns.length + 4 + 1 by rw[zA];walk_at "o",f__law_case,wf,b__law_case];walk_at "wq";refine end_w (k + ns.length + 1) M sc t s0 fit p hs hr5 jk kn hk fun d M1 hd g1=>?_;walk_at "wq";refine⟨rfl,fun z=>?_,fun z=>?_⟩
  ·rcases hd with rfl | hd
   ·cases z
   ·exact q _ _ (.inl hd) g1
  have hn1:=g1.keep _ _ hn;rw[zD]at hn1;refine⟨_,hn1,?_⟩;walk_at "wq";have hS1:=hS.keep g1;obtain⟨E,hE1,hE2,hE3⟩:=hS1.is;refine⟨fun z=>absurd (beq_iff_eq.mp z) (by walk_at "o"),fun _=>⟨zI _,?_⟩⟩;obtain⟨e,he,h1,h2⟩:∃ e∈E,e.1=nm/\kvGet (E.map fun e=>((.inr e.1:Ky),D.ob e.2)) (.inr nm)=some (.ob e.2):=by
   rcases ob_get E nm with h | ⟨h1,_⟩
   ·exact h
   ·exact absurd (by rw[hE2];exact hin nm zJ) h1
  have hv5:=sp_len fit hv nm;have hsp:=hE3 e he;rw[h1]at hsp;have n2:(M1++[MO.lst []])[M1.length]?=some (.lst (([]:List (Vl×D)).map fun q=>D.tup [vD q.1,q.2])):=get_new _ _;have g2:Gr M1 (M1++[MO.lst []]):=Gr.app _ _;generalize M1++[MO.lst []]=M2 at n2 g2 ⊢;have ljp:M1.length<=M1.length:=zr _;refine⟨_,g2.keep _ _ hn1,_,rfl,_,at0,_,g2.keep _ _ hE1,_,rfl,_,h2,?_⟩;walk_at "wq";refine⟨_,g2.keep _ _ hsp,?_⟩;refine w_loop (fun m ρ M'=>Gr M1 M'/\(∃ qs:List (Vl×D),M'[M1.length]?=some (.lst (qs.map fun q=>D.tup [vD q.1,q.2]))/\qs.length=m/\∀ q∈qs,IsC1 (ns.length + 1) q.2)/\∃ x8 x9,ρ=[some (.fl (sc.map .int)),some (trD t),some (plD p),some (.ob jS),some (.ob jn),some (.ob jk),some d,some (.ob M1.length),x8,x9])
   ⟨g2,⟨[],n2,rfl,fun _ h=>nomatch h⟩,_,_,rfl⟩ (fun _ _ _ h=>h.1.keep _ _ hsp) ?_ ?_
  ·rintro m d' ρ M3 hd' ⟨g3,⟨qs,hq,hql,hqc⟩,x8,x9,rfl⟩
   rw[zv]at hd';obtain⟨v,hv',rfl⟩:=zu.mp hd';have hml:=lt_of_get hv';walk_at "wq";refine⟨_,g3.keep _ _ (g1.keep _ _ hk),?_⟩;have n4:(M3++[MO.dic (knKv kn)])[M3.length]?=some (.dic (knKv kn)):=get_new _ _;have g4:Gr M3 (M3++[MO.dic (knKv kn)]):=Gr.app _ _;walk_at "wq";refine⟨_,g4.keep _ _ (g3.keep _ _ hn1),_,rfl,_,at0,_,n4,_,rfl,by unfold knKv;rw[zz];walk_at "o",?_⟩;rw[kn_put hk0];have l3:M1.length < M3.length:=lt_of_get hq;have g5:Gr M3 ((M3++[MO.dic (knKv kn)]).set M3.length (.dic (knKv (kn++[(nm,v)])))):=g4.set (zr _) _;have n5:((M3++[MO.dic (knKv kn)]).set M3.length (.dic (knKv (kn++[(nm,v)]))))[M3.length]?=some (.dic (knKv (kn++[(nm,v)]))):=set_get n4;generalize (M3++[MO.dic (knKv kn)]).set M3.length (.dic (knKv (kn++[(nm,v)])))=M5 at g5 n5 ⊢;have G5:=g3.trans g5;walk_at "wq";refine⟨_,g5.keep _ _ hq,_,G5.keep _ _ hn1,?_⟩;rw[cut_lo _ (by decide),show (1:Int).toNat=1 from rfl,wg,ww];have g6:Gr M5 (M5++[MO.lst (ns.map .str)]):=Gr.app _ _;refine ih k _ jS _ M3.length (kn++[(nm,v)]) (fun n hn=>hin n (zF _ hn)) hnd.2 (fun n hn=>?_) (by rw[zt];show _ + (_ + 1)<=1000;walk_at "o") (hS1.keep (G5.trans g6)) (get_new _ _) (g6.keep _ _ n5) fun d6 M6 hd6 g7=>?_
   ·unfold knows
    rw[vp];have h1:=hkn n (zF _ hn);unfold knows at h1;rw[h1,wj,yj,List.any_nil,wk]
    have:¬ nm=n:=fun z=>hnd.1 (z ▸ hn)
    simpa using this
   have G7:=(G5.trans g6).trans g7;have hq7:=((g5.trans g6).trans g7).keep _ _ hq;walk_at "wq";refine⟨by walk_at "o",_,hq7,by rw[zz];walk_at "o",G7.set (zr _) _,⟨qs++[(v,d6)],?_,by rw[zt,hql];rfl,fun q hq=>?_⟩,_,_,rfl⟩
   ·rw[set_get hq7,zm]
    rfl
   ·rcases zN.mp hq with hq | hq
    ·exact hqc q hq
    ·rw[zb.mp hq]
     exact hd6
  ·rintro ρ M3 ⟨g3,⟨qs,hq,hql,hqc⟩,x8,x9,rfl⟩
   rw[zz]at hql;walk_at "wq";refine⟨_,g3.keep _ _ hn1,_,rfl,_,at0,?_⟩;walk_at "wq";refine⟨_,hq,by walk_at "o",q _ _ (.inr ⟨nm,qs,rfl,⟨by walk_at "o",by walk_at "o"⟩,hqc⟩) (g1.trans g3)⟩
end
end Law
namespace Law
open PySem L3
section
variable {srt:List D->Option (List D)}{as vs:List Str}
noncomputable def kvO (E:List (Str×Nat)):List (Ky×D):=E.map fun e=>(.inr e.1,.ob e.2)
noncomputable def putE (E:List (Str×Nat))(n:Str)(j:Nat):List (Str×Nat):=if n∈E.map (·.1) then E.map (fun e=>if e.1=n then (e.1,j) else e) else E++[(n,j)]
theorem putE_kv (E:List (Str×Nat))(n:Str)(j:Nat):kvPut (kvO E) (.inr n) (.ob j)=kvO (putE E n j):=by
 have ha:((kvO E).any fun kv=>decide (kv.1=(.inr n:Ky)))=decide (n∈E.map (·.1)):=by
  rw[yz,yV,decide_eq_true_eq];refine⟨fun ⟨x,hx,e⟩=>?_,fun h=>?_⟩
  ·obtain⟨e',he,rfl⟩:=zU.mp hx
   exact Sum.inr.inj (of_decide_eq_true e) ▸ yh he
  ·obtain⟨e,he,rfl⟩:=zU.mp h
   exact⟨_,yh he,by simp⟩
 unfold kvPut putE;rw[ha];by_cases h:n∈E.map (·.1)
 ·rw[if_pos (decide_eq_true h),if_pos h]
  unfold kvO;rw[yw,yw];refine wl fun e _=>?_;show (if (Sum.inr e.1:Ky)=.inr n then _ else _)=((.inr (if e.1=n then (e.1,j) else e).1:Ky),D.ob (if e.1=n then (e.1,j) else e).2);by_cases z:e.1=n
  ·rw[if_pos (by rw[z]),if_pos z]
  ·rw[if_neg (fun w=>z (Sum.inr.inj w)),if_neg z]
 ·rw[if_neg (by rw[decide_eq_false h];exact zh),if_neg h]
  unfold kvO;rw[zm];rfl
theorem putE_ks (E:List (Str×Nat))(n:Str)(j:Nat):(putE E n j).map (·.1)=addS (E.map (·.1)) n:=by
 unfold putE addS;split
 ·rename_i h
  rw[yw];exact wl fun e _=>by show (if e.1=n then (e.1,j) else e).1=_;split <;> rfl
 ·rw[zm];rfl
theorem putE_mem {E:List (Str×Nat)}{n:Str}{j:Nat}{e:Str×Nat}(h:e∈putE E n j):(e.1=n/\e.2=j)\/(e∈E/\e.1≠n):=by
 unfold putE at h;split at h
 ·obtain⟨x,hx,rfl⟩:=zU.mp h
  by_cases z:x.1=n
  ·rw[if_pos z];exact .inl ⟨z,rfl⟩
  ·rw[if_neg z];exact .inr ⟨hx,z⟩
 ·rename_i hn
  rcases zN.mp h with h | h
  ·exact .inr ⟨h,fun z=>hn (z ▸ yh h)⟩
  ·rw[zb.mp h];exact .inl ⟨rfl,rfl⟩
theorem str_keys:∀ E:List (Str×Nat),strKeys (kvO E)=some (E.map (·.1))
 | []=>rfl
 | e::E=>by
  show strKeys (((.inr e.1:Ky),D.ob e.2)::kvO E)=_;rw[strKeys,str_keys E];rfl
theorem addS_has {xs:List Str}{x y:Str}(h:y∈xs\/y=x):y∈addS xs x:=by
 unfold addS;split
 ·rename_i hx
  rcases h with h | rfl
  ·exact h
  ·exact hx
 ·rcases h with h | rfl
  ·exact yM _ h
  ·exact zP _ (zb.mpr rfl)
theorem addAll_in:∀ (ys xs:List Str) {y:Str},(y∈xs\/y∈ys)->y∈addAll xs ys
 | [],xs,y,h=>by
  rcases h with h | h
  ·exact h
  ·cases h
 | z::ys,xs,y,h=>by
  rw[addAll];refine addAll_in ys (addS xs z) ?_;rcases h with h | h
  ·exact .inl (addS_has (.inl h))
  ·rcases zG.mp h with rfl | h
   ·exact .inl (addS_has (.inr rfl))
   ·exact .inr h
theorem addAll_has {ys:List Str}{y:Str}(h:y∈ys):y∈addAll [] ys:=addAll_in ys [] (.inr h)
structure SM (M:MH) (jd:Nat) (E:List (Str×Nat)) (xs:List Ask):Prop where
 d:M[jd]?=some (.dic (kvO E))
 k:E.map (·.1)=addAll [] (nmsV xs)
 v:∀ e∈E,M[e.2]?=some (.lst ((valsV e.1 xs).map .str))
theorem SM.keep {M M':MH}{jd:Nat}{E:List (Str×Nat)}{xs:List Ask}(h:SM M jd E xs)(g:Gr M M'):SM M' jd E xs:=⟨g.keep _ _ h.d,h.k,fun e he=>g.keep _ _ (h.v e he)⟩
theorem vals_one (nm:Str)(xs:List Ask)(a:Ask):valsV nm (xs++[a])=valsV nm xs++(if a.n=nm then a.vs else []):=by
 unfold valsV;rw[yX,xm,wS,zO]
theorem SM.get {M:MH}{jd:Nat}{E:List (Str×Nat)}{xs:List Ask}(h:SM M jd E xs)(nm:Str)(jn:Nat)(hn:M[jn]?=some (.lst [])):∃ j0,(kvGet (kvO E) (.inr nm)).getD (.ob jn)=.ob j0/\M[j0]?=some (.lst ((valsV nm xs).map .str)):=by
 rcases ob_get E nm with ⟨e,he,h1,h2⟩|⟨h1,h2⟩
 ·exact⟨e.2,by unfold kvO;rw[h2];rfl,by rw[<- h1];exact h.v e he⟩
 ·refine⟨jn,by unfold kvO;rw[h2];rfl,?_⟩
  have:valsV nm xs=[]:=by
   unfold valsV;rw[List.flatMap_eq_nil_iff];intro a ha;rw[if_neg fun z=>?_];rw[h.k]at h1;exact h1 (addAll_has (by unfold nmsV;exact z ▸ yh ha))
  rw[this];exact hn
theorem SM.put {M:MH}{jd:Nat}{E:List (Str×Nat)}{xs:List Ask}(h:SM M jd E xs)(a:Ask)(j:Nat)(hj:M[j]?=some (.lst ((valsV a.n xs++a.vs).map .str))):SM (M.set jd (.dic (kvPut (kvO E) (.inr a.n) (.ob j)))) jd (putE E a.n j) (xs++[a]):=by
 have ne:∀ {i:Nat} {l:List D},M[i]?=some (.lst l)->jd≠i:=fun hi z=>by rw[<- z,h.d]at hi;cases hi
 refine⟨by rw[putE_kv];exact set_get h.d,?_,fun e he=>?_⟩
 ·rw[putE_ks,h.k]
  unfold nmsV;rw[zm,addAll_app];rfl
 ·rw[vals_one]
  rcases putE_mem he with ⟨e1,e2⟩|⟨he,e1⟩
  ·rw[e2,e1,if_pos rfl,zi (ne hj)]
   exact hj
  ·rw[if_neg (Ne.symm e1),zO,zi (ne (h.v e he))]
   exact h.v e he
end
end Law
namespace Law
open PySem L3
section
variable {srt:List D->Option (List D)}{as vs:List Str}
theorem splits_w (k:Nat)(M:MH)(t:Tr)(f:Fit as vs 5 t)(ha:as.length<=3)(hv:vs.length<=3){Q:D->MH->Prop}(q:∀ j M',Gr M M'->SplAt M' j t->Q (.ob j) M'):W ((cx srt (k + 6)).fn "_law_splits" [trD t]) M Q:=by
 have big:=line_big;rw[f__law_splits,wf];rw[cut_S 2 b__law_splits];have tl:∀ (M:MH) (jd:Nat) (E:List (Str×Nat)) (x2 x3:Option D) (Q:D->MH->Prop),SM M jd E (bel t)->(∀ j M',Gr M M'->SplAt M' j t->Q (.ob j) M')->W (semSs (cx srt (k + 5)) (dropS 2 b__law_splits) [some (trD t),some (.ob jd),x2,x3,none,none]) M (endF Q):=by
  intro M jd E x2 x3 Q hD q;have hin:∀ y∈nmsV (bel t),y∈as:=fun y hy=>by
   obtain⟨b,hb,rfl⟩:=zU.mp hy;exact((asksAt_ok f (plB t) fun _ h=>h).2 b hb).n
  have hkl:(E.map (·.1)).length<=3:=by
   rw[hD.k];exact zK (addAll_le hin) ha
  have nd:(namesV t).Nodup:=(sortS_perm _).nodup_iff.mpr (addAll_ok (as:=as) (nmsV (bel t)) [] xE (fun _ h=>nomatch h) hin).1;have en:sortS (E.map (·.1))=namesV t:=by rw[hD.k];rfl
  have hnl:(namesV t).length<=3:=by rw[<- en,(sortS_perm _).length_eq];exact hkl
  simp only[b__law_splits,drop_s,drop_0];walk_at "wq";have g1:Gr M (M++[MO.dic []]):=Gr.app _ _;have n1:(M++[MO.dic []])[M.length]?=some (.dic (kvO [])):=get_new _ _;generalize M++[MO.dic []]=M1 at g1 n1 ⊢;refine⟨_,(hD.keep g1).d,_,str_keys E,by walk_at "o",?_⟩;rw[en];have g2:Gr M1 (M1++[MO.lst ((namesV t).map .str)]):=Gr.app _ _;have n2:(M1++[MO.lst ((namesV t).map .str)])[M1.length]?=some (.lst ((namesV t).map .str)):=get_new _ _;have l1:M.length < M1.length:=lt_of_get n1;generalize M1++[MO.lst ((namesV t).map .str)]=M2 at g2 n2 ⊢;generalize M1.length=j2 at n2 l1 ⊢;walk_at "wq";refine⟨_,n2,?_⟩;refine w_loop (fun m ρ M'=>Gr M M'/\M'[j2]?=some (.lst ((namesV t).map .str))/\(∃ F:List (Str×Nat),M'[M.length]?=some (.dic (kvO F))/\F.map (·.1)=(namesV t).take m/\∀ e∈F,M'[e.2]?=some (.lst ((spV t e.1).map vD)))/\∃ x5,ρ=[some (trD t),some (.ob jd),x2,x3,some (.ob M.length),x5])
   ⟨g1.trans g2,n2,⟨[],g2.keep _ _ n1,rfl,fun _ h=>nomatch h⟩,_,rfl⟩ (fun _ _ _ h=>h.2.1) ?_ ?_
  ·rintro m d ρ M3 hd ⟨g3,hp3,⟨F,hF,hFk,hFv⟩,x5,rfl⟩
   rw[zv]at hd;obtain⟨nm,hnm,rfl⟩:=zu.mp hd;have hml:=lt_of_get hnm;have hmem:nm∈E.map (·.1):=by
    have:nm∈namesV t:=zw hnm
    rw[<- en]at this;exact(sortS_perm _).mem_iff.mp this
   have hD3:=hD.keep g3;obtain⟨e,he,h1,h2⟩:∃ e∈E,e.1=nm/\kvGet (E.map fun e=>((.inr e.1:Ky),D.ob e.2)) (.inr nm)=some (.ob e.2):=by
    rcases ob_get E nm with h | ⟨h1,_⟩
    ·exact h
    ·exact absurd hmem h1
   have hev:=hD3.v e he;rw[h1]at hev;have hvin:∀ y∈valsV nm (bel t),y∈vs:=(vals_ok (asksAt_ok f (plB t) fun _ h=>h).2).2;have hvl:=zK (addAll_le hvin) hv;have hsl:(sortS (addAll [] (valsV nm (bel t)))).length<=3:=by rw[(sortS_perm _).length_eq];exact hvl
   have hnF:nm ∉ F.map (·.1):=by
    rw[hFk];intro z;obtain⟨i,hi,e3⟩:=xH.mp z;have e4:=(zp.mp hnm).2;have hne:=List.pairwise_iff_getElem.mp nd i m (by walk_at "o") hml (by walk_at "o");exact hne (e3.trans e4.symm)
   walk_at "wq";refine⟨_,hD3.d,_,rfl,_,h2,?_⟩;walk_at "wq";refine⟨_,hev,_,allS_map _,by walk_at "o",by walk_at "o",_,(Gr.app _ _).keep _ _ (get_new _ _),_,get_new _ _,by rw[zz];show _ + 2<=_;walk_at "o",?_⟩;have g6:Gr M3 (M3++[MO.lst ((sortS (addAll [] (valsV nm (bel t)))).map D.str)]++[MO.lst [D.str ("" : Str),D.non]]++[MO.lst ((sortS (addAll [] (valsV nm (bel t)))).map D.str++[D.str ("" : Str),D.non])]):=((Gr.app _ _).snoc _).snoc _;have n6:(M3++[MO.lst ((sortS (addAll [] (valsV nm (bel t)))).map D.str)]++[MO.lst [D.str ("" : Str),D.non]]++[MO.lst ((sortS (addAll [] (valsV nm (bel t)))).map D.str++[D.str ("" : Str),D.non])])[(M3++[MO.lst ((sortS (addAll [] (valsV nm (bel t)))).map D.str)]++[MO.lst [D.str ("" : Str),D.non]]).length]?=some (.lst ((spV t nm).map vD)):=by
    rw[get_new];unfold spV;rw[zm,yw];rfl
   have l6:M3.length<=(M3++[MO.lst ((sortS (addAll [] (valsV nm (bel t)))).map D.str)]++[MO.lst [D.str ("" : Str),D.non]]).length:=((Gr.app _ _).snoc _).len;generalize (M3++[MO.lst ((sortS (addAll [] (valsV nm (bel t)))).map D.str)]++[MO.lst [D.str ("" : Str),D.non]]).length=j6 at n6 l6 ⊢;generalize M3++[MO.lst ((sortS (addAll [] (valsV nm (bel t)))).map D.str)]++[MO.lst [D.str ("" : Str),D.non]]++[MO.lst ((sortS (addAll [] (valsV nm (bel t)))).map D.str++[D.str ("" : Str),D.non])]=M6 at g6 n6 ⊢;have hF6:=g6.keep _ _ hF;have hl3:M.length < M3.length:=lt_of_get hF;have hFl:F.length<=3:=by rw[<- zz (f:=(·.1)),hFk,ze];walk_at "o"
   have eP:kvPut (kvO F) (.inr nm) (.ob j6)=kvO (F++[(nm,j6)]):=by
    rw[putE_kv];unfold putE;rw[if_neg hnF]
   refine⟨_,hF6,_,rfl,by unfold kvO;rw[zz];walk_at "o",(g3.trans g6).set (zr _) _,?_,⟨F++[(nm,j6)],by rw[eP];exact set_get hF6,?_,fun e he=>?_⟩,_,rfl⟩
   ·rw[zi (by walk_at "o")]
    exact g6.keep _ _ hp3
   ·rw[zm,hFk,zM,hnm]
    rfl
   ·have key:M6[e.2]?=some (.lst ((spV t e.1).map vD)):=by
     rcases zN.mp he with he | he
     ·exact g6.keep _ _ (hFv e he)
     ·rw[zb.mp he]
      exact n6
    rw[zi (fun z=>by rw[<- z,hF6]at key;cases key)];exact key
  ·rintro ρ M3 ⟨g3,hp3,⟨F,hF,hFk,hFv⟩,x5,rfl⟩
   rw[zz,zH]at hFk;walk_at "wq";exact q _ _ g3 ⟨F,hF,hFk,hFv⟩
 generalize dropS 2 b__law_splits=tl0 at tl ⊢;simp only[b__law_splits,cut_s,cut_0];walk_at "wq";refine⟨by walk_at "o",?_⟩;have g0:Gr M (M++[MO.dic []]):=Gr.app _ _;have n0:(M++[MO.dic []])[M.length]?=some (.dic (kvO [])):=get_new _ _;generalize M++[MO.dic []]=M0 at g0 n0 ⊢;have e0:D.tup []=plD []:=rfl;rw[e0];refine lawPlaces_w 5 k M0 t [] f (by decide) (by decide) fun j M1 g1 _ h1=>?_;rw[pls_B]at h1;walk_at "wq";refine⟨_,h1,?_⟩;rw[cut_lo _ (by decide)];have e1:(1:Int).toNat=1:=rfl;rw[e1,zD,wg,ww];have g2:Gr M0 (M1++[MO.lst ((plB t).map plD)]):=g1.snoc _;have n2:(M1++[MO.lst ((plB t).map plD)])[M1.length]?=some (.lst ((plB t).map plD)):=get_new _ _;have l1:M.length < M1.length:=zB (lt_of_get n0) g1.len;generalize M1++[MO.lst ((plB t).map plD)]=M2 at g2 n2 ⊢;generalize M1.length=j2 at n2 l1 ⊢;refine⟨_,n2,?_⟩;refine w_loop (fun m ρ M'=>Gr M M'/\M'[j2]?=some (.lst ((plB t).map plD))/\(∃ E,SM M' M.length E (asksAt t ((plB t).take m)))/\∃ x2 x3,ρ=[some (trD t),some (.ob M.length),x2,x3,none,none])
  ⟨g0.trans g2,n2,⟨[],g2.keep _ _ n0,rfl,fun _ h=>nomatch h⟩,_,_,rfl⟩ (fun _ _ _ h=>h.2.1) ?_ ?_
 ·rintro m d ρ M' hd ⟨g,hp,⟨E,hD⟩,x2,x3,rfl⟩
  rw[zv]at hd;obtain⟨p,hpl,rfl⟩:=zu.mp hd;obtain⟨s,e,o1,o2⟩:=plB_ok f (zw hpl);have hmx:=lt_of_get hpl;have h780:=plB_len f;obtain⟨hal,hin⟩:=asksAt_ok f ((plB t).take m) fun p' h=>yl h;rw[ze]at hal;walk_at "wq";refine lawAt_w (k + 4) M' t s p e ?_;obtain⟨eb,ec,ep,er,et⟩:=trD_eq s;rw[et];walk_at "wq";refine w_loop (fun m' ρ M'=>Gr M M'/\M'[j2]?=some (.lst ((plB t).map plD))/\(∃ E,SM M' M.length E (asksAt t ((plB t).take m)++(asksT s).take m'))/\∃ x3,ρ=[some (trD t),some (.ob M.length),some (plD p),x3,none,none])
   ⟨g,hp,⟨E,by rw[List.take_zero,zO];exact hD⟩,_,rfl⟩ (fun _ _ _ _=>trivial) ?_ ?_
  ·rintro m' d ρ M3 hd' ⟨g3,hp3,⟨E3,hD3⟩,x3,rfl⟩
   rw[zv]at hd';obtain⟨a,haa,rfl⟩:=zu.mp hd';have hm':=lt_of_get haa;have hoa:=o2 a (zw haa);have hx:asksAt t ((plB t).take m)++(asksT s).take (m' + 1)=asksAt t ((plB t).take m)++(asksT s).take m'++[a]:=by
    rw[zM,haa,yq];rfl
   generalize hX:asksAt t ((plB t).take m)++(asksT s).take m'=xs at hD3 hx;have hxs:∀ b∈xs,AskIn b as vs:=fun b hb=>by
    rw[<- hX]at hb;rcases zN.mp hb with hb | hb
    ·exact hin b hb
    ·exact o2 b (yl hb)
   have hxl:xs.length<=2343:=by
    rw[<- hX,zt,ze];walk_at "o"
   have hvl:=(vals_ok (nm:=a.n) hxs).1;have hEl:E3.length<=3:=by
    rw[<- zz (f:=(·.1)),hD3.k];refine zK (addAll_le (as:=as) fun y hy=>?_) ha;obtain⟨b,hb,rfl⟩:=zU.mp hy;exact(hxs b hb).n
   have hav:=hoa.l;rw[askD];walk_at "wq";refine⟨_,hD3.d,zI _,_,(Gr.app _ _).keep _ _ hD3.d,?_⟩;obtain⟨j0,ej,hj0⟩:=(hD3.keep (Gr.app M3 [MO.lst []])).get a.n M3.length (get_new _ _);rw[ej];have g5:Gr M3 (M3++[MO.lst []]++[MO.lst (a.vs.map .str)]):=(Gr.app _ _).snoc _;have hj5:=(Gr.app (M3++[MO.lst []]) [MO.lst (a.vs.map .str)]).keep _ _ hj0;have n5:(M3++[MO.lst []]++[MO.lst (a.vs.map .str)])[(M3++[MO.lst []]).length]?=some (.lst (a.vs.map .str)):=get_new _ _;generalize M3++[MO.lst []]++[MO.lst (a.vs.map .str)]=M5 at g5 hj5 n5 ⊢;generalize (M3++[MO.lst []]).length=j5 at n5 ⊢;walk_at "wq";refine⟨_,hj5,_,n5,by rw[zz,zz];walk_at "o",?_⟩;have g6:Gr M3 (M5++[MO.lst ((valsV a.n xs).map .str++a.vs.map .str)]):=g5.snoc _;have n6:(M5++[MO.lst ((valsV a.n xs).map .str++a.vs.map .str)])[M5.length]?=some (.lst ((valsV a.n xs++a.vs).map .str)):=by
    rw[zm];exact get_new _ _
   generalize M5++[MO.lst ((valsV a.n xs).map .str++a.vs.map .str)]=M6 at g6 n6 ⊢;have hD6:=hD3.keep g6;walk_at "wq";refine⟨_,hD6.d,_,rfl,by unfold kvO;rw[zz];walk_at "o",(g3.trans g6).set (zr _) _,?_,⟨_,by rw[hx];exact hD6.put a M5.length n6⟩,_,rfl⟩;rw[zi (by walk_at "o")];exact g6.keep _ _ hp3
  ·rintro ρ M3 ⟨g3,hp3,⟨E3,hD3⟩,x3,rfl⟩
   rw[zz,zH]at hD3;walk_at "wq";refine⟨g3,hp3,⟨E3,?_⟩,_,_,rfl⟩;rw[asksAt_snoc hpl e];exact hD3
 ·rintro ρ M' ⟨g,hp,⟨E,hD⟩,x2,x3,rfl⟩
  rw[zz,zH]at hD;walk_at "wq";exact tl M' M.length E x2 x3 Q hD fun j M'' g' h=>q j M'' (g.trans g') h
end
end Law
namespace Law
open PySem L3
section
variable {srt:List D->Option (List D)}{as vs:List Str}
noncomputable def prC2 (q:Vl×D):D:=.tup [vD q.1,q.2]
theorem IsC.sp {n:Nat}{nm:Str}{qs:List (Vl×D)}(hl:qs.length<=1000)(h:∀ q∈qs,IsC n q.2):IsC (n + 1) (.tup [.str "split",.str nm,.tup (qs.map prC2)]):=.inr (.inr ⟨nm,qs,rfl,hl,h⟩)
theorem cut_map {α β:Type}(f:α->β)(xs:List α)(lo hi:Option Int):cutD (xs.map f) lo hi=(cutD xs lo hi).map f:=by
 unfold cutD;rw[zz,zV,yZ]
theorem cut_sub {α:Type}{xs:List α}{lo hi:Option Int}{x:α}(h:x∈cutD xs lo hi):x∈xs:=wu (yl h)
theorem ins_map {α β:Type}(f:α->β)(xs:List α)(i:Int)(x:α):insD (xs.map f) i (f x)=(insD xs i x).map f:=by
 unfold insD;rw[zz,zm,zD,zV,yZ]
theorem ins_sub {α:Type}{xs:List α}{i:Int}{x y:α}(h:y∈insD xs i x):y=x\/y∈xs:=by
 unfold insD at h;rcases zN.mp h with h | h
 ·exact .inr (yl h)
 ·rcases zG.mp h with h | h
  ·exact .inl h
  ·exact .inr (wu h)
theorem ins_len {α:Type}(xs:List α)(i:Int)(v:α):(insD xs i v).length<=xs.length + 1:=by
 unfold insD;rw[zt,zA,ze,zS];walk_at "o"
theorem er_map {α β:Type}(f:α->β)(xs:List α)(a:Nat):(xs.map f).eraseIdx a=(xs.eraseIdx a).map f:=by
 rw[zY,zY,zm,zV,yZ]
theorem bentL_w (k:Nat)(M:MH)(sc:List Int)(p:List Int)(hp:p.length<=900)(jn:Nat)(d:D)(i:Int)(hd:IsL d)(h0:0<=i)(h1:i<=80000){Q:D->MH->Prop}(q:∀ d' M',(∀ n,IsC (n + 1) d')->Gr M M'->Q d' M'):W ((cx srt (k + 4)).fn "_law_bent" [.fl (sc.map .int),.int i,plD p,.ob jn,d]) M Q:=by
 have big:=line_big;obtain⟨wd,a,ha,hwd,rfl⟩:∃ (wd:Str) (a:List Int),a.length<=2000/\(wd = "fails"\/wd = "caught")/\d=.tup [.str wd,plD a]:=by
  rcases hd with ⟨a,ha,rfl⟩|⟨a,ha,rfl⟩
  ·exact⟨_,a,ha,.inl rfl,rfl⟩
  ·exact⟨_,a,ha,.inr rfl,rfl⟩
 have is:∀ (w':Str) (a':List Int),(w' = "fails"\/w' = "caught")->∀ n,IsC (n + 1) (.tup [.str w',plD a']):=fun w' a' h n=>by
  rcases h with rfl | rfl
  ·exact .inl ⟨a',rfl⟩
  ·exact .inr (.inl ⟨a',rfl⟩)
 obtain⟨w,hw,hw10⟩:=pick_nat sc i (m:=10) (by decide);rw[show ((10:Nat):Int)=10 from rfl]at hw;have ep:plD a=.tup (a.map .int):=rfl;rw[show k + 4=k + 3 + 1 from rfl,f__law_bent,wf,cut_S 2 b__law_bent,ep];generalize dropS 2 b__law_bent=tl;simp only[b__law_bent,cut_s,cut_0];walk_at "wr";refine pick_w (k + 1) sc _ _ _ h0 (by walk_at "o") (by decide) ?_;rw[hw];walk_at "wr";refine sT (by rcases hwd with rfl | rfl <;> simp <;> decide) ?_;walk_at "wr";by_cases h3:w < 3
 ·refine sT (decide_eq_true (by walk_at "o")) ?_
  walk_at "wr";have hat:∃ w':Str,(w' = "fails"\/w' = "caught")/\atD [D.str "caught",.str "fails"] (if (wd==Str.ofString "caught")=true then 1 else 0)=some (.str w'):=by
   rcases hwd with rfl | rfl
   ·rw[if_neg (by decide)]
    exact⟨_,.inr rfl,at0⟩
   ·rw[if_pos (by decide)]
    exact⟨_,.inl rfl,at1⟩
  obtain⟨w',hw',hat⟩:=hat;refine⟨by walk_at "o",_,get_new _ _,_,rfl,_,hat,?_⟩;exact⟨by walk_at "o",q _ _ (is w' a hw') (Gr.app _ _)⟩
 refine sF (decide_eq_false (by walk_at "o")) ?_;walk_at "wr";by_cases h5:w < 5
 ·refine sT (decide_eq_true (by walk_at "o")) ?_
  walk_at "wr";refine⟨by walk_at "o",by rw[zz];walk_at "o",by walk_at "o",?_⟩;rw[show D.tup (a.map D.int++[D.int ((w:Int) - 3)])=plD (a++[(w:Int) - 3]) by unfold plD;rw[zm];rfl];exact q _ _ (is wd _ hwd) Gr.refl
 refine sF (decide_eq_false (by walk_at "o")) ?_;walk_at "wr";by_cases h7:w < 7
 ·refine sT (decide_eq_true (by walk_at "o")) ?_
  walk_at "wr";rw[cut_neg,<- xJ];exact⟨by walk_at "o",q _ _ (is wd a.dropLast hwd) Gr.refl⟩
 refine sF (decide_eq_false (by walk_at "o")) ?_;walk_at "wr";exact leaf_w k M sc (i + 1) p (by walk_at "o") (by walk_at "o") (by walk_at "o") fun d' M' h g=>q _ _ (fun n=>h.c) g
theorem bent_w (sc:List Int)(p:List Int)(hp:p.length<=900)(jn:Nat)(ns:List Str)(hns:1<=ns.length/\ns.length<=1000):∀ (n k:Nat) (M:MH) (d:D) (i:Int),IsC1 n d->M[jn]?=some (.lst (ns.map .str))->0<=i->i + 5 * (n:Int)<=80000->∀ {Q:D->MH->Prop} (_:∀ d' M',IsC (n + 1) d'->Gr M M'->Q d' M'),
  W ((cx srt (k + n + 4)).fn "_law_bent" [.fl (sc.map .int),.int i,plD p,.ob jn,d]) M Q
 | 0,_,_,_,_,h,_,_,_,_,_=>h.elim
 | n + 1,k,M,d,i,hc,hn,h0,h1,Q,q=>by
  have big:=line_big;rcases hc with hL | ⟨nm,ps,rfl,hl,hps⟩
  ·rw[show k + (n + 1) + 4=(k + n + 1) + 4 by walk_at "o"]
   exact bentL_w (k + n + 1) M sc p hp jn d i hL h0 (by walk_at "o") fun d' M' h g=>q _ _ (h _) g
  obtain⟨w,hw,hw10⟩:=pick_nat sc i (m:=10) (by decide);rw[show ((10:Nat):Int)=10 from rfl]at hw;obtain⟨a,ha,hal⟩:=pick_nat sc (i + 2) (m:=ps.length) (by walk_at "o");have hup:∀ q∈ps,IsC (n + 1) q.2:=fun q hq=>(hps q hq).c.up;have hself:IsC (n + 2) (.tup [.str "split",.str nm,.tup (ps.map prC2)]):=IsC.sp (by walk_at "o") hup;have hself1:IsC (n + 1) (.tup [.str "split",.str nm,.tup (ps.map prC2)]):=IsC.sp (by walk_at "o") fun q hq=>(hps q hq).c;rw[show k + (n + 1) + 4=k + n + 4 + 1 by walk_at "o",f__law_bent,wf];have fin:∀ (M':MH) (j6:Nat) (x7 x8:Option D) (qs:List (Vl×D)),Gr M M'->M'[j6]?=some (.lst (qs.map prC2))->qs.length<=1000->(∀ q∈qs,IsC (n + 1) q.2) ->
    W (semSs (cx srt (k + n + 4)) (dropS 11 b__law_bent) [some (.fl (sc.map .int)),some (.int i),some (plD p),some (.ob jn),some (.tup [.str "split",.str nm,.tup (ps.map prC2)]),some (.int (w:Int)),some (.ob j6),x7,x8]) M' (endF Q):=fun M' j6 x7 x8 qs g h hl hq=>by
   simp only[b__law_bent,drop_s,drop_0];walk_at "wq";exact⟨_,h,by walk_at "o",q _ _ (IsC.sp hl hq) g⟩
  rw[cut_S 11 b__law_bent];generalize dropS 11 b__law_bent=tl at fin ⊢;simp only[b__law_bent,cut_s,cut_0];rw[show (D.tup (ps.map fun p=>D.tup [vD p.1,p.2]))=D.tup (ps.map prC2) from rfl];walk_at "wr";refine pick_w (k + n + 2) sc _ _ _ h0 (by walk_at "o") (by decide) ?_;rw[hw];walk_at "wr";refine sF (by simp) ?_;walk_at "wr";have n6:(M++[MO.lst (ps.map prC2)])[M.length]?=some (.lst (ps.map prC2)):=get_new _ _;have g6:Gr M (M++[MO.lst (ps.map prC2)]):=Gr.app _ _;generalize M++[MO.lst (ps.map prC2)]=M6 at n6 g6 ⊢;have lj:M.length<=M.length:=zr _;generalize hj6:M.length=j6 at n6 ⊢;refine⟨_,n6,?_⟩;rw[k_lenl,zz];refine pick_w (k + n + 2) sc _ _ _ (by walk_at "o") (by walk_at "o") (by walk_at "o") ?_;rw[ha];have hpa:ps[a]?=some ps[a]:=zx hal;generalize ps[a]=pa at hpa;have hpam:=zw hpa;have atA:atD (ps.map prC2) (a:Int)=some (.tup [vD pa.1,pa.2]):=atD_nat (by rw[zv,hpa];rfl);walk_at "wr";have ixA:ixD (ps.map prC2).length (a:Int)=some a:=by
   unfold ixD;rw[if_pos (by walk_at "o"),if_pos (by rw[zz];walk_at "o"),zE]
  have cases10:w < 4\/w=4\/w=5\/w=6\/w=7\/w=8\/w=9:=by walk_at "o"
  rcases cases10 with h | rfl | rfl | rfl | rfl | rfl | rfl
  ·have nq:∀ c:Int,4<=c->((w:Int)==c)=false:=fun c hc=>by simpa using (show ¬ (w:Int)=c by walk_at "o")
   refine sT (decide_eq_true (by walk_at "o")) ?_;walk_at "wr";refine⟨_,n6,_,rfl,_,atA,?_⟩;walk_at "wr";refine⟨_,n6,_,rfl,_,atA,?_⟩;walk_at "wr";refine bent_w sc p hp jn ns hns n k M6 pa.2 (i + 5) (hps pa hpam) (g6.keep _ _ hn) (by walk_at "o") (by walk_at "o") fun d' M7 hd' g7=>?_;have n7:=g7.keep _ _ n6;walk_at "wr";refine⟨by walk_at "o",_,n7,?_⟩;walk_at "wr";refine⟨a,ixA,?_⟩;have n8:(M7.set j6 (.lst ((ps.map prC2).set a (.tup [vD pa.1,d']))))[j6]?=some (.lst ((ps.set a (pa.1,d')).map prC2)):=by rw[set_get n7,xb];rfl
   have g8:Gr M (M7.set j6 (.lst ((ps.map prC2).set a (.tup [vD pa.1,d'])))):=(g6.trans g7).set (by walk_at "o") _;generalize M7.set j6 (.lst ((ps.map prC2).set a (.tup [vD pa.1,d'])))=M8 at n8 g8 ⊢;walk_at "wr";refine sF (nq 4 (by decide)) ?_;walk_at "wr";refine sF (nq 5 (by decide)) ?_;walk_at "wr";refine sF (nq 6 (by decide)) ?_;walk_at "wr";refine sF (nq 7 (by decide)) ?_;walk_at "wr";refine sF (nq 8 (by decide)) ?_;walk_at "wr";refine sF (nq 9 (by decide)) ?_;walk_at "wr";exact fin _ _ _ _ _ g8 n8 (by rw[zQ];walk_at "o") fun q hq=>by
    rcases zW hq with hq | rfl
    ·exact hup q hq
    ·exact hd'
  ·refine sF (by decide) ?_
   walk_at "wr";refine sT (by decide) ?_;walk_at "wr";refine⟨_,n6,_,n6,⟨by walk_at "o",by walk_at "o"⟩,_,by rw[zE,zv,hpa];rfl,?_⟩;rw[zE];have n8:(M6.set j6 (.lst ((ps.map prC2).eraseIdx a)))[j6]?=some (.lst ((ps.eraseIdx a).map prC2)):=by rw[set_get n6,er_map]
   have g8:Gr M (M6.set j6 (.lst ((ps.map prC2).eraseIdx a))):=g6.set (by walk_at "o") _;generalize M6.set j6 (.lst ((ps.map prC2).eraseIdx a))=M8 at n8 g8 ⊢;refine sF (by decide) ?_;walk_at "wr";refine sF (by decide) ?_;walk_at "wr";refine sF (by decide) ?_;walk_at "wr";refine sF (by decide) ?_;walk_at "wr";refine sF (by decide) ?_;walk_at "wr";exact fin _ _ _ _ _ g8 n8 (by have:=xO ps a;walk_at "o") fun q hq=>hup q (List.mem_of_mem_eraseIdx hq)
  ·refine sF (by decide) ?_
   walk_at "wr";refine sF (by decide) ?_;walk_at "wr";refine sT (by decide) ?_;walk_at "wr";refine⟨_,n6,_,n6,?_⟩;rw[k_lenl,zz];obtain⟨b,hb,hbl⟩:=pick_nat sc (i + 3) (m:=ps.length) (by walk_at "o");refine pick_w (k + n + 2) sc _ _ _ (by walk_at "o") (by walk_at "o") (by walk_at "o") ?_;rw[hb];have hpb:ps[b]?=some ps[b]:=zx hbl;generalize ps[b]=pb at hpb;have hpbm:=zw hpb;have atB:atD (ps.map prC2) (b:Int)=some (prC2 pb):=atD_nat (by rw[zv,hpb];rfl);walk_at "wr";refine⟨_,n6,_,rfl,_,atB,?_⟩;walk_at "wr";refine⟨_,n6,⟨by rw[zz];walk_at "o",by walk_at "o",by walk_at "o"⟩,?_⟩;have n8:(M6.set j6 (.lst (insD (ps.map prC2) a (prC2 pb))))[j6]?=some (.lst ((insD ps a pb).map prC2)):=by rw[set_get n6,ins_map]
   have g8:Gr M (M6.set j6 (.lst (insD (ps.map prC2) a (prC2 pb)))):=g6.set (by walk_at "o") _;generalize M6.set j6 (.lst (insD (ps.map prC2) a (prC2 pb)))=M8 at n8 g8 ⊢;refine sF (by decide) ?_;walk_at "wr";refine sF (by decide) ?_;walk_at "wr";refine sF (by decide) ?_;walk_at "wr";refine sF (by decide) ?_;walk_at "wr";exact fin _ _ _ _ _ g8 n8 (by have:=ins_len ps a pb;walk_at "o") fun q hq=>by
    rcases ins_sub hq with rfl | hq
    ·exact hup _ hpbm
    ·exact hup q hq
  ·refine sF (by decide) ?_
   walk_at "wr";refine sF (by decide) ?_;walk_at "wr";refine sF (by decide) ?_;walk_at "wr";refine sT (by decide) ?_;walk_at "wr";refine⟨_,n6,?_⟩;rw[cut_map];have n7:(M6++[MO.lst ((cutD ps (some (a:Int)) (some ((a:Int) + 2))).map prC2)])[M6.length]?=some (.lst ((cutD ps (some (a:Int)) (some ((a:Int) + 2))).map prC2)):=get_new _ _;have g7:Gr M6 (M6++[MO.lst ((cutD ps (some (a:Int)) (some ((a:Int) + 2))).map prC2)]):=Gr.app _ _;have c1:=cut_len ps (some (a:Int)) (some ((a:Int) + 2));have c2:=cut_len ps none (some (a:Int));have c3:=cut_len ps (some ((a:Int) + 2)) none;generalize M6++[MO.lst ((cutD ps (some (a:Int)) (some ((a:Int) + 2))).map prC2)]=M7 at n7 g7 ⊢;refine⟨_,n7,_,rfl,?_⟩;show ∃ ds,(M7.set M6.length (.lst ((cutD ps (some (a:Int)) (some ((a:Int) + 2))).map prC2).reverse))[j6]?=some (.lst ds)/\_;rw[<- wU];have n8:(M7.set M6.length (.lst ((cutD ps (some (a:Int)) (some ((a:Int) + 2))).reverse.map prC2)))[M6.length]?=some (.lst ((cutD ps (some (a:Int)) (some ((a:Int) + 2))).reverse.map prC2)):=set_get n7;have g8:Gr M6 (M7.set M6.length (.lst ((cutD ps (some (a:Int)) (some ((a:Int) + 2))).reverse.map prC2))):=g7.set (zr _) _;generalize M7.set M6.length (.lst ((cutD ps (some (a:Int)) (some ((a:Int) + 2))).reverse.map prC2))=M8 at n8 g8 ⊢;generalize M6.length=j8 at n8 ⊢;refine⟨_,g8.keep _ _ n6,?_⟩;rw[cut_map];refine⟨_,get_new _ _,_,(Gr.app _ _).keep _ _ n8,by rw[zz,zz,yQ];walk_at "o",?_⟩;refine⟨_,((g8.snoc _).snoc _).keep _ _ n6,?_⟩;rw[cut_map];refine⟨_,(Gr.app _ _).keep _ _ (get_new _ _),_,get_new _ _,by rw[zt,zz,zz,zz,yQ];walk_at "o",?_⟩;refine sF (by decide) ?_;walk_at "wr";refine sF (by decide) ?_;walk_at "wr";refine sF (by decide) ?_;walk_at "wr";refine fin _ _ _ _ (cutD ps none (some (a:Int))++(cutD ps (some (a:Int)) (some ((a:Int) + 2))).reverse++cutD ps (some ((a:Int) + 2)) none) ((((g6.trans g8).snoc _).snoc _ |>.snoc _).snoc _) (by rw[get_new,zm,zm]) (by rw[zt,zt,yQ];walk_at "o") fun q hq=>hup q ?_
   rcases zN.mp hq with hq | hq
   ·rcases zN.mp hq with hq | hq
    ·exact cut_sub hq
    ·exact cut_sub (wV.mp hq)
   ·exact cut_sub hq
  ·refine sF (by decide) ?_
   walk_at "wr";refine sF (by decide) ?_;walk_at "wr";refine sF (by decide) ?_;walk_at "wr";refine sF (by decide) ?_;walk_at "wr";refine sT (by decide) ?_;walk_at "wr";refine⟨_,g6.keep _ _ hn,?_⟩;rw[k_lenl,zz];obtain⟨b,hb,hbl⟩:=pick_nat sc (i + 3) (m:=ns.length) (by walk_at "o");refine pick_w (k + n + 2) sc _ _ _ (by walk_at "o") (by walk_at "o") (by walk_at "o") ?_;rw[hb];have hnb:ns[b]?=some ns[b]:=zx hbl;generalize ns[b]=nb at hnb;have atB:atD (ns.map D.str) (b:Int)=some (.str nb):=atD_nat (by rw[zv,hnb];rfl);walk_at "wr";refine⟨_,g6.keep _ _ hn,_,rfl,_,atB,?_⟩;walk_at "wr";exact⟨by walk_at "o",q _ _ (IsC.sp (by walk_at "o") hup) g6⟩
  ·refine sF (by decide) ?_
   walk_at "wr";refine sF (by decide) ?_;walk_at "wr";refine sF (by decide) ?_;walk_at "wr";refine sF (by decide) ?_;walk_at "wr";refine sF (by decide) ?_;walk_at "wr";refine sT (by decide) ?_;walk_at "wr";exact leaf_w (k + n + 1) M6 sc (i + 3) p (by walk_at "o") (by walk_at "o") (by walk_at "o") fun d' M' h g=>q _ _ h.c (g6.trans g)
  ·refine sF (by decide) ?_
   walk_at "wr";refine sF (by decide) ?_;walk_at "wr";refine sF (by decide) ?_;walk_at "wr";refine sF (by decide) ?_;walk_at "wr";refine sF (by decide) ?_;walk_at "wr";refine sF (by decide) ?_;walk_at "wr";refine sT (by decide) ?_;walk_at "wr";refine⟨_,n6,_,rfl,_,atA,?_⟩;walk_at "wr";refine⟨by walk_at "o",_,n6,?_⟩;walk_at "wr";refine⟨a,ixA,?_⟩;have n8:(M6.set j6 (.lst ((ps.map prC2).set a (.tup [vD pa.1,.tup [.str "split",.str nm,.tup (ps.map prC2)]]))))[j6]?=some (.lst ((ps.set a (pa.1,.tup [.str "split",.str nm,.tup (ps.map prC2)])).map prC2)):=by rw[set_get n6,xb];rfl
   have g8:Gr M (M6.set j6 (.lst ((ps.map prC2).set a (.tup [vD pa.1,.tup [.str "split",.str nm,.tup (ps.map prC2)]])))):=g6.set (by walk_at "o") _;generalize M6.set j6 (.lst ((ps.map prC2).set a (.tup [vD pa.1,.tup [.str "split",.str nm,.tup (ps.map prC2)]])))=M8 at n8 g8 ⊢;walk_at "wr";exact fin _ _ _ _ _ g8 n8 (by rw[zQ];walk_at "o") fun q hq=>by
    rcases zW hq with hq | rfl
    ·exact hup q hq
    ·exact hself1
end
end Law
namespace Law
open PySem L3
section
variable {srt:List D->Option (List D)}{as vs:List Str}
theorem sub_rows:∀ (p:List Int) {n:Nat} {t s:Tr},Fit as vs n t->subT t p=some s->(rowsT s).length<=5
 | [],n,t,s,f,e=>by
  cases n with
  | zero=>exact f.elim
  | succ n =>
   rw[<- Option.some.inj (show some t=some s from e)];exact f.1
 | i::p,n,t,s,f,e=>by
  obtain⟨m,r,rfl,h1,h2⟩:=subT_cons e;cases n with
  | zero=>exact f.elim
  | succ n=>exact sub_rows p (f.2 r (zw h1)).2 h2
theorem names_ok {t:Tr}(fit:Fit as vs 5 t):(namesV t).Nodup/\(namesV t).length<=as.length:=by
 obtain⟨_,hbel⟩:=asksAt_ok fit (plB t) fun p h=>h;have hin:∀ y∈nmsV (bel t),y∈as:=fun y hy=>by
  obtain⟨a,h1,rfl⟩:=zU.mp hy;exact(hbel a h1).n
 exact⟨(sortS_perm _).nodup_iff.mpr (addAll_ok (as:=as) (nmsV (bel t)) [] xE (fun _ h=>nomatch h) hin).1,by
  unfold namesV;rw[(sortS_perm _).length_eq];exact addAll_le hin⟩
theorem law_w (sc:List Int):W ((cx srt 40).fn "law" [.fl (sc.map .int)]) [] fun v _=>v=.bl true:=by
 have big:=line_big;rw[f_law,wf,cut_S 8 b_law];have e0:D.tup []=plD []:=rfl;have tl:∀ (K:Nat) (_:K=39) (as vs ns:List Str) (t s0:Tr) (p:List Int) (many:Int) (ia iv iN jP jS jn:Nat) (ot:Str) (nl:List Str) (M:MH),Fit as vs 5 t->as.length<=3->1<=as.length->vs.length<=3->ns.length=6->subT t p=some s0->M[ia]?=some (.lst (as.map .str))->M[iN]?=some (.lst (ns.map .str))->SplAt M jS t->(∀ n∈nl,n∈namesV t)->nl.Nodup->nl.length<=3->M[jn]?=some (.lst (nl.map .str)) ->
   W (semSs (cx srt K) (dropS 8 b_law) [some (.fl (sc.map .int)),some (.tup [.ob ia,.ob iv,.ob iN,.str ot]),some (.int many),some (trD t),some (.ob jP),some (plD p),some (.ob jS),some (.ob jn),none,none,none,none]) M (endF fun v _=>v=.bl true):=by
  intro K hK as vs ns t s0 p many ia iv iN jP jS jn ot nl M fit a3 a1 v3 n6 hs hia hiN hS hin nd l3 hn;have hr5:=sub_rows p fit hs;have hp5:=sub_dep p fit hs;simp only[b_law,drop_s,drop_0];walk_at "wq";have g1:Gr M (M++[MO.dic []]):=Gr.app _ _;obtain⟨k1,hk1⟩:∃ k1,k1 + nl.length + 4=K:=⟨K - nl.length - 4,by walk_at "o"⟩;obtain⟨k2,hk2⟩:∃ k2,k2 + (nl.length + 1) + 4=K:=⟨K - nl.length - 5,by walk_at "o"⟩;obtain⟨k3,hk3⟩:∃ k3,k3 + 2 * (nl.length + 2) + 10 + 1=K:=⟨K - 2 * (nl.length + 2) - 11,by walk_at "o"⟩;obtain⟨k4,hk4⟩:∃ k4,k4 + (nl.length + 2) + 10=K:=⟨K - nl.length - 12,by walk_at "o"⟩;have hc:=case_w (srt:=srt) sc t s0 fit v3 p hs hr5 nl k1;rw[hk1]at hc;refine hc _ jS jn _ [] hin nd (fun _ _=>rfl) (by simp;walk_at "o") (hS.keep g1) (g1.keep _ _ hn) (get_new _ _) fun d M2 hd g2=>?_;have g2:=g1.trans g2;walk_at "wq";refine⟨_,g2.keep _ _ hiN,?_⟩;rw[cut_map];have c6:=cut_len ns (some (-1)) none;have g3:Gr M2 (M2++[MO.lst ((cutD ns (some (-1)) none).map D.str)]):=Gr.app _ _;have n3:(M2++[MO.lst ((cutD ns (some (-1)) none).map D.str)])[M2.length]?=some (.lst ((cutD ns (some (-1)) none).map D.str)):=get_new _ _;generalize M2++[MO.lst ((cutD ns (some (-1)) none).map D.str)]=M3 at n3 g3 ⊢;have g3:=g2.trans g3;refine⟨_,g3.keep _ _ hia,_,n3,by rw[zz,zz];walk_at "o",?_⟩;rw[<- zm];have g4:Gr M3 (M3++[MO.lst ((as++cutD ns (some (-1)) none).map D.str)]):=Gr.app _ _;have n4:(M3++[MO.lst ((as++cutD ns (some (-1)) none).map D.str)])[M3.length]?=some (.lst ((as++cutD ns (some (-1)) none).map D.str)):=get_new _ _;generalize M3++[MO.lst ((as++cutD ns (some (-1)) none).map D.str)]=M4 at n4 g4 ⊢;have g4:=g3.trans g4;have hb2:=bent_w (srt:=srt) sc p (by walk_at "o") M3.length (as++cutD ns (some (-1)) none) (by rw[zt];walk_at "o") (nl.length + 1) k2;rw[hk2]at hb2;refine hb2 _ _ _ hd n4 (by decide) (by walk_at "o") fun d' M5 hd' g5=>?_;have g5:=g4.trans g5;walk_at "wq";have hpk:=@pick_w srt (K - 2) sc;rw[show K - 2 + 2=K by walk_at "o"]at hpk;refine⟨by walk_at "o",hpk _ _ _ (by decide) (by decide) (by decide) ?_⟩;generalize pickV sc 144 3=pk;have n6:(M5++[MO.lst [d,d',d]])[M5.length]?=some (.lst [d,d',d]):=get_new _ _;have g6:=g5.snoc (MO.lst [d,d',d]);generalize M5++[MO.lst [d,d',d]]=M6 at n6 g6 ⊢;generalize M5.length=j9 at n6 ⊢;walk_at "wq";have hds:∀ x∈[d,d',d],IsC (nl.length + 2) x:=fun x hx=>by
   rcases zG.mp hx with rfl | hx
   ·exact hd.c.up
   rcases zG.mp hx with rfl | hx
   ·exact hd'
   ·rw[zb.mp hx]
    exact hd.c.up
  refine⟨.inl ⟨by decide,by decide⟩,_,n6,_,get_new _ _,?_⟩;have hcut:∀ x∈cutD [d,d',d] none (some (1 + 2 * if decide (0 < pk)=true then 1 else 0)),IsC (nl.length + 2) x:=fun x hx=>hds x (cut_sub hx);generalize cutD [d,d',d] none (some (1 + 2 * if decide (0 < pk)=true then 1 else 0))=cs at hcut ⊢;have n7:(M6++[MO.lst cs])[M6.length]?=some (.lst cs):=get_new _ _;have g7:=g6.snoc (MO.lst cs);generalize M6++[MO.lst cs]=M7 at n7 g7 ⊢;generalize M6.length=j10 at n7 ⊢;refine w_loop (fun m ρ M'=>Gr M7 M'/\∃ x10 x11,ρ=[some (.fl (sc.map .int)),some (.tup [.ob ia,.ob iv,.ob iN,.str ot]),some (.int many),some (trD t),some (.ob jP),some (plD p),some (.ob jS),some (.ob jn),some d,some (.ob j9),x10,x11]) ⟨Gr.refl,_,_,rfl⟩ (fun _ _ _ h=>h.1.keep _ _ n7) ?_ ?_
  ·rintro m x ρ M8 hx ⟨g8,x10,x11,rfl⟩
   obtain⟨b,hb,hl⟩:=both_all (srt:=srt) fit a3 v3 hs hr5 _ x [] (hcut x (zw hx)) xE (by show 0 + _<=_;walk_at "o");have hb:=hb k3;have hl:=hl k4;rw[hk4]at hl;have hbb:∀ (M:MH) (Q:D->MH->Prop),(∀ M',Gr M M'->Q (.bl b) M')->W ((cx srt K).fn "bears" [trD t,plD p,x]) M Q:=fun M Q q=>by
    rw[<- hk3,f_bears,wf,b_bears];walk_at "wq";exact⟨zI _,hb M _ q⟩
   walk_at "wq";refine hbb _ _ fun M9 g9=>?_;walk_at "wq";refine⟨by decide,fun _=>hl _ jS _ _ ((hS.keep (g7.trans (g8.trans g9))).keep (Gr.app _ _)) (get_new _ _) fun M10 g10=>?_⟩;walk_at "wq";refine⟨fun h=>by simp at h,fun _=>?_⟩;exact⟨g8.trans (g9.trans ((Gr.app _ _).trans g10)),_,_,rfl⟩
  ·rintro ρ M8 ⟨g8,x10,x11,rfl⟩
   walk_at "wq"
 generalize dropS 8 b_law=tail at tl ⊢;simp only[b_law,cut_s,cut_0];walk_at "wr";refine pool_w 35 sc [] fun d as vs ns ot M1 P1 _=>?_;walk_at "wr";refine pick_w 37 sc _ _ _ (by decide) (by decide) (by decide) ?_;obtain⟨a,ha,ha5⟩:=pick_nat sc 26 (m:=5) (by decide);rw[show ((5:Nat):Int)=5 from rfl]at ha;rw[ha];walk_at "wr";rw[show (1:Int) + (a:Int)=((a + 1:Nat):Int) by walk_at "o"];refine tree_w 33 sc (a + 1) M1 P1 (by walk_at "o") fun M2 g2 fit=>?_;have P2:=P1.keep g2;generalize treeV sc as vs ns ot (a + 1)=t at fit ⊢;obtain⟨ia,iv,iN,rfl,p2,p3,p4⟩:=P2.is;walk_at "wr";rw[e0];refine⟨zI _,lawPlaces_w 5 34 M2 t [] fit (by decide) (by decide) fun jP M3 g3 _ h3=>?_⟩;walk_at "wr";refine⟨_,h3,?_⟩;rw[k_lenl,zz];have hpl:1<=(pls 5 t []).length:=by rw[pls,zA];walk_at "o"
 obtain⟨b,hb,hbl⟩:=pick_nat sc 27 (m:=(pls 5 t []).length) (by walk_at "o");refine pick_w 37 sc _ _ _ (by decide) (by decide) (by walk_at "o") ?_;rw[hb];have hp:(pls 5 t [])[b]?=some (pls 5 t [])[b]:=zx hbl;generalize (pls 5 t [])[b]=p at hp;have hpm:=yg.mpr (zw hp);rw[pls_has fit]at hpm;obtain⟨s0,hs⟩:=zX.mp hpm;have atP:atD ((pls 5 t []).map plD) (b:Int)=some (plD p):=atD_nat (by rw[zv,hp];rfl);walk_at "wr";refine⟨_,h3,_,rfl,_,atP,?_⟩;walk_at "wr";refine splits_w 33 M3 t fit P2.a3 P2.v3 fun jS M4 g4 hS=>?_;walk_at "wr";obtain⟨E,e1,e2,e3⟩:=hS.is;refine⟨_,e1,?_⟩;rw[show (E.map fun e=>((.inr e.1:Ky),D.ob e.2)).map (fun kv=>dK kv.1)=(namesV t).map .str by rw[<- e2,yw,yw];rfl];have n5:(M4++[MO.lst ((namesV t).map D.str)])[M4.length]?=some (.lst ((namesV t).map .str)):=get_new _ _;have g5:Gr M4 (M4++[MO.lst ((namesV t).map D.str)]):=Gr.app _ _;generalize M4++[MO.lst ((namesV t).map D.str)]=M5 at n5 g5 ⊢;refine pick_w 37 sc _ _ _ (by decide) (by decide) (by decide) ?_;obtain⟨nd,nl⟩:=names_ok fit;have a3:=P2.a3;walk_at "wr";generalize (pickV sc 142 2==0)=rv;cases rv
 ·refine sF rfl ?_
  walk_at "wr";exact tl 39 rfl as vs ns t s0 p _ ia iv iN jP jS _ ot (namesV t) M5 fit a3 P2.a1 P2.v3 P2.n6 hs ((g3.trans (g4.trans g5)).keep _ _ p2) ((g3.trans (g4.trans g5)).keep _ _ p4) (hS.keep g5) (fun _ h=>h) nd (by walk_at "o") n5
 ·refine sT rfl ?_
  walk_at "wr";refine⟨_,n5,_,rfl,?_⟩;show W _ (M5.set M4.length (.lst ((namesV t).map D.str).reverse)) _;rw[<- wU];have n6:(M5.set M4.length (.lst ((namesV t).reverse.map D.str)))[M4.length]?=some (.lst ((namesV t).reverse.map D.str)):=set_get n5;have g6:Gr M4 (M5.set M4.length (.lst ((namesV t).reverse.map D.str))):=g5.set (zr _) _;generalize M5.set M4.length (.lst ((namesV t).reverse.map D.str))=M6 at n6 g6 ⊢;exact tl 39 rfl as vs ns t s0 p _ ia iv iN jP jS _ ot (namesV t).reverse M6 fit a3 P2.a1 P2.v3 P2.n6 hs ((g3.trans (g4.trans g6)).keep _ _ p2) ((g3.trans (g4.trans g6)).keep _ _ p4) (hS.keep g6) (fun _ h=>wV.mp h) ((List.reverse_perm _).nodup_iff.mpr nd) (by rw[yQ];walk_at "o") n6
theorem law_d (ns:List Int)(_:ns.length<=63):∃ M',(cx srt 40).fn "law" [.fl (ns.map .int)] []=some (.ok (.bl true),M'):=by
 obtain⟨a,M',e,rfl⟩:=law_w (srt:=srt) ns;exact⟨M',e⟩
end
end Law
namespace Law
open PySem PySem.Spec PySem.Calls PyProof.Rows L2 L3
def top (i:Nat):Stmt:=PySem.Challenge.pw_belfry_k31_cases_that_bear.main.body.getD i (.Pass ⟨0,0,0,0⟩)
noncomputable def glN:List Str:=[]
noncomputable def blN:List Str:=["all","any","bool","dict","enumerate","int","isinstance","len","list","range","set","sorted","tuple"]
noncomputable def e_has_name:Ent:=⟨"has_name",top 1,["marks","name"],["marks","name"],b_has_name⟩
noncomputable def e_value_in:Ent:=⟨"value_in",top 2,["marks","name","pair"],["marks","name"],b_value_in⟩
noncomputable def e_meets:Ent:=⟨"meets",top 4,["asking","marks","word","name","values"],["asking","marks"],b_meets⟩
noncomputable def e_meets_all:Ent:=⟨"meets_all",top 5,["askings","marks"],["askings","marks"],b_meets_all⟩
noncomputable def e_names_in:Ent:=⟨"names_in",top 6,["askings"],["askings"],b_names_in⟩
noncomputable def e_values_beside:Ent:=⟨"values_beside",top 7,["askings","name","values","asking"],["askings","name"],b_values_beside⟩
noncomputable def e_places_from:Ent:=⟨"places_from",top 12,["row","place","found","k","below"],["row","place"],b_places_from⟩
noncomputable def e_places:Ent:=⟨"places",top 13,["tree"],["tree"],b_places⟩
noncomputable def e_row_at:Ent:=⟨"row_at",top 14,["tree","place","row","k"],["tree","place"],b_row_at⟩
noncomputable def e_askings_at:Ent:=⟨"askings_at",top 16,["tree","some_places","askings","place"],["tree","some_places"],b_askings_at⟩
noncomputable def e_askings_below:Ent:=⟨"askings_below",top 17,["tree"],["tree"],b_askings_below⟩
noncomputable def e_values_with:Ent:=⟨"values_with",top 18,["tree","name"],["tree","name"],b_values_with⟩
noncomputable def e_names_asked:Ent:=⟨"names_asked",top 19,["tree"],["tree"],b_names_asked⟩
noncomputable def e_values_to_split:Ent:=⟨"values_to_split",top 20,["tree","name"],["tree","name"],b_values_to_split⟩
noncomputable def e_marks_split:Ent:=⟨"marks_split",top 21,["split"],["split"],b_marks_split⟩
noncomputable def e_lies_above:Ent:=⟨"lies_above",top 22,["at","place"],["at","place"],b_lies_above⟩
noncomputable def e_takes_away:Ent:=⟨"takes_away",top 23,["tree","at","place","above"],["tree","at","place"],b_takes_away⟩
noncomputable def e_fails:Ent:=⟨"fails",top 24,["tree","at","place","split","marks"],["tree","at","place","split"],b_fails⟩
noncomputable def e_is_caught:Ent:=⟨"is_caught",top 25,["tree","at","place","split","askings"],["tree","at","place","split"],b_is_caught⟩
noncomputable def e_bears_for:Ent:=⟨"bears_for",top 26,["tree","place","case","split"],["tree","place","case","split"],b_bears_for⟩
noncomputable def e_bears_split:Ent:=⟨"bears_split",top 27,["tree","place","case","split","name"],["tree","place","case","split"],b_bears_split⟩
noncomputable def e_bears:Ent:=⟨"bears",top 28,["tree","place","case"],["tree","place","case"],b_bears⟩
noncomputable def e__law_mixed:Ent:=⟨"_law_mixed",top 30,["_law_script","_law_k","_law_number"],["_law_script","_law_k"],b__law_mixed⟩
noncomputable def e__law_pick:Ent:=⟨"_law_pick",top 31,["_law_script","_law_k","_law_many"],["_law_script","_law_k","_law_many"],b__law_pick⟩
noncomputable def e__law_words:Ent:=⟨"_law_words",top 32,["_law_script","_law_k","_law_signs","_law_many","_law_word","_law_way","_law_at_here","_law_first","_law_some","_law_j","_law_sign"],["_law_script","_law_k","_law_signs","_law_many"],b__law_words⟩
noncomputable def e__law_pool:Ent:=⟨"_law_pool",top 33,["_law_script","_law_k","_law_names","_law_values","_law_turn","_law_asked"],["_law_script","_law_k"],b__law_pool⟩
noncomputable def e__law_asking:Ent:=⟨"_law_asking",top 34,["_law_script","_law_k","_law_pool_here","_law_name","_law_word","_law_first","_law_some"],["_law_script","_law_k","_law_pool_here"],b__law_asking⟩
noncomputable def e__law_askings:Ent:=⟨"_law_askings",top 35,["_law_script","_law_k","_law_many","_law_pool_here"],["_law_script","_law_k","_law_many","_law_pool_here"],b__law_askings⟩
noncomputable def e__law_nodes:Ent:=⟨"_law_nodes",top 36,["_law_script","_law_k","_law_many","_law_pool_here","_law_nodes_here","_law_j","_law_at_here","_law_some","_law_turn","_law_names","_law_over","_law_node","_law_head"],["_law_script","_law_k","_law_many","_law_pool_here"],b__law_nodes⟩
noncomputable def e__law_row:Ent:=⟨"_law_row",top 37,["_law_nodes_here","_law_j","_law_node"],["_law_nodes_here","_law_j"],b__law_row⟩
noncomputable def e__law_tree:Ent:=⟨"_law_tree",top 38,["_law_script","_law_k","_law_many","_law_pool_here","_law_nodes_here"],["_law_script","_law_k","_law_many","_law_pool_here"],b__law_tree⟩
noncomputable def e__law_met:Ent:=⟨"_law_met",top 39,["_law_asking_here","_law_value"],["_law_asking_here","_law_value"],b__law_met⟩
noncomputable def e__law_places:Ent:=⟨"_law_places",top 40,["_law_row_here","_law_place","_law_found","_law_j"],["_law_row_here","_law_place"],b__law_places⟩
noncomputable def e__law_at:Ent:=⟨"_law_at",top 41,["_law_tree_here","_law_place","_law_j"],["_law_tree_here","_law_place"],b__law_at⟩
noncomputable def e__law_splits:Ent:=⟨"_law_splits",top 42,["_law_tree_here","_law_some","_law_place","_law_asking_here","_law_found","_law_name"],["_law_tree_here"],b__law_splits⟩
noncomputable def e__law_lower:Ent:=⟨"_law_lower",top 43,["_law_tree_here","_law_at_here","_law_known","_law_asking_here"],["_law_tree_here","_law_at_here","_law_known"],b__law_lower⟩
noncomputable def e__law_upper:Ent:=⟨"_law_upper",top 44,["_law_tree_here","_law_at_here","_law_known","_law_asking_here"],["_law_tree_here","_law_at_here","_law_known"],b__law_upper⟩
noncomputable def e__law_in_the_way:Ent:=⟨"_law_in_the_way",top 45,["_law_tree_here","_law_place","_law_found","_law_size","_law_j"],["_law_tree_here","_law_place"],b__law_in_the_way⟩
noncomputable def e__law_bears:Ent:=⟨"_law_bears",top 46,["_law_tree_here","_law_place","_law_splits_here","_law_case_here","_law_known","_law_value","_law_below","_law_more"],["_law_tree_here","_law_place","_law_splits_here","_law_case_here","_law_known"],b__law_bears⟩
noncomputable def e__law_end:Ent:=⟨"_law_end",top 47,["_law_script","_law_tree_here","_law_place","_law_known","_law_size","_law_at_here"],["_law_script","_law_tree_here","_law_place","_law_known"],b__law_end⟩
noncomputable def e__law_case:Ent:=⟨"_law_case",top 48,["_law_script","_law_tree_here","_law_place","_law_splits_here","_law_names","_law_known","_law_case_here","_law_pairs","_law_value","_law_more"],["_law_script","_law_tree_here","_law_place","_law_splits_here","_law_names","_law_known"],b__law_case⟩
noncomputable def e__law_leaf:Ent:=⟨"_law_leaf",top 49,["_law_script","_law_k","_law_place","_law_spots","_law_word"],["_law_script","_law_k","_law_place"],b__law_leaf⟩
noncomputable def e__law_bent:Ent:=⟨"_law_bent",top 50,["_law_script","_law_k","_law_place","_law_names","_law_case_here","_law_way","_law_pairs","_law_at_here","_law_both"],["_law_script","_law_k","_law_place","_law_names","_law_case_here"],b__law_bent⟩
noncomputable def e_law:Ent:=⟨"law",top 51,["_law_script","_law_pool_here","_law_many","_law_tree_here","_law_some","_law_place","_law_splits_here","_law_names","_law_case_here","_law_cases","_law_one","_law_found"],["_law_script"],b_law⟩
noncomputable def ents:List Ent:=[e_has_name,e_value_in,e_meets,e_meets_all,e_names_in,e_values_beside,e_places_from,e_places,e_row_at,e_askings_at,e_askings_below,e_values_with,e_names_asked,e_values_to_split,e_marks_split,e_lies_above,e_takes_away,e_fails,e_is_caught,e_bears_for,e_bears_split,e_bears,e__law_mixed,e__law_pick,e__law_words,e__law_pool,e__law_asking,e__law_askings,e__law_nodes,e__law_row,e__law_tree,e__law_met,e__law_places,e__law_at,e__law_splits,e__law_lower,e__law_upper,e__law_in_the_way,e__law_bears,e__law_end,e__law_case,e__law_leaf,e__law_bent,e_law]
theorem tab_eq:tabOf ents=tab:=rfl
theorem c_has_name:cSs ⟨defScope (top 1),e_has_name.N,ents.map (·.x),glN,blN⟩ 200 (defBody (top 1))=some b_has_name:=by kernel_rfl
theorem s_has_name:FnScope e_has_name.N e_has_name.ps (defScope (top 1)):=⟨rfl,rfl,rfl,by decide +kernel,rfl,by decide +kernel,by decide +kernel⟩
theorem t_has_name:(tabOf ents).lookup e_has_name.x=some ⟨e_has_name.N.length,e_has_name.ps.length,e_has_name.b⟩:=by kernel_rfl
theorem c_value_in:cSs ⟨defScope (top 2),e_value_in.N,ents.map (·.x),glN,blN⟩ 200 (defBody (top 2))=some b_value_in:=by kernel_rfl
theorem s_value_in:FnScope e_value_in.N e_value_in.ps (defScope (top 2)):=⟨rfl,rfl,rfl,by decide +kernel,rfl,by decide +kernel,by decide +kernel⟩
theorem t_value_in:(tabOf ents).lookup e_value_in.x=some ⟨e_value_in.N.length,e_value_in.ps.length,e_value_in.b⟩:=by kernel_rfl
theorem c_meets:cSs ⟨defScope (top 4),e_meets.N,ents.map (·.x),glN,blN⟩ 200 (defBody (top 4))=some b_meets:=by kernel_rfl
theorem s_meets:FnScope e_meets.N e_meets.ps (defScope (top 4)):=⟨rfl,rfl,rfl,by decide +kernel,rfl,by decide +kernel,by decide +kernel⟩
theorem t_meets:(tabOf ents).lookup e_meets.x=some ⟨e_meets.N.length,e_meets.ps.length,e_meets.b⟩:=by kernel_rfl
theorem c_meets_all:cSs ⟨defScope (top 5),e_meets_all.N,ents.map (·.x),glN,blN⟩ 200 (defBody (top 5))=some b_meets_all:=by kernel_rfl
theorem s_meets_all:FnScope e_meets_all.N e_meets_all.ps (defScope (top 5)):=⟨rfl,rfl,rfl,by decide +kernel,rfl,by decide +kernel,by decide +kernel⟩
theorem t_meets_all:(tabOf ents).lookup e_meets_all.x=some ⟨e_meets_all.N.length,e_meets_all.ps.length,e_meets_all.b⟩:=by kernel_rfl
theorem c_names_in:cSs ⟨defScope (top 6),e_names_in.N,ents.map (·.x),glN,blN⟩ 200 (defBody (top 6))=some b_names_in:=by kernel_rfl
theorem s_names_in:FnScope e_names_in.N e_names_in.ps (defScope (top 6)):=⟨rfl,rfl,rfl,by decide +kernel,rfl,by decide +kernel,by decide +kernel⟩
theorem t_names_in:(tabOf ents).lookup e_names_in.x=some ⟨e_names_in.N.length,e_names_in.ps.length,e_names_in.b⟩:=by kernel_rfl
theorem c_values_beside:cSs ⟨defScope (top 7),e_values_beside.N,ents.map (·.x),glN,blN⟩ 200 (defBody (top 7))=some b_values_beside:=by kernel_rfl
theorem s_values_beside:FnScope e_values_beside.N e_values_beside.ps (defScope (top 7)):=⟨rfl,rfl,rfl,by decide +kernel,rfl,by decide +kernel,by decide +kernel⟩
theorem t_values_beside:(tabOf ents).lookup e_values_beside.x=some ⟨e_values_beside.N.length,e_values_beside.ps.length,e_values_beside.b⟩:=by kernel_rfl
theorem c_places_from:cSs ⟨defScope (top 12),e_places_from.N,ents.map (·.x),glN,blN⟩ 200 (defBody (top 12))=some b_places_from:=by kernel_rfl
theorem s_places_from:FnScope e_places_from.N e_places_from.ps (defScope (top 12)):=⟨rfl,rfl,rfl,by decide +kernel,rfl,by decide +kernel,by decide +kernel⟩
theorem t_places_from:(tabOf ents).lookup e_places_from.x=some ⟨e_places_from.N.length,e_places_from.ps.length,e_places_from.b⟩:=by kernel_rfl
theorem c_places:cSs ⟨defScope (top 13),e_places.N,ents.map (·.x),glN,blN⟩ 200 (defBody (top 13))=some b_places:=by kernel_rfl
theorem s_places:FnScope e_places.N e_places.ps (defScope (top 13)):=⟨rfl,rfl,rfl,by decide +kernel,rfl,by decide +kernel,by decide +kernel⟩
theorem t_places:(tabOf ents).lookup e_places.x=some ⟨e_places.N.length,e_places.ps.length,e_places.b⟩:=by kernel_rfl
theorem c_row_at:cSs ⟨defScope (top 14),e_row_at.N,ents.map (·.x),glN,blN⟩ 200 (defBody (top 14))=some b_row_at:=by kernel_rfl
theorem s_row_at:FnScope e_row_at.N e_row_at.ps (defScope (top 14)):=⟨rfl,rfl,rfl,by decide +kernel,rfl,by decide +kernel,by decide +kernel⟩
theorem t_row_at:(tabOf ents).lookup e_row_at.x=some ⟨e_row_at.N.length,e_row_at.ps.length,e_row_at.b⟩:=by kernel_rfl
theorem c_askings_at:cSs ⟨defScope (top 16),e_askings_at.N,ents.map (·.x),glN,blN⟩ 200 (defBody (top 16))=some b_askings_at:=by kernel_rfl
theorem s_askings_at:FnScope e_askings_at.N e_askings_at.ps (defScope (top 16)):=⟨rfl,rfl,rfl,by decide +kernel,rfl,by decide +kernel,by decide +kernel⟩
theorem t_askings_at:(tabOf ents).lookup e_askings_at.x=some ⟨e_askings_at.N.length,e_askings_at.ps.length,e_askings_at.b⟩:=by kernel_rfl
theorem c_askings_below:cSs ⟨defScope (top 17),e_askings_below.N,ents.map (·.x),glN,blN⟩ 200 (defBody (top 17))=some b_askings_below:=by kernel_rfl
theorem s_askings_below:FnScope e_askings_below.N e_askings_below.ps (defScope (top 17)):=⟨rfl,rfl,rfl,by decide +kernel,rfl,by decide +kernel,by decide +kernel⟩
theorem t_askings_below:(tabOf ents).lookup e_askings_below.x=some ⟨e_askings_below.N.length,e_askings_below.ps.length,e_askings_below.b⟩:=by kernel_rfl
theorem c_values_with:cSs ⟨defScope (top 18),e_values_with.N,ents.map (·.x),glN,blN⟩ 200 (defBody (top 18))=some b_values_with:=by kernel_rfl
theorem s_values_with:FnScope e_values_with.N e_values_with.ps (defScope (top 18)):=⟨rfl,rfl,rfl,by decide +kernel,rfl,by decide +kernel,by decide +kernel⟩
theorem t_values_with:(tabOf ents).lookup e_values_with.x=some ⟨e_values_with.N.length,e_values_with.ps.length,e_values_with.b⟩:=by kernel_rfl
theorem c_names_asked:cSs ⟨defScope (top 19),e_names_asked.N,ents.map (·.x),glN,blN⟩ 200 (defBody (top 19))=some b_names_asked:=by kernel_rfl
theorem s_names_asked:FnScope e_names_asked.N e_names_asked.ps (defScope (top 19)):=⟨rfl,rfl,rfl,by decide +kernel,rfl,by decide +kernel,by decide +kernel⟩
theorem t_names_asked:(tabOf ents).lookup e_names_asked.x=some ⟨e_names_asked.N.length,e_names_asked.ps.length,e_names_asked.b⟩:=by kernel_rfl
theorem c_values_to_split:cSs ⟨defScope (top 20),e_values_to_split.N,ents.map (·.x),glN,blN⟩ 200 (defBody (top 20))=some b_values_to_split:=by kernel_rfl
theorem s_values_to_split:FnScope e_values_to_split.N e_values_to_split.ps (defScope (top 20)):=⟨rfl,rfl,rfl,by decide +kernel,rfl,by decide +kernel,by decide +kernel⟩
theorem t_values_to_split:(tabOf ents).lookup e_values_to_split.x=some ⟨e_values_to_split.N.length,e_values_to_split.ps.length,e_values_to_split.b⟩:=by kernel_rfl
theorem c_marks_split:cSs ⟨defScope (top 21),e_marks_split.N,ents.map (·.x),glN,blN⟩ 200 (defBody (top 21))=some b_marks_split:=by kernel_rfl
theorem s_marks_split:FnScope e_marks_split.N e_marks_split.ps (defScope (top 21)):=⟨rfl,rfl,rfl,by decide +kernel,rfl,by decide +kernel,by decide +kernel⟩
theorem t_marks_split:(tabOf ents).lookup e_marks_split.x=some ⟨e_marks_split.N.length,e_marks_split.ps.length,e_marks_split.b⟩:=by kernel_rfl
theorem c_lies_above:cSs ⟨defScope (top 22),e_lies_above.N,ents.map (·.x),glN,blN⟩ 200 (defBody (top 22))=some b_lies_above:=by kernel_rfl
theorem s_lies_above:FnScope e_lies_above.N e_lies_above.ps (defScope (top 22)):=⟨rfl,rfl,rfl,by decide +kernel,rfl,by decide +kernel,by decide +kernel⟩
theorem t_lies_above:(tabOf ents).lookup e_lies_above.x=some ⟨e_lies_above.N.length,e_lies_above.ps.length,e_lies_above.b⟩:=by kernel_rfl
theorem c_takes_away:cSs ⟨defScope (top 23),e_takes_away.N,ents.map (·.x),glN,blN⟩ 200 (defBody (top 23))=some b_takes_away:=by kernel_rfl
theorem s_takes_away:FnScope e_takes_away.N e_takes_away.ps (defScope (top 23)):=⟨rfl,rfl,rfl,by decide +kernel,rfl,by decide +kernel,by decide +kernel⟩
theorem t_takes_away:(tabOf ents).lookup e_takes_away.x=some ⟨e_takes_away.N.length,e_takes_away.ps.length,e_takes_away.b⟩:=by kernel_rfl
theorem c_fails:cSs ⟨defScope (top 24),e_fails.N,ents.map (·.x),glN,blN⟩ 200 (defBody (top 24))=some b_fails:=by kernel_rfl
theorem s_fails:FnScope e_fails.N e_fails.ps (defScope (top 24)):=⟨rfl,rfl,rfl,by decide +kernel,rfl,by decide +kernel,by decide +kernel⟩
theorem t_fails:(tabOf ents).lookup e_fails.x=some ⟨e_fails.N.length,e_fails.ps.length,e_fails.b⟩:=by kernel_rfl
theorem c_is_caught:cSs ⟨defScope (top 25),e_is_caught.N,ents.map (·.x),glN,blN⟩ 200 (defBody (top 25))=some b_is_caught:=by kernel_rfl
theorem s_is_caught:FnScope e_is_caught.N e_is_caught.ps (defScope (top 25)):=⟨rfl,rfl,rfl,by decide +kernel,rfl,by decide +kernel,by decide +kernel⟩
theorem t_is_caught:(tabOf ents).lookup e_is_caught.x=some ⟨e_is_caught.N.length,e_is_caught.ps.length,e_is_caught.b⟩:=by kernel_rfl
theorem c_bears_for:cSs ⟨defScope (top 26),e_bears_for.N,ents.map (·.x),glN,blN⟩ 200 (defBody (top 26))=some b_bears_for:=by kernel_rfl
theorem s_bears_for:FnScope e_bears_for.N e_bears_for.ps (defScope (top 26)):=⟨rfl,rfl,rfl,by decide +kernel,rfl,by decide +kernel,by decide +kernel⟩
theorem t_bears_for:(tabOf ents).lookup e_bears_for.x=some ⟨e_bears_for.N.length,e_bears_for.ps.length,e_bears_for.b⟩:=by kernel_rfl
theorem c_bears_split:cSs ⟨defScope (top 27),e_bears_split.N,ents.map (·.x),glN,blN⟩ 200 (defBody (top 27))=some b_bears_split:=by kernel_rfl
theorem s_bears_split:FnScope e_bears_split.N e_bears_split.ps (defScope (top 27)):=⟨rfl,rfl,rfl,by decide +kernel,rfl,by decide +kernel,by decide +kernel⟩
theorem t_bears_split:(tabOf ents).lookup e_bears_split.x=some ⟨e_bears_split.N.length,e_bears_split.ps.length,e_bears_split.b⟩:=by kernel_rfl
theorem c_bears:cSs ⟨defScope (top 28),e_bears.N,ents.map (·.x),glN,blN⟩ 200 (defBody (top 28))=some b_bears:=by kernel_rfl
theorem s_bears:FnScope e_bears.N e_bears.ps (defScope (top 28)):=⟨rfl,rfl,rfl,by decide +kernel,rfl,by decide +kernel,by decide +kernel⟩
theorem t_bears:(tabOf ents).lookup e_bears.x=some ⟨e_bears.N.length,e_bears.ps.length,e_bears.b⟩:=by kernel_rfl
theorem c__law_mixed:cSs ⟨defScope (top 30),e__law_mixed.N,ents.map (·.x),glN,blN⟩ 200 (defBody (top 30))=some b__law_mixed:=by kernel_rfl
theorem s__law_mixed:FnScope e__law_mixed.N e__law_mixed.ps (defScope (top 30)):=⟨rfl,rfl,rfl,by decide +kernel,rfl,by decide +kernel,by decide +kernel⟩
theorem t__law_mixed:(tabOf ents).lookup e__law_mixed.x=some ⟨e__law_mixed.N.length,e__law_mixed.ps.length,e__law_mixed.b⟩:=by kernel_rfl
theorem c__law_pick:cSs ⟨defScope (top 31),e__law_pick.N,ents.map (·.x),glN,blN⟩ 200 (defBody (top 31))=some b__law_pick:=by kernel_rfl
theorem s__law_pick:FnScope e__law_pick.N e__law_pick.ps (defScope (top 31)):=⟨rfl,rfl,rfl,by decide +kernel,rfl,by decide +kernel,by decide +kernel⟩
theorem t__law_pick:(tabOf ents).lookup e__law_pick.x=some ⟨e__law_pick.N.length,e__law_pick.ps.length,e__law_pick.b⟩:=by kernel_rfl
theorem c__law_words:cSs ⟨defScope (top 32),e__law_words.N,ents.map (·.x),glN,blN⟩ 200 (defBody (top 32))=some b__law_words:=by kernel_rfl
theorem s__law_words:FnScope e__law_words.N e__law_words.ps (defScope (top 32)):=⟨rfl,rfl,rfl,by decide +kernel,rfl,by decide +kernel,by decide +kernel⟩
theorem t__law_words:(tabOf ents).lookup e__law_words.x=some ⟨e__law_words.N.length,e__law_words.ps.length,e__law_words.b⟩:=by kernel_rfl
theorem c__law_pool:cSs ⟨defScope (top 33),e__law_pool.N,ents.map (·.x),glN,blN⟩ 200 (defBody (top 33))=some b__law_pool:=by kernel_rfl
theorem s__law_pool:FnScope e__law_pool.N e__law_pool.ps (defScope (top 33)):=⟨rfl,rfl,rfl,by decide +kernel,rfl,by decide +kernel,by decide +kernel⟩
theorem t__law_pool:(tabOf ents).lookup e__law_pool.x=some ⟨e__law_pool.N.length,e__law_pool.ps.length,e__law_pool.b⟩:=by kernel_rfl
theorem c__law_asking:cSs ⟨defScope (top 34),e__law_asking.N,ents.map (·.x),glN,blN⟩ 200 (defBody (top 34))=some b__law_asking:=by kernel_rfl
theorem s__law_asking:FnScope e__law_asking.N e__law_asking.ps (defScope (top 34)):=⟨rfl,rfl,rfl,by decide +kernel,rfl,by decide +kernel,by decide +kernel⟩
theorem t__law_asking:(tabOf ents).lookup e__law_asking.x=some ⟨e__law_asking.N.length,e__law_asking.ps.length,e__law_asking.b⟩:=by kernel_rfl
theorem c__law_askings:cSs ⟨defScope (top 35),e__law_askings.N,ents.map (·.x),glN,blN⟩ 200 (defBody (top 35))=some b__law_askings:=by kernel_rfl
theorem s__law_askings:FnScope e__law_askings.N e__law_askings.ps (defScope (top 35)):=⟨rfl,rfl,rfl,by decide +kernel,rfl,by decide +kernel,by decide +kernel⟩
theorem t__law_askings:(tabOf ents).lookup e__law_askings.x=some ⟨e__law_askings.N.length,e__law_askings.ps.length,e__law_askings.b⟩:=by kernel_rfl
theorem c__law_nodes:cSs ⟨defScope (top 36),e__law_nodes.N,ents.map (·.x),glN,blN⟩ 200 (defBody (top 36))=some b__law_nodes:=by kernel_rfl
theorem s__law_nodes:FnScope e__law_nodes.N e__law_nodes.ps (defScope (top 36)):=⟨rfl,rfl,rfl,by decide +kernel,rfl,by decide +kernel,by decide +kernel⟩
theorem t__law_nodes:(tabOf ents).lookup e__law_nodes.x=some ⟨e__law_nodes.N.length,e__law_nodes.ps.length,e__law_nodes.b⟩:=by kernel_rfl
theorem c__law_row:cSs ⟨defScope (top 37),e__law_row.N,ents.map (·.x),glN,blN⟩ 200 (defBody (top 37))=some b__law_row:=by kernel_rfl
theorem s__law_row:FnScope e__law_row.N e__law_row.ps (defScope (top 37)):=⟨rfl,rfl,rfl,by decide +kernel,rfl,by decide +kernel,by decide +kernel⟩
theorem t__law_row:(tabOf ents).lookup e__law_row.x=some ⟨e__law_row.N.length,e__law_row.ps.length,e__law_row.b⟩:=by kernel_rfl
theorem c__law_tree:cSs ⟨defScope (top 38),e__law_tree.N,ents.map (·.x),glN,blN⟩ 200 (defBody (top 38))=some b__law_tree:=by kernel_rfl
theorem s__law_tree:FnScope e__law_tree.N e__law_tree.ps (defScope (top 38)):=⟨rfl,rfl,rfl,by decide +kernel,rfl,by decide +kernel,by decide +kernel⟩
theorem t__law_tree:(tabOf ents).lookup e__law_tree.x=some ⟨e__law_tree.N.length,e__law_tree.ps.length,e__law_tree.b⟩:=by kernel_rfl
theorem c__law_met:cSs ⟨defScope (top 39),e__law_met.N,ents.map (·.x),glN,blN⟩ 200 (defBody (top 39))=some b__law_met:=by kernel_rfl
theorem s__law_met:FnScope e__law_met.N e__law_met.ps (defScope (top 39)):=⟨rfl,rfl,rfl,by decide +kernel,rfl,by decide +kernel,by decide +kernel⟩
theorem t__law_met:(tabOf ents).lookup e__law_met.x=some ⟨e__law_met.N.length,e__law_met.ps.length,e__law_met.b⟩:=by kernel_rfl
theorem c__law_places:cSs ⟨defScope (top 40),e__law_places.N,ents.map (·.x),glN,blN⟩ 200 (defBody (top 40))=some b__law_places:=by kernel_rfl
theorem s__law_places:FnScope e__law_places.N e__law_places.ps (defScope (top 40)):=⟨rfl,rfl,rfl,by decide +kernel,rfl,by decide +kernel,by decide +kernel⟩
theorem t__law_places:(tabOf ents).lookup e__law_places.x=some ⟨e__law_places.N.length,e__law_places.ps.length,e__law_places.b⟩:=by kernel_rfl
theorem c__law_at:cSs ⟨defScope (top 41),e__law_at.N,ents.map (·.x),glN,blN⟩ 200 (defBody (top 41))=some b__law_at:=by kernel_rfl
theorem s__law_at:FnScope e__law_at.N e__law_at.ps (defScope (top 41)):=⟨rfl,rfl,rfl,by decide +kernel,rfl,by decide +kernel,by decide +kernel⟩
theorem t__law_at:(tabOf ents).lookup e__law_at.x=some ⟨e__law_at.N.length,e__law_at.ps.length,e__law_at.b⟩:=by kernel_rfl
theorem c__law_splits:cSs ⟨defScope (top 42),e__law_splits.N,ents.map (·.x),glN,blN⟩ 200 (defBody (top 42))=some b__law_splits:=by kernel_rfl
theorem s__law_splits:FnScope e__law_splits.N e__law_splits.ps (defScope (top 42)):=⟨rfl,rfl,rfl,by decide +kernel,rfl,by decide +kernel,by decide +kernel⟩
theorem t__law_splits:(tabOf ents).lookup e__law_splits.x=some ⟨e__law_splits.N.length,e__law_splits.ps.length,e__law_splits.b⟩:=by kernel_rfl
theorem c__law_lower:cSs ⟨defScope (top 43),e__law_lower.N,ents.map (·.x),glN,blN⟩ 200 (defBody (top 43))=some b__law_lower:=by kernel_rfl
theorem s__law_lower:FnScope e__law_lower.N e__law_lower.ps (defScope (top 43)):=⟨rfl,rfl,rfl,by decide +kernel,rfl,by decide +kernel,by decide +kernel⟩
theorem t__law_lower:(tabOf ents).lookup e__law_lower.x=some ⟨e__law_lower.N.length,e__law_lower.ps.length,e__law_lower.b⟩:=by kernel_rfl
theorem c__law_upper:cSs ⟨defScope (top 44),e__law_upper.N,ents.map (·.x),glN,blN⟩ 200 (defBody (top 44))=some b__law_upper:=by kernel_rfl
theorem s__law_upper:FnScope e__law_upper.N e__law_upper.ps (defScope (top 44)):=⟨rfl,rfl,rfl,by decide +kernel,rfl,by decide +kernel,by decide +kernel⟩
theorem t__law_upper:(tabOf ents).lookup e__law_upper.x=some ⟨e__law_upper.N.length,e__law_upper.ps.length,e__law_upper.b⟩:=by kernel_rfl
theorem c__law_in_the_way:cSs ⟨defScope (top 45),e__law_in_the_way.N,ents.map (·.x),glN,blN⟩ 200 (defBody (top 45))=some b__law_in_the_way:=by kernel_rfl
theorem s__law_in_the_way:FnScope e__law_in_the_way.N e__law_in_the_way.ps (defScope (top 45)):=⟨rfl,rfl,rfl,by decide +kernel,rfl,by decide +kernel,by decide +kernel⟩
theorem t__law_in_the_way:(tabOf ents).lookup e__law_in_the_way.x=some ⟨e__law_in_the_way.N.length,e__law_in_the_way.ps.length,e__law_in_the_way.b⟩:=by kernel_rfl
theorem c__law_bears:cSs ⟨defScope (top 46),e__law_bears.N,ents.map (·.x),glN,blN⟩ 200 (defBody (top 46))=some b__law_bears:=by kernel_rfl
theorem s__law_bears:FnScope e__law_bears.N e__law_bears.ps (defScope (top 46)):=⟨rfl,rfl,rfl,by decide +kernel,rfl,by decide +kernel,by decide +kernel⟩
theorem t__law_bears:(tabOf ents).lookup e__law_bears.x=some ⟨e__law_bears.N.length,e__law_bears.ps.length,e__law_bears.b⟩:=by kernel_rfl
theorem c__law_end:cSs ⟨defScope (top 47),e__law_end.N,ents.map (·.x),glN,blN⟩ 200 (defBody (top 47))=some b__law_end:=by kernel_rfl
theorem s__law_end:FnScope e__law_end.N e__law_end.ps (defScope (top 47)):=⟨rfl,rfl,rfl,by decide +kernel,rfl,by decide +kernel,by decide +kernel⟩
theorem t__law_end:(tabOf ents).lookup e__law_end.x=some ⟨e__law_end.N.length,e__law_end.ps.length,e__law_end.b⟩:=by kernel_rfl
theorem c__law_case:cSs ⟨defScope (top 48),e__law_case.N,ents.map (·.x),glN,blN⟩ 200 (defBody (top 48))=some b__law_case:=by kernel_rfl
theorem s__law_case:FnScope e__law_case.N e__law_case.ps (defScope (top 48)):=⟨rfl,rfl,rfl,by decide +kernel,rfl,by decide +kernel,by decide +kernel⟩
theorem t__law_case:(tabOf ents).lookup e__law_case.x=some ⟨e__law_case.N.length,e__law_case.ps.length,e__law_case.b⟩:=by kernel_rfl
theorem c__law_leaf:cSs ⟨defScope (top 49),e__law_leaf.N,ents.map (·.x),glN,blN⟩ 200 (defBody (top 49))=some b__law_leaf:=by kernel_rfl
theorem s__law_leaf:FnScope e__law_leaf.N e__law_leaf.ps (defScope (top 49)):=⟨rfl,rfl,rfl,by decide +kernel,rfl,by decide +kernel,by decide +kernel⟩
theorem t__law_leaf:(tabOf ents).lookup e__law_leaf.x=some ⟨e__law_leaf.N.length,e__law_leaf.ps.length,e__law_leaf.b⟩:=by kernel_rfl
theorem c__law_bent:cSs ⟨defScope (top 50),e__law_bent.N,ents.map (·.x),glN,blN⟩ 200 (defBody (top 50))=some b__law_bent:=by kernel_rfl
theorem s__law_bent:FnScope e__law_bent.N e__law_bent.ps (defScope (top 50)):=⟨rfl,rfl,rfl,by decide +kernel,rfl,by decide +kernel,by decide +kernel⟩
theorem t__law_bent:(tabOf ents).lookup e__law_bent.x=some ⟨e__law_bent.N.length,e__law_bent.ps.length,e__law_bent.b⟩:=by kernel_rfl
theorem c_law:cSs ⟨defScope (top 51),e_law.N,ents.map (·.x),glN,blN⟩ 200 (defBody (top 51))=some b_law:=by kernel_rfl
theorem s_law:FnScope e_law.N e_law.ps (defScope (top 51)):=⟨rfl,rfl,rfl,by decide +kernel,rfl,by decide +kernel,by decide +kernel⟩
theorem t_law:(tabOf ents).lookup e_law.x=some ⟨e_law.N.length,e_law.ps.length,e_law.b⟩:=by kernel_rfl
noncomputable def recs:List DefRec:=[recT ("has_name" : Str) (top 1),recT ("value_in" : Str) (top 2),recT ("meets" : Str) (top 4),recT ("meets_all" : Str) (top 5),recT ("names_in" : Str) (top 6),recT ("values_beside" : Str) (top 7),recT ("places_from" : Str) (top 12),recT ("places" : Str) (top 13),recT ("row_at" : Str) (top 14),recT ("askings_at" : Str) (top 16),recT ("askings_below" : Str) (top 17),recT ("values_with" : Str) (top 18),recT ("names_asked" : Str) (top 19),recT ("values_to_split" : Str) (top 20),recT ("marks_split" : Str) (top 21),recT ("lies_above" : Str) (top 22),recT ("takes_away" : Str) (top 23),recT ("fails" : Str) (top 24),recT ("is_caught" : Str) (top 25),recT ("bears_for" : Str) (top 26),recT ("bears_split" : Str) (top 27),recT ("bears" : Str) (top 28),recT ("_law_mixed" : Str) (top 30),recT ("_law_pick" : Str) (top 31),recT ("_law_words" : Str) (top 32),recT ("_law_pool" : Str) (top 33),recT ("_law_asking" : Str) (top 34),recT ("_law_askings" : Str) (top 35),recT ("_law_nodes" : Str) (top 36),recT ("_law_row" : Str) (top 37),recT ("_law_tree" : Str) (top 38),recT ("_law_met" : Str) (top 39),recT ("_law_places" : Str) (top 40),recT ("_law_at" : Str) (top 41),recT ("_law_splits" : Str) (top 42),recT ("_law_lower" : Str) (top 43),recT ("_law_upper" : Str) (top 44),recT ("_law_in_the_way" : Str) (top 45),recT ("_law_bears" : Str) (top 46),recT ("_law_end" : Str) (top 47),recT ("_law_case" : Str) (top 48),recT ("_law_leaf" : Str) (top 49),recT ("_law_bent" : Str) (top 50),recT ("law" : Str) (top 51)]
theorem all_mk {P q:Program}{w:World}{lo:List Str}{mean:ExcName->Option Value}{mg mb:Str->Option Value}{h:Heap}{fa:Addr}(T:Top q lo mean mg mb h)(hfa:mg "law" = some (.ref fa))(r:recsOf q=recs)(z:freeB q lo blN=true)
  : ∃ fd:FuncData,(∀ (s:Shared) (v:Value),BindsTo s fd ⟨[v],[]⟩ [("_law_script",v)])/\∀ base:Heap,(heapK h).In base->base.Ns mainGlobals mg->FnOk P w (heapK h) mg base CX0 40 fa fd ["_law_script"] (spOf (heapK h) 1 ((cx sortD 40).fn "law")) :=
 have hd:∀ e∈ents,DefR (heapK h) mg ents glN blN e:=zn.mpr ⟨DefR.mkT T r 0 rfl (fun _ _ _ _ _ _=>on2 fun _ _=>rfl) s_has_name c_has_name t_has_name,
  zn.mpr ⟨DefR.mkT T r 1 rfl (fun _ _ _ _ _ _=>on2 fun _ _=>rfl) s_value_in c_value_in t_value_in,
  zn.mpr ⟨DefR.mkT T r 2 rfl (fun _ _ _ _ _ _=>on2 fun _ _=>rfl) s_meets c_meets t_meets,
  zn.mpr ⟨DefR.mkT T r 3 rfl (fun _ _ _ _ _ _=>on2 fun _ _=>rfl) s_meets_all c_meets_all t_meets_all,
  zn.mpr ⟨DefR.mkT T r 4 rfl (fun _ _ _ _ _ _=>on1 fun _=>rfl) s_names_in c_names_in t_names_in,
  zn.mpr ⟨DefR.mkT T r 5 rfl (fun _ _ _ _ _ _=>on2 fun _ _=>rfl) s_values_beside c_values_beside t_values_beside,
  zn.mpr ⟨DefR.mkT T r 6 rfl (fun _ _ _ _ _ _=>on2 fun _ _=>rfl) s_places_from c_places_from t_places_from,
  zn.mpr ⟨DefR.mkT T r 7 rfl (fun _ _ _ _ _ _=>on1 fun _=>rfl) s_places c_places t_places,
  zn.mpr ⟨DefR.mkT T r 8 rfl (fun _ _ _ _ _ _=>on2 fun _ _=>rfl) s_row_at c_row_at t_row_at,
  zn.mpr ⟨DefR.mkT T r 9 rfl (fun _ _ _ _ _ _=>on2 fun _ _=>rfl) s_askings_at c_askings_at t_askings_at,
  zn.mpr ⟨DefR.mkT T r 10 rfl (fun _ _ _ _ _ _=>on1 fun _=>rfl) s_askings_below c_askings_below t_askings_below,
  zn.mpr ⟨DefR.mkT T r 11 rfl (fun _ _ _ _ _ _=>on2 fun _ _=>rfl) s_values_with c_values_with t_values_with,
  zn.mpr ⟨DefR.mkT T r 12 rfl (fun _ _ _ _ _ _=>on1 fun _=>rfl) s_names_asked c_names_asked t_names_asked,
  zn.mpr ⟨DefR.mkT T r 13 rfl (fun _ _ _ _ _ _=>on2 fun _ _=>rfl) s_values_to_split c_values_to_split t_values_to_split,
  zn.mpr ⟨DefR.mkT T r 14 rfl (fun _ _ _ _ _ _=>on1 fun _=>rfl) s_marks_split c_marks_split t_marks_split,
  zn.mpr ⟨DefR.mkT T r 15 rfl (fun _ _ _ _ _ _=>on2 fun _ _=>rfl) s_lies_above c_lies_above t_lies_above,
  zn.mpr ⟨DefR.mkT T r 16 rfl (fun _ _ _ _ _ _=>on3 fun _ _ _=>rfl) s_takes_away c_takes_away t_takes_away,
  zn.mpr ⟨DefR.mkT T r 17 rfl (fun _ _ _ _ _ _=>on4 fun _ _ _ _=>rfl) s_fails c_fails t_fails,
  zn.mpr ⟨DefR.mkT T r 18 rfl (fun _ _ _ _ _ _=>on4 fun _ _ _ _=>rfl) s_is_caught c_is_caught t_is_caught,
  zn.mpr ⟨DefR.mkT T r 19 rfl (fun _ _ _ _ _ _=>on4 fun _ _ _ _=>rfl) s_bears_for c_bears_for t_bears_for,
  zn.mpr ⟨DefR.mkT T r 20 rfl (fun _ _ _ _ _ _=>on4 fun _ _ _ _=>rfl) s_bears_split c_bears_split t_bears_split,
  zn.mpr ⟨DefR.mkT T r 21 rfl (fun _ _ _ _ _ _=>on3 fun _ _ _=>rfl) s_bears c_bears t_bears,
  zn.mpr ⟨DefR.mkT T r 22 rfl (fun _ _ _ _ _ _=>on2 fun _ _=>rfl) s__law_mixed c__law_mixed t__law_mixed,
  zn.mpr ⟨DefR.mkT T r 23 rfl (fun _ _ _ _ _ _=>on3 fun _ _ _=>rfl) s__law_pick c__law_pick t__law_pick,
  zn.mpr ⟨DefR.mkT T r 24 rfl (fun _ _ _ _ _ _=>on4 fun _ _ _ _=>rfl) s__law_words c__law_words t__law_words,
  zn.mpr ⟨DefR.mkT T r 25 rfl (fun _ _ _ _ _ _=>on2 fun _ _=>rfl) s__law_pool c__law_pool t__law_pool,
  zn.mpr ⟨DefR.mkT T r 26 rfl (fun _ _ _ _ _ _=>on3 fun _ _ _=>rfl) s__law_asking c__law_asking t__law_asking,
  zn.mpr ⟨DefR.mkT T r 27 rfl (fun _ _ _ _ _ _=>on4 fun _ _ _ _=>rfl) s__law_askings c__law_askings t__law_askings,
  zn.mpr ⟨DefR.mkT T r 28 rfl (fun _ _ _ _ _ _=>on4 fun _ _ _ _=>rfl) s__law_nodes c__law_nodes t__law_nodes,
  zn.mpr ⟨DefR.mkT T r 29 rfl (fun _ _ _ _ _ _=>on2 fun _ _=>rfl) s__law_row c__law_row t__law_row,
  zn.mpr ⟨DefR.mkT T r 30 rfl (fun _ _ _ _ _ _=>on4 fun _ _ _ _=>rfl) s__law_tree c__law_tree t__law_tree,
  zn.mpr ⟨DefR.mkT T r 31 rfl (fun _ _ _ _ _ _=>on2 fun _ _=>rfl) s__law_met c__law_met t__law_met,
  zn.mpr ⟨DefR.mkT T r 32 rfl (fun _ _ _ _ _ _=>on2 fun _ _=>rfl) s__law_places c__law_places t__law_places,
  zn.mpr ⟨DefR.mkT T r 33 rfl (fun _ _ _ _ _ _=>on2 fun _ _=>rfl) s__law_at c__law_at t__law_at,
  zn.mpr ⟨DefR.mkT T r 34 rfl (fun _ _ _ _ _ _=>on1 fun _=>rfl) s__law_splits c__law_splits t__law_splits,
  zn.mpr ⟨DefR.mkT T r 35 rfl (fun _ _ _ _ _ _=>on3 fun _ _ _=>rfl) s__law_lower c__law_lower t__law_lower,
  zn.mpr ⟨DefR.mkT T r 36 rfl (fun _ _ _ _ _ _=>on3 fun _ _ _=>rfl) s__law_upper c__law_upper t__law_upper,
  zn.mpr ⟨DefR.mkT T r 37 rfl (fun _ _ _ _ _ _=>on2 fun _ _=>rfl) s__law_in_the_way c__law_in_the_way t__law_in_the_way,
  zn.mpr ⟨DefR.mkT T r 38 rfl (fun _ _ _ _ _ _=>on5 fun _ _ _ _ _=>rfl) s__law_bears c__law_bears t__law_bears,
  zn.mpr ⟨DefR.mkT T r 39 rfl (fun _ _ _ _ _ _=>on4 fun _ _ _ _=>rfl) s__law_end c__law_end t__law_end,
  zn.mpr ⟨DefR.mkT T r 40 rfl (fun _ _ _ _ _ _=>on6 fun _ _ _ _ _ _=>rfl) s__law_case c__law_case t__law_case,
  zn.mpr ⟨DefR.mkT T r 41 rfl (fun _ _ _ _ _ _=>on3 fun _ _ _=>rfl) s__law_leaf c__law_leaf t__law_leaf,
  zn.mpr ⟨DefR.mkT T r 42 rfl (fun _ _ _ _ _ _=>on5 fun _ _ _ _ _=>rfl) s__law_bent c__law_bent t__law_bent,
  zn.mpr ⟨DefR.mkT T r 43 rfl (fun _ _ _ _ _ _=>on1 fun _=>rfl) s_law c_law t_law,
  fun _ h9=>nomatch h9⟩⟩⟩⟩⟩⟩⟩⟩⟩⟩⟩⟩⟩⟩⟩⟩⟩⟩⟩⟩⟩⟩⟩⟩⟩⟩⟩⟩⟩⟩⟩⟩⟩⟩⟩⟩⟩⟩⟩⟩⟩⟩⟩⟩
 have hg:∀ x∈glN,GlR (heapK h) mg gl x:=fun _ h9=>nomatch h9
 law_mkT (fun k=>srt_ok (by cases k <;> rfl)) hd hg (free_of T z) 40 (e:=e_law) (by simp[ents]) rfl (fun _ _ _ _ _ _ _=>rfl) hfa
end Law
open PySem PySem.W PyProof.Rows
def Law.pw2:Program:={ PySem.Challenge.pw_belfry_k31_cases_that_bear with main:={ PySem.Challenge.pw_belfry_k31_cases_that_bear.main with body:=[Law.top 0,Law.top 1,Law.top 2,Law.top 3,Law.top 4,Law.top 5,Law.top 6,Law.top 7,Law.top 8,Law.top 9,Law.top 10,Law.top 11,Law.top 12,Law.top 13,Law.top 14,Law.top 15,Law.top 16,Law.top 17,Law.top 18,Law.top 19,Law.top 20,Law.top 21,Law.top 22,Law.top 23,Law.top 24,Law.top 25,Law.top 26,Law.top 27,Law.top 28,Law.top 29,Law.top 30,Law.top 31,Law.top 32,Law.top 33,Law.top 34,Law.top 35,Law.top 36,Law.top 37,Law.top 38,Law.top 39,Law.top 40,Law.top 41,Law.top 42,Law.top 43,Law.top 44,Law.top 45,Law.top 46,Law.top 47,Law.top 48,Law.top 49,Law.top 50,Law.top 51] } }
def Law.rw2:OpenLaw:={ PySem.Challenge.rw_belfry_k31_cases_that_bear with prog:=Law.pw2 }
theorem Law.rw_eq:Law.rw2=PySem.Challenge.rw_belfry_k31_cases_that_bear:=by kernel_rfl
noncomputable def Law.vw:Program:={ Law.pw2 with main:={ Law.pw2.main with body:=[Law.top 1,Law.top 2,Law.top 4,Law.top 5,Law.top 6,Law.top 7,Law.top 9,Law.top 10,Law.top 12,Law.top 13,Law.top 14,Law.top 16,Law.top 17,Law.top 18,Law.top 19,Law.top 20,Law.top 21,Law.top 22,Law.top 23,Law.top 24,Law.top 25,Law.top 26,Law.top 27,Law.top 28,Law.top 30,Law.top 31,Law.top 32,Law.top 33,Law.top 34,Law.top 35,Law.top 36,Law.top 37,Law.top 38,Law.top 39,Law.top 40,Law.top 41,Law.top 42,Law.top 43,Law.top 44,Law.top 45,Law.top 46,Law.top 47,Law.top 48,Law.top 49,Law.top 50,Law.top 51] } }
set_option maxRecDepth 100000 in
set_option maxHeartbeats 0 in
theorem Law.left:LeftO Law.rw2.row.prog Law.vw [] (fun s=>xlAt Law.vw [] s&&recOk (RowW.records (OpenRow.toRowW Law.rw2.row)) s) (Hook.obs PySem.W.Hook.none) (Hook.val PySem.W.Hook.none) 20000:=fun w=>by kernel_rfl
set_option maxRecDepth 100000 in
set_option maxHeartbeats 0 in
theorem Law.said:Law.rw2.wellSaid=true:=by kernel_rfl
set_option maxRecDepth 100000 in
set_option maxHeartbeats 0 in
theorem Law.holds2:Law.rw2.Holds:=by
 refine holds_law Law.said fun said=>?_;refine holds_open (q:=Law.vw) (loose:=[]) (Xt:=fun s=>xlAt Law.vw [] s&&recOk (RowW.records (OpenRow.toRowW Law.rw2.row)) s) (XP:=XL Law.vw []) (Yf:=Hook.obs PySem.W.Hook.none) (Ya:=Hook.val PySem.W.Hook.none) (YP:=Hook.says PySem.W.Hook.none) (N:=20000) Law.left (Hook.of PySem.W.Hook.none) (Hook.keeps PySem.W.Hook.none)
  (fun s e=>xl_of s (wt.mp e).1) XL.keeps (by rfl) (by rfl) (by rfl) (fun s e=>recFacts_of (wt.mp e).2) (by rfl) said (by decide +kernel) ⟨rfl,rfl,rfl,rfl,rfl,by decide +kernel⟩ ?hw ?hc
 case hw=>w_witness2
 refine L3.walkT (l:=Law.rw2) (x:="_law_script") (k:=40) (g:=(Law.cx L3.sortD 40).fn "law") ⟨rfl,by decide,by decide,rfl⟩ rfl rfl Law.law_d ?F
 case F =>
  intro w mean mg mb fa h T hmg;exact Law.all_mk T hmg (by kernel_rfl) (by kernel_rfl)
theorem PySem.Challenge.cw_belfry_k31_cases_that_bear_holds : PySem.Challenge.rw_belfry_k31_cases_that_bear.Holds := by
 exact Law.rw_eq ▸ Law.holds2
