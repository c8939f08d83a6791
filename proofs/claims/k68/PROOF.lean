import PyProof.Rows.All
import Wide.All
import OpenK.AllK
import Wide.FinOn
import Lean
import PyProof.EqAt
import PyProof.EqKinds
import PyProof.TupleCall
import PySem.Challenge.RW_belfry_k68_on_duty
open PySem.W renaming Frag->Q_,fnOf->Z0,keepIn->Z1,findIn->Z2,emptyDict->Z3,instObj->Z4,plainGet->Z5,callWith_K->Z6,codeIn->Z7,lookIn->Z8,hasDictIn->Z9,isFn->Z_,makesIn->X9,typeIn->X_,methodObj->K_,plainGet_of->J_,plainOver->Y0,takerIn->Y1,methodCall_KW->Y2,cellsFrom_some->Y3,handedIn->Y4,codeRec_of->Y5,KdlSrc->Y6,nsIn->Y7,alongIn->Y8,ownIn->Y9,clsIn->Y_,specialIn->V_,instIn->U_
open PyProof.Rows renaming callWith_type1->W_,boot_isinstance->G_,slot_tuple_getitem->q_,boot_sorted->z_
open PySem renaming wpAny_bind->zz,wpAny_pure->zq,sizeLine->zp
open PySem.Heap renaming get?_push_of_some->zy,lt_size->zn,get?_push_size->zk,get?_update_other->zQ,size_push->zX,get?_update_self->yv,get?_none_of_le->yi,clsAt_spec->xV
open Bool renaming and_eq_true->zx,false_ne_true->zt,false_eq_true->yo,not_eq_true'->yf,and_eq_true_iff->yM,not_true->xq,beq_comm->xo,eq_iff_iff->xl,or_eq_true->xk,and_true->xJ,or_false->ww,true_eq_false->wl,and_false->wN,not_false->wP,false_or->wS
open List renaming getElem?_eq_getElem->zw,getElem?_eq_some_iff->zv,length_map->zu,size_toArray->zl,length_cons->zi,mem_cons->zg,length_append->zf,getElem?_map->ze,getElem?_append_right->zd,getElem?_set_ne->zc,all_eq_true->zB,mem_append_right->zC,getElem?_append_left->zD,not_mem_nil->zE,mem_of_getElem?->zF,mem_singleton->zG,map_cons->zH,append_nil->zJ,all_cons->zK,map_append->zM,replicate->zN,getElem?_set_self->zP,mem_cons_self->zR,getD_eq_getElem?_getD->zS,mem_append->zT,take_length->zU,mem_cons_of_mem->zV,mem_append_left->zW,length_take->zY,length_drop->zZ,length_replicate->yw,take_add_one->yu,length_set->yt,lookup_cons->yr,filterMap_cons->ym,drop_eq_getElem_cons->yk,find?_cons->ye,getElem_mem->yd,isEmpty_iff->yc,findIdx?_eq_some_iff_getElem->yb,nodup_cons->yA,reverse_cons->yB,length_dropLast->yC,getElem_of_mem->yD,length_pos_iff->yE,drop_length->yF,find?_eq_some_iff_getElem->yG,length_zip->yI,any_cons->yJ,contains_iff_mem->yK,length_range->yL,mem_map->yP,mem_take_iff_getElem->yR,mem_of_find?_eq_some->yS,length_nil->yT,zip_cons_cons->yV,getElem?_replicate->yX,mem_range->yY,any_eq_false->yZ,drop_zero->xz,take_of_length_le->xy,getElem_inj->xv,any_eq_true->xt,getElem_map->xr,map_take->xp,find?_eq_some_iff_append->xn,of_mem_zip->xm,dropLast_concat_getLast->xi,take_succ_cons->xg,map_nil->xf,all_map->xA,filterMap_map->xB,mapM_cons->xC,find?_eq_none->xD,map_inj_left->xG,getElem?_take_of_lt->xI,idxOf_lt_length_iff->xK,getElem?_cons_succ->xL,length_eq_zero_iff->xN,append_cancel_left->xP,range_succ_eq_map->xR,mem_filter->xT,forIn_cons->xU,getElem?_eq_none->xW,mem_iff_getElem?->xX,mem_of_mem_take->xY,length_reverse->wz,toList_toArray->wy,mem_map_of_mem->wx,mem_filterMap->wv,getElem?_drop->wp,findIdx?_cons->wo,getElem_range->wm,filter_append->wk,take_sublist->we,append_assoc->wc,zipIdx_cons->wD,range'->wG,headD_cons->wH,zipIdx_nil->wJ,all_append->wM,forIn_nil->wO,take_zero->wQ,nodup_nil->wR,drop_nil->wV,map_drop->wW,all_nil->wZ,map_map->vz,any_map->vv
open Nat renaming le_refl->zr,lt_of_lt_of_le->zj,ne_of_lt->zA,ne_of_gt->zI,le_of_ble_eq_true->zL,le_trans->zO,lt_irrefl->yx,zero_le->yq,le_succ->yh,le_of_eq->yH,sub_self->yN,lt_succ_self->xu,lt_succ_of_lt->xF,mod_eq_of_lt->xQ,sub_zero->xS,add_sub_cancel->wq,le_of_lt->wg,min_self->wd,le_of_not_lt->wB,succ_le_succ->wC,min_eq_right->wE,min_eq_left->wL,add_assoc->wT,reduceAdd->wU,add_comm->wY,mod_lt->vq
open Option renaming map_eq_some_iff->zo,isNone_iff_eq_none->ya,getD_some->yO,map_some->yU,isSome_map->xE,isSome_iff_exists->xH,bind_eq_some_iff->xO,bind_eq_bind->xZ,getD_none->wA,pure_def->wI,map_none->wK
open Int renaming eq_ofNat_of_zero_le->yz,emod_lt_of_pos->yW,emod_nonneg->xj,toNat_natCast->wb,natCast_emod->wF,mul_one->vt
open Array renaming getElem?_eq_some_iff->yn,getElem?_eq_getElem->yQ,getElem?_eq_none->xw,length_toList->xh,toList_inj->xM,find?_toList->wu,size_append->wa,toList->wX
set_option Elab.async false
set_option linter.all false
set_option maxRecDepth 100000
namespace Law
open PySem PySem.Spec PyProof.Rows
def top(i:Nat):Stmt:=PySem.Challenge.pw_belfry_k68_on_duty.main.body.getD i (.Pass ⟨0,0,0,0⟩)
end Law
section
open PySem PySem.W PyProof.Rows
def Law.LR:Program:={ PySem.Challenge.pw_belfry_k68_on_duty with main:={ PySem.Challenge.pw_belfry_k68_on_duty.main with body:=[Law.top 0,Law.top 1,Law.top 2,Law.top 3,Law.top 4,Law.top 5,Law.top 6,Law.top 7,Law.top 8,Law.top 9,Law.top 10,Law.top 11,Law.top 12,Law.top 13,Law.top 14,Law.top 15,Law.top 16,Law.top 17,Law.top 18,Law.top 19,Law.top 20,Law.top 21,Law.top 22,Law.top 23,Law.top 24,Law.top 25,Law.top 26,Law.top 27,Law.top 28,Law.top 29,Law.top 30,Law.top 31,Law.top 32,Law.top 33,Law.top 34,Law.top 35,Law.top 36,Law.top 37,Law.top 38,Law.top 39,Law.top 40,Law.top 41,Law.top 42,Law.top 43,Law.top 44,Law.top 45,Law.top 46,Law.top 47,Law.top 48,Law.top 49,Law.top 50,Law.top 51,Law.top 52,Law.top 53,Law.top 54,Law.top 55,Law.top 56,Law.top 57,Law.top 58,Law.top 59,Law.top 60,Law.top 61,Law.top 62,Law.top 63,Law.top 64,Law.top 65,Law.top 66,Law.top 67,Law.top 68,Law.top 69,Law.top 70,Law.top 71,Law.top 72,Law.top 73,Law.top 74,Law.top 75,Law.top 76] } }
def Law.sC:OpenLaw:={ PySem.Challenge.rw_belfry_k68_on_duty with prog:=Law.LR }
theorem Law.rw_eq:Law.sC=PySem.Challenge.rw_belfry_k68_on_duty:=by kernel_rfl
set_option maxRecDepth 100000 in
set_option maxHeartbeats 0 in
theorem Law.Fx:Law.sC.wellSaid=true:=by kernel_rfl
def Law.vw:Program:={ Law.LR with main:={ Law.LR.main with body:=[Law.top 0,Law.top 2,Law.top 3,Law.top 4,Law.top 5,Law.top 7,Law.top 8,Law.top 9,Law.top 11,Law.top 12,Law.top 13,Law.top 14,Law.top 15,Law.top 16,Law.top 17,Law.top 18,Law.top 19,Law.top 21,Law.top 22,Law.top 24,Law.top 25,Law.top 27,Law.top 28,Law.top 29,Law.top 30,Law.top 31,Law.top 33,Law.top 34,Law.top 35,Law.top 36,Law.top 37,Law.top 39,Law.top 41,Law.top 42,Law.top 43,Law.top 44,Law.top 45,Law.top 46,Law.top 47,Law.top 48,Law.top 50,Law.top 51,Law.top 52,Law.top 53,Law.top 54,Law.top 55,Law.top 57,Law.top 58,Law.top 59,Law.top 60,Law.top 62,Law.top 63,Law.top 64,Law.top 65,Law.top 66,Law.top 67,Law.top 68,Law.top 69,Law.top 70,Law.top 71,Law.top 72,Law.top 73,Law.top 74,Law.top 75,Law.top 76] } }
namespace Law
abbrev PP:Program:=Law.sC.row.prog
noncomputable def goN(tb:String->Option Builtin)(p:Program)(w:World)(n₀:Nat)(ann:Option Value):Nat->Shared->Thread->Option (Shared×Thread)
 |0,s,t=>some (s,t)
 |n+1,s,t=>match through t with
  |true=>none
  |false=>match stepOk n₀ ann t with
   |false=>none
   |true=>match step (denote tb) p w s t with
    |.go s' t'=>goN tb p w n₀ ann n s' t'
    |.halt _ _=>none
noncomputable def fA:Stmt->Arguments
 |.FunctionDef (args:=a) ..=>a
 |_=>default
noncomputable def fB:Stmt->List Stmt
 |.FunctionDef (body:=b) ..=>b
 |_=>[]
noncomputable def fS:Stmt->Scope
 |.FunctionDef (scope:=s) ..=>s
 |_=>default
noncomputable def cB:Stmt->List Stmt
 |.ClassDef (body:=b) ..=>b
 |_=>[]
noncomputable def mem(i k:Nat):Stmt:=(cB (top i)).getD k (.Pass ⟨0,0,0,0⟩)
noncomputable def fd(n q:Str)(st:Stmt)(g:Addr)(c:List (Str×Addr))(d kd doc m:Value)(an:Option Addr)(co ct:Value)(bl:Addr):FuncData:=⟨n,q,fA st,.stmts (fB st),fS st,g,c,d,kd,doc,m,an,co,ct,bl⟩
noncomputable def en(w:World)(x:Str)(t:Nat)(v:Value):DictEntry:=⟨hashStr w x,.str x t,v⟩
noncomputable def tp(vs:List Value):Obj:=⟨.type "tuple",none,.seq ⟨vs⟩ 0,#[]⟩
noncomputable def fo(vs:List Value):Obj:=⟨.none,none,.fields ⟨vs⟩,#[]⟩
noncomputable def sv:List Str->Nat->List Value
 |[],_=>[]
 |x::r,b=>.str x b::sv r (b+1)
noncomputable def cd(n q:Str)(l c a k b b2:Nat)(v1 v2:Value):Obj:=⟨.type "code",none,.fields ⟨[.str n b,.str q (b+1),.str "/claim/cut.py" (b+2),.int l 0,.int c 0,.int 0 0,.int 0 0,.int 3 0,.ref a,.bool true,.int 181 0,.ref (a+1),.none,v1,v2,.ref k,.int b2 0,.int l 0,.str "/claim/cut.py" (b2+1)]⟩,#[]⟩
noncomputable def fn(n q:Str)(st:Stmt)(m:Value)(k:Nat):Obj:=⟨.type "function",none,.func (fd n q st 3 [] .none .none .none m none (.ref k) .none 0),#[]⟩
noncomputable def fr(n q:Str)(st:Stmt):Obj:=⟨.none,none,.func (fd n q st 0 [] .none .none .none .none none .none .none 0),#[]⟩
noncomputable def g7(n p:Str)(st:Stmt)(l c:Nat)(vs:List Str)(m:Value)(a b:Nat):List Obj:=[tp [],fo [],tp (sv vs (b+3)),tp [],fr n (p++n) st,cd n (p++n) l c a (a+4) b (b+3+vs.length) (.ref (a+2)) (.ref (a+3)),fn n (p++n) st m (a+5)]
noncomputable def g5(n p:Str)(st:Stmt)(l c:Nat)(m:Value)(a b:Nat):List Obj:=[tp [],fo [],fr n (p++n) st,cd n (p++n) l c a (a+2) b (b+3) .none .none,fn n (p++n) st m (a+3)]
noncomputable def dc(es:List DictEntry)(n:Nat):Obj:=⟨.type "dict",none,.dict ⟨es⟩ n,#[]⟩
noncomputable def bm(x:String)(v:Value):Obj:=⟨.type "builtin_function_or_method",none,.fields #[.builtin x,v],#[]⟩
noncomputable def gc(w:World)(n:Str)(l:Nat)(m:Value)(a b:Nat):List Obj:=[tp [.ref 76],bm "type.__prepare__" (.type "type"),dc [en w "__module__" (b+7) m,en w "__qualname__" (b+9) (.str n (b+8)),en w "__firstlineno__" (b+11) (.int l (b+10)),en w "__static_attributes__" (b+12) (.ref (a+7))] 4,tp [],fo [],
 ⟨.type "code",none,.fields #[.str n (b+2),.str n (b+3),.str "/claim/cut.py" (b+4),.int l 0,.int 0 0,.int 0 0,.int 0 0,.int 0 0,.ref (a+3),.bool false,.int 181 0,.ref (a+4),.none,.none,.none,.none,.int (b+5:Nat) 0,.int l 0,.str "/claim/cut.py" (b+6)],#[]⟩,
 ⟨.type "frame",none,.plain,#[some (.ref (a+5)),some (.ref 3),some (.ref (a+2)),none,some m,none,some (.ref 0)]⟩,tp [],dc [en w "__module__" (b+7) m,en w "__firstlineno__" (b+11) (.int l (b+10)),en w "__static_attributes__" (b+12) (.ref (a+7)),en w "__doc__" (b+13) .none] 2,
 ⟨.type "type",none,.cls ⟨n,[.ref 76],[.ref (a+9),.ref 76,.type "ValueError",.type "Exception",.type "BaseException",.type "object"],a+8,n,true,[],[],false,none,false⟩,#[some (.ref a),none,some (.str n b),some (.str n (b+8)),some (.builtin "ValueError.__new__"),some (.bool true)]⟩,
 ⟨.type "super",none,.fields #[.ref (a+9),.ref (a+9),.ref (a+9)],#[]⟩,bm "object.__init_subclass__" (.ref (a+9))]
noncomputable def m0:Value:=.str "__main__" 164
noncomputable def m1:Value:=.str "belfry.rotas" 194
noncomputable def m2:Value:=.str "belfry.calls" 235
noncomputable def m3:Value:=.str "belfry.errors" 267
noncomputable def m4:Value:=.str "belfry.marks" 444
noncomputable def m5:Value:=.str "belfry.askings" 461
noncomputable def m6:Value:=.str "belfry.quieting" 480
noncomputable def m7:Value:=.str "belfry.trees" 519
noncomputable def m8:Value:=.str "belfry.members" 563
noncomputable def m9:Value:=.str "belfry.closing" 571
noncomputable def vJ:Value:=.str "belfry.reckoning" 640
noncomputable def dw:Value:=.str "belfry.house" 694
noncomputable def L1(w:World):List Obj:=g7 "_wall" "" (top 0) 1 1 ["k"] m0 15 187 ++
(g7 "turn_of" "" (top 2) 5 2 ["rota","turn","hands"] m1 22 196 ++
(g7 "swapped" "" (top 3) 8 3 ["hand","swaps","turn","found","swap"] m1 29 205 ++
(g5 "is_away" "" (top 4) 14 3 m1 36 216 ++
(g7 "hand_on" "" (top 5) 16 4 ["rota","swaps","absences","turn","hands","at","hand"] m1 41 222 ++
(g7 "rota_named" "" (top 7) 24 2 ["rotas","name","pair"] m2 48 237 ++
(g5 "hand_by" "" (top 8) 29 5 m2 55 246 ++
(g7 "hand_of" "" (top 9) 32 7 ["row","step","turn","rotas","swaps","absences","top","chain","hand"] m2 60 252 ++
([tp [.type "ValueError"],
bm "type.__prepare__" (.type "type"),
dc [en w "__module__" 276 m3,en w "__qualname__" 278 (.str "HouseError" 277),en w "__firstlineno__" 280 (.int (39) 279),en w "__static_attributes__" 281 (.ref 74)] 4,
tp [],
fo [],
⟨.type "code",none,(.fields #[.str "HouseError" 271,.str "HouseError" 272,.str "/claim/cut.py" 273,.int 39 0,.int 0 0,.int 0 0,.int 0 0,.int 0 0,.ref 70,.bool false,.int 181 0,.ref 71,.none,.none,.none,.none,.int 274 0,.int 39 0,.str "/claim/cut.py" 275]),#[]⟩,
⟨.type "frame",none,.plain,#[(some (.ref 72)),(some (.ref 3)),(some (.ref 69)),none,(some m3),none,(some (.ref 0))]⟩,
tp [],
dc [en w "__module__" 276 m3,en w "__firstlineno__" 280 (.int (39) 279),en w "__static_attributes__" 281 (.ref 74),en w "__weakref__" 283 (.ref 77),en w "__doc__" 284 .none] 3,
⟨.type "type",none,(.cls ⟨"HouseError",[.type "ValueError"],[.ref 76,.type "ValueError",.type "Exception",.type "BaseException",.type "object"],75,"HouseError",true,[],[.ref 96,.ref 108,.ref 120,.ref 132,.ref 144,.ref 156,.ref 175,.ref 194],false,none,false⟩),#[(some (.ref 67)),none,(some (.str "HouseError" 269)),(some (.str "HouseError" 277)),(some (.builtin "ValueError.__new__")),(some (.bool true))]⟩,
⟨.type "getset_descriptor",none,(.fields #[.str "__weakref__" 282,.ref 76,.builtin "ExceptionGroup.__weakref__",.none]),#[]⟩,
⟨.type "super",none,(.fields #[.ref 76,.ref 76,.ref 76]),#[]⟩,
bm "object.__init_subclass__" (.ref 76),
tp [.ref 76],
bm "type.__prepare__" (.type "type"),
dc [en w "__module__" 294 m3,en w "__qualname__" 296 (.str "BadWord" 295),en w "__firstlineno__" 298 (.int (41) 297),en w "__init__" 306 (.ref 93),en w "__static_attributes__" 308 (.ref 94)] 5,
tp [],
fo [.int 43 0,.int 4 0,.ref 92],
⟨.type "code",none,(.fields #[.str "BadWord" 289,.str "BadWord" 290,.str "/claim/cut.py" 291,.int 41 0,.int 0 0,.int 0 0,.int 0 0,.int 0 0,.ref 83,.bool false,.int 181 0,.ref 84,.none,.none,.none,.none,.int 292 0,.int 41 0,.str "/claim/cut.py" 293]),#[]⟩,
⟨.type "frame",none,.plain,#[(some (.ref 85)),(some (.ref 3)),(some (.ref 82)),none,(some m3),none,(some (.ref 0))]⟩] ++
(g7 "__init__" "BadWord." (mem 12 0) 43 2 ["self","at"] m3 87 299 ++
([tp [.str "at" 307],
dc [en w "__module__" 294 m3,en w "__firstlineno__" 298 (.int (41) 297),en w "__init__" 306 (.ref 93),en w "__static_attributes__" 308 (.ref 94),en w "__doc__" 309 .none] 2,
⟨.type "type",none,(.cls ⟨"BadWord",[.ref 76],[.ref 96,.ref 76,.type "ValueError",.type "Exception",.type "BaseException",.type "object"],95,"BadWord",true,[],[],false,none,false⟩),#[(some (.ref 80)),none,(some (.str "BadWord" 287)),(some (.str "BadWord" 295)),(some (.builtin "ValueError.__new__")),(some (.bool true))]⟩,
⟨.type "super",none,(.fields #[.ref 96,.ref 96,.ref 96]),#[]⟩,
bm "object.__init_subclass__" (.ref 96)] ++
(gc w "NoPlace" 45 m3 99 312 ++
(gc w "Late" 47 m3 111 328 ++
(gc w "Twice" 49 m3 123 344 ++
(gc w "Unknown" 51 m3 135 360 ++
(gc w "NoStretch" 53 m3 147 376 ++
([tp [.ref 76],
bm "type.__prepare__" (.type "type"),
dc [en w "__module__" 399 m3,en w "__qualname__" 401 (.str "BadLine" 400),en w "__firstlineno__" 403 (.int (55) 402),en w "__init__" 411 (.ref 172),en w "__static_attributes__" 413 (.ref 173)] 5,
tp [],
fo [.int 57 0,.int 4 0,.ref 171],
⟨.type "code",none,(.fields #[.str "BadLine" 394,.str "BadLine" 395,.str "/claim/cut.py" 396,.int 55 0,.int 0 0,.int 0 0,.int 0 0,.int 0 0,.ref 162,.bool false,.int 181 0,.ref 163,.none,.none,.none,.none,.int 397 0,.int 55 0,.str "/claim/cut.py" 398]),#[]⟩,
⟨.type "frame",none,.plain,#[(some (.ref 164)),(some (.ref 3)),(some (.ref 161)),none,(some m3),none,(some (.ref 0))]⟩] ++
(g7 "__init__" "BadLine." (mem 18 0) 57 2 ["self","at"] m3 166 404 ++
([tp [.str "at" 412],
dc [en w "__module__" 399 m3,en w "__firstlineno__" 403 (.int (55) 402),en w "__init__" 411 (.ref 172),en w "__static_attributes__" 413 (.ref 173),en w "__doc__" 414 .none] 2,
⟨.type "type",none,(.cls ⟨"BadLine",[.ref 76],[.ref 175,.ref 76,.type "ValueError",.type "Exception",.type "BaseException",.type "object"],174,"BadLine",true,[],[],false,none,false⟩),#[(some (.ref 159)),none,(some (.str "BadLine" 392)),(some (.str "BadLine" 400)),(some (.builtin "ValueError.__new__")),(some (.bool true))]⟩,
⟨.type "super",none,(.fields #[.ref 175,.ref 175,.ref 175]),#[]⟩,
bm "object.__init_subclass__" (.ref 175),
tp [.ref 76],
bm "type.__prepare__" (.type "type"),
dc [en w "__module__" 424 m3,en w "__qualname__" 426 (.str "BadTree" 425),en w "__firstlineno__" 428 (.int (59) 427),en w "__init__" 437 (.ref 191),en w "__static_attributes__" 440 (.ref 192)] 5,
tp [],
fo [.int 61 0,.int 4 0,.ref 190],
⟨.type "code",none,(.fields #[.str "BadTree" 419,.str "BadTree" 420,.str "/claim/cut.py" 421,.int 59 0,.int 0 0,.int 0 0,.int 0 0,.int 0 0,.ref 181,.bool false,.int 181 0,.ref 182,.none,.none,.none,.none,.int 422 0,.int 59 0,.str "/claim/cut.py" 423]),#[]⟩,
⟨.type "frame",none,.plain,#[(some (.ref 183)),(some (.ref 3)),(some (.ref 180)),none,(some m3),none,(some (.ref 0))]⟩] ++
(g7 "__init__" "BadTree." (mem 19 0) 61 3 ["self","row","at"] m3 185 429 ++
([tp [.str "at" 438,.str "row" 439],
dc [en w "__module__" 424 m3,en w "__firstlineno__" 428 (.int (59) 427),en w "__init__" 437 (.ref 191),en w "__static_attributes__" 440 (.ref 192),en w "__doc__" 441 .none] 2,
⟨.type "type",none,(.cls ⟨"BadTree",[.ref 76],[.ref 194,.ref 76,.type "ValueError",.type "Exception",.type "BaseException",.type "object"],193,"BadTree",true,[],[],false,none,false⟩),#[(some (.ref 178)),none,(some (.str "BadTree" 417)),(some (.str "BadTree" 425)),(some (.builtin "ValueError.__new__")),(some (.bool true))]⟩,
⟨.type "super",none,(.fields #[.ref 194,.ref 194,.ref 194]),#[]⟩,
bm "object.__init_subclass__" (.ref 194)] ++
(g5 "has_name" "" (top 21) 65 2 m4 197 446 ++
(g7 "value_in" "" (top 22) 67 2 ["marks","name","pair"] m4 202 452 ++
(g7 "meets" "" (top 24) 73 2 ["asking","marks","word","name","values"] m5 209 463 ++
(g5 "meets_all" "" (top 25) 84 2 m5 216 474 ++
(g7 "stands" "" (top 27) 87 2 ["saying","turn"] m6 221 482 ++
(g7 "in_force" "" (top 28) 89 2 ["quieting","turn"] m6 228 490 ++
(g5 "have_same_values" "" (top 29) 91 3 m6 235 498 ++
(g7 "is_greater" "" (top 30) 93 3 ["other","saying","rule"] m6 240 504 ++
(g5 "ground" "" (top 31) 95 5 m6 247 513 ++
(g7 "row_at" "" (top 33) 108 2 ["tree","place","row","k"] m7 252 521 ++
(g7 "taken_from" "" (top 34) 115 3 ["row","place","marks","found","k","below"] m7 259 531 ++
(g7 "taken" "" (top 35) 123 2 ["tree","marks"] m7 266 543 ++
(g5 "key_of" "" (top 36) 125 2 m7 273 551 ++
(g5 "groups_of" "" (top 37) 127 2 m7 278 557 ++
(g5 "members" "" (top 39) 130 5 m8 283 565 ++
(g5 "all_named" "" (top 41) 140 2 m9 288 573 ++
(g5 "begun" "" (top 42) 142 4 m9 293 579 ++
(g7 "behind_answer" "" (top 43) 146 2 ["state","numbers","due"] m9 298 585 ++
(g7 "behind_new_members" "" (top 44) 151 4 ["state","numbers","row","turn"] m9 305 594 ++
(g7 "is_due" "" (top 45) 155 2 ["state","turn"] m9 312 604 ++
(g7 "behind_call" "" (top 46) 157 4 ["state","numbers","row","turn"] m9 319 612 ++
(g7 "ahead_of_call" "" (top 47) 161 5 ["state","group","row","was_answered","turn","found"] m9 326 622 ++
(g5 "closed" "" (top 48) 166 5 m9 333 634 ++
(g5 "edges_within" "" (top 50) 181 3 vJ 338 642 ++
(g5 "next_turn" "" (top 51) 188 4 vJ 343 648 ++
(g7 "due_closed" "" (top 52) 192 4 ["tree","states","there","turn","following","calls","k","state","told"] vJ 348 654 ++
(g5 "all_closed" "" (top 53) 201 5 vJ 355 669 ++
(g7 "entry_of" "" (top 54) 204 6 ["call","turn","tree","rotas","records","top","hand"] vJ 360 675 ++
(g5 "reckoned" "" (top 55) 207 8 vJ 367 688 ++
(g7 "refuse_late" "" (top 57) 224 2 ["turn","now"] dw 372 696 ++
(g7 "refuse_stretch" "" (top 58) 227 3 ["turn","first","last"] dw 379 704 ++
(g5 "was_called" "" (top 59) 232 2 dw 386 713))))))))))))))))))))))))))))))))))))))))))))))))))))
noncomputable def L2(w:World):List Obj:=[tp [],
bm "type.__prepare__" (.type "type"),
dc [en w "__module__" 726 dw,en w "__qualname__" 728 (.str "House" 727),en w "__firstlineno__" 730 (.int (234) 729),en w "__init__" 741 (.ref 404),en w "come" 751 (.ref 411),en w "go" 760 (.ref 418),en w "quiet" 771 (.ref 425),en w "lift" 780 (.ref 432),en w "swap" 794 (.ref 439),en w "away" 800 (.ref 444),en w "answer" 811 (.ref 451),en w "until" 819 (.ref 458),en w "now" 826 (.ref 465),en w "records" 833 (.ref 472),en w "log" 840 (.ref 479),en w "open_groups" 847 (.ref 486),en w "states" 853 (.ref 491),en w "ground_of" 861 (.ref 498),en w "on_duty" 870 (.ref 505),en w "known_rota" 879 (.ref 512),en w "reckoned_to" 888 (.ref 519),en w "go_on" 897 (.ref 526),en w "__static_attributes__" 910 (.ref 527)] 23,
tp [],
fo [.int 236 0,.int 4 0,.ref 403,.int 250 0,.int 4 0,.ref 410,.int 253 0,.int 4 0,.ref 417,.int 256 0,.int 4 0,.ref 424,.int 259 0,.int 4 0,.ref 431,.int 262 0,.int 4 0,.ref 438,.int 273 0,.int 4 0,.ref 443,.int 281 0,.int 4 0,.ref 450,.int 289 0,.int 4 0,.ref 457,.int 292 0,.int 4 0,.ref 464,.int 295 0,.int 4 0,.ref 471,.int 298 0,.int 4 0,.ref 478,.int 301 0,.int 4 0,.ref 485,.int 304 0,.int 4 0,.ref 490,.int 307 0,.int 4 0,.ref 497,.int 310 0,.int 4 0,.ref 504,.int 314 0,.int 4 0,.ref 511,.int 320 0,.int 4 0,.ref 518,.int 324 0,.int 4 0,.ref 525],
⟨.type "code",none,(.fields #[.str "House" 721,.str "House" 722,.str "/claim/cut.py" 723,.int 234 0,.int 0 0,.int 0 0,.int 0 0,.int 0 0,.ref 394,.bool false,.int 181 0,.ref 395,.none,.none,.none,.none,.int 724 0,.int 234 0,.str "/claim/cut.py" 725]),#[]⟩,
⟨.type "frame",none,.plain,#[(some (.ref 396)),(some (.ref 3)),(some (.ref 393)),none,(some dw),none,(some (.ref 0))]⟩] ++
(g7 "__init__" "House." (mem 60 0) 236 5 ["self","tree","rotas","rules","top"] dw 398 731 ++
(g7 "come" "House." (mem 60 1) 250 4 ["self","turn","marks","weight"] dw 405 742 ++
(g7 "go" "House." (mem 60 2) 253 3 ["self","turn","number"] dw 412 752 ++
(g7 "quiet" "House." (mem 60 3) 256 5 ["self","turn","askings","first","last"] dw 419 761 ++
(g7 "lift" "House." (mem 60 4) 259 3 ["self","turn","number"] dw 426 772 ++
(g7 "swap" "House." (mem 60 5) 262 7 ["self","turn","rota","one","other","first","last","found"] dw 433 781 ++
(g5 "away" "House." (mem 60 6) 273 5 dw 440 795 ++
(g7 "answer" "House." (mem 60 7) 281 4 ["self","turn","place","key","found"] dw 445 801 ++
(g7 "until" "House." (mem 60 8) 289 2 ["self","turn"] dw 452 812 ++
(g7 "now" "House." (mem 60 9) 292 1 ["self"] dw 459 820 ++
(g7 "records" "House." (mem 60 10) 295 1 ["self"] dw 466 827 ++
(g7 "log" "House." (mem 60 11) 298 1 ["self"] dw 473 834 ++
(g7 "open_groups" "House." (mem 60 12) 301 1 ["self"] dw 480 841 ++
(g5 "states" "House." (mem 60 13) 304 1 dw 487 848 ++
(g7 "ground_of" "House." (mem 60 14) 307 2 ["self","number"] dw 492 854 ++
(g7 "on_duty" "House." (mem 60 15) 310 3 ["self","rota","turn"] dw 499 862 ++
(g7 "known_rota" "House." (mem 60 16) 314 2 ["self","name","found"] dw 506 871 ++
(g7 "reckoned_to" "House." (mem 60 17) 320 2 ["self","turn","records"] dw 513 880 ++
(g7 "go_on" "House." (mem 60 18) 324 3 ["self","turn","found"] dw 520 889 ++
([tp [.str "absences" 898,.str "answers" 899,.str "entries" 900,.str "last_states" 901,.str "quietings" 902,.str "rotas" 903,.str "rules" 904,.str "sayings" 905,.str "swaps" 906,.str "top" 907,.str "tree" 908,.str "turn" 909],
dc [en w "__module__" 726 dw,en w "__firstlineno__" 730 (.int (234) 729),en w "__init__" 741 (.ref 404),en w "come" 751 (.ref 411),en w "go" 760 (.ref 418),en w "quiet" 771 (.ref 425),en w "lift" 780 (.ref 432),en w "swap" 794 (.ref 439),en w "away" 800 (.ref 444),en w "answer" 811 (.ref 451),en w "until" 819 (.ref 458),en w "now" 826 (.ref 465),en w "records" 833 (.ref 472),en w "log" 840 (.ref 479),en w "open_groups" 847 (.ref 486),en w "states" 853 (.ref 491),en w "ground_of" 861 (.ref 498),en w "on_duty" 870 (.ref 505),en w "known_rota" 879 (.ref 512),en w "reckoned_to" 888 (.ref 519),en w "go_on" 897 (.ref 526),en w "__static_attributes__" 910 (.ref 527),en w "__dict__" 912 (.ref 530),en w "__weakref__" 914 (.ref 531),en w "__doc__" 915 .none] 4,
⟨.type "type",none,(.cls ⟨"House",[.type "object"],[.ref 529,.type "object"],528,"House",true,[],[],false,none,false⟩),#[none,none,(some (.str "House" 719)),(some (.str "House" 727)),(some (.builtin "object.__new__")),(some (.bool true))]⟩,
⟨.type "getset_descriptor",none,(.fields #[.str "__dict__" 911,.ref 529,.builtin "function.__dict__",.builtin "function.__dict__#set"]),#[]⟩,
⟨.type "getset_descriptor",none,(.fields #[.str "__weakref__" 913,.ref 529,.builtin "ExceptionGroup.__weakref__",.none]),#[]⟩,
⟨.type "super",none,(.fields #[.ref 529,.ref 529,.ref 529]),#[]⟩,
bm "object.__init_subclass__" (.ref 529)]))))))))))))))))))))
noncomputable def E1(w:World):List DictEntry:=[en w "__doc__" 166 .none,en w "__package__" 167 .none,en w "__loader__" 168 (.builtin "__main__.__loader__#opaque"),en w "__spec__" 169 .none,en w "__annotations__" 170 (.ref 6),en w "__builtins__" 171 (.ref 4),en w "__file__" 173 (.str "/claim/cut.py" 172),en w "__cached__" 174 .none,en w "_wall" 193 (.ref 21),en w "turn_of" 204 (.ref 28),en w "swapped" 215 (.ref 35),en w "is_away" 221 (.ref 40),en w "hand_on" 234 (.ref 47),en w "rota_named" 245 (.ref 54),en w "hand_by" 251 (.ref 59),en w "hand_of" 266 (.ref 66),en w "HouseError" 286 (.ref 76),en w "BadWord" 311 (.ref 96),en w "NoPlace" 327 (.ref 108),en w "Late" 343 (.ref 120),en w "Twice" 359 (.ref 132),en w "Unknown" 375 (.ref 144),en w "NoStretch" 391 (.ref 156),en w "BadLine" 416 (.ref 175),en w "BadTree" 443 (.ref 194),en w "has_name" 451 (.ref 201),en w "value_in" 460 (.ref 208),en w "meets" 473 (.ref 215),en w "meets_all" 479 (.ref 220),en w "stands" 489 (.ref 227),en w "in_force" 497 (.ref 234),en w "have_same_values" 503 (.ref 239),en w "is_greater" 512 (.ref 246),en w "ground" 518 (.ref 251),en w "row_at" 530 (.ref 258),en w "taken_from" 542 (.ref 265),en w "taken" 550 (.ref 272),en w "key_of" 556 (.ref 277),en w "groups_of" 562 (.ref 282),en w "members" 570 (.ref 287),en w "all_named" 578 (.ref 292),en w "begun" 584 (.ref 297),en w "behind_answer" 593 (.ref 304),en w "behind_new_members" 603 (.ref 311),en w "is_due" 611 (.ref 318),en w "behind_call" 621 (.ref 325),en w "ahead_of_call" 633 (.ref 332),en w "closed" 639 (.ref 337),en w "edges_within" 647 (.ref 342),en w "next_turn" 653 (.ref 347),en w "due_closed" 668 (.ref 354),en w "all_closed" 674 (.ref 359),en w "entry_of" 687 (.ref 366),en w "reckoned" 693 (.ref 371),en w "refuse_late" 703 (.ref 378),en w "refuse_stretch" 712 (.ref 385),en w "was_called" 718 (.ref 390)]
noncomputable def F1:List Value:=[.int 1 0,.int 0 0,.ref 20,.int 5 0,.int 0 0,.ref 27,.int 8 0,.int 0 0,.ref 34,.int 14 0,.int 0 0,.ref 39,.int 16 0,.int 0 0,.ref 46,.int 24 0,.int 0 0,.ref 53,.int 29 0,.int 0 0,.ref 58,.int 32 0,.int 0 0,.ref 65,.int 39 0,.int 0 0,.ref 72,.int 41 0,.int 0 0,.ref 85,.int 45 0,.int 0 0,.ref 104,.int 47 0,.int 0 0,.ref 116,.int 49 0,.int 0 0,.ref 128,.int 51 0,.int 0 0,.ref 140,.int 53 0,.int 0 0,.ref 152,.int 55 0,.int 0 0,.ref 164,.int 59 0,.int 0 0,.ref 183,.int 65 0,.int 0 0,.ref 200,.int 67 0,.int 0 0,.ref 207,.int 73 0,.int 0 0,.ref 214,.int 84 0,.int 0 0,.ref 219,.int 87 0,.int 0 0,.ref 226,.int 89 0,.int 0 0,.ref 233,.int 91 0,.int 0 0,.ref 238,.int 93 0,.int 0 0,.ref 245,.int 95 0,.int 0 0,.ref 250,.int 108 0,.int 0 0,.ref 257,.int 115 0,.int 0 0,.ref 264,.int 123 0,.int 0 0,.ref 271,.int 125 0,.int 0 0,.ref 276,.int 127 0,.int 0 0,.ref 281,.int 130 0,.int 0 0,.ref 286,.int 140 0,.int 0 0,.ref 291,.int 142 0,.int 0 0,.ref 296,.int 146 0,.int 0 0,.ref 303,.int 151 0,.int 0 0,.ref 310,.int 155 0,.int 0 0,.ref 317,.int 157 0,.int 0 0,.ref 324,.int 161 0,.int 0 0,.ref 331,.int 166 0,.int 0 0,.ref 336,.int 181 0,.int 0 0,.ref 341,.int 188 0,.int 0 0,.ref 346,.int 192 0,.int 0 0,.ref 353,.int 201 0,.int 0 0,.ref 358,.int 204 0,.int 0 0,.ref 365,.int 207 0,.int 0 0,.ref 370,.int 224 0,.int 0 0,.ref 377,.int 227 0,.int 0 0,.ref 384,.int 232 0,.int 0 0,.ref 389]
noncomputable def lo(w:World)(s₀:Shared)(a b:Obj):List Obj:=[s₀.heap.objs.getD 0 default,
s₀.heap.objs.getD 1 default,
s₀.heap.objs.getD 2 default,
a,
s₀.heap.objs.getD 4 default,
s₀.heap.objs.getD 5 default,
s₀.heap.objs.getD 6 default,
s₀.heap.objs.getD 7 default,
s₀.heap.objs.getD 8 default,
s₀.heap.objs.getD 9 default,
s₀.heap.objs.getD 10 default,
tp [],
b,
⟨.type "code",none,(.fields #[.str "<module>" 182,.str "<module>" 183,.str "/claim/cut.py" 184,.int 1 0,.int 0 0,.int 0 0,.int 0 0,.int 0 0,.ref 11,.bool false,.int 181 0,.ref 12,.none,.none,.none,.none,.int 185 0,.int 1 0,.str "/claim/cut.py" 186]),#[]⟩,
⟨.type "frame",none,.plain,#[(some (.ref 13)),(some (.ref 3)),(some (.ref 3)),none,(some m0),none,(some (.ref 0))]⟩]
noncomputable def SS(s₀:Shared)(n:Nat)(l:List Obj):Shared:={ s₀ with toks:=n,heap:={ s₀.heap with objs:=⟨l⟩ } }
noncomputable def S(w:World)(s₀:Shared):Shared:=SS s₀ 719 (lo w s₀ (dc (en w "__name__" 165 dw::E1 w) 58) (fo F1)++L1 w)
noncomputable def S2(w:World)(s₀:Shared):Shared:=SS s₀ 918 (lo w s₀ (dc (en w "__name__" 165 dw::(E1 w++[en w "House" 917 (.ref 529)])) 59) (fo (F1++[.int 234 0,.int 0 0,.ref 396]))++(L1 w++L2 w))
noncomputable def ev:Env:={ scope:=PP.main.scope,locals:=mainNs,globals:=mainNs,cells:=[],code:=.ref 13,frame:=some 14 }
noncomputable def tl(rest:List Stmt):Sem Fin:=do return .done (<- (execs rest ev).onRaise (leaving ev))
noncomputable def TT(i:Nat)(q:Pos)(w:World)(s₀:Shared):Thread:=⟨tl (PP.main.body.drop i),.body (behindTheImports PP) ev,q,match goN treeTable PP w s₀.heap.objs.size (s₀.heap.nsMap mainGlobals "__annotations__") 12 s₀ (topStub PP) with
 |some x=>x.2.stack
 |none=>[]⟩
noncomputable abbrev T:=TT 60 ⟨232,0,233,81⟩
noncomputable abbrev T2:=TT 61 ⟨234,0,327,24⟩
noncomputable abbrev gg(w:World) (s₀:Shared):=goN treeTable PP w s₀.heap.objs.size (s₀.heap.nsMap mainGlobals "__annotations__")
set_option maxRecDepth 100000 in
set_option maxHeartbeats 0 in
theorem L4(w:World):(fencedOpening treeTable PP w 20000).map (fun s₀=>gg w s₀ 3280 s₀ (topStub PP))=(fencedOpening treeTable PP w 20000).map (fun s₀=>some (S w s₀,T w s₀)):=by kernel_rfl
set_option maxRecDepth 100000 in
set_option maxHeartbeats 0 in
theorem L0(w:World):(fencedOpening treeTable PP w 20000).map (fun s₀=>gg w s₀ 820 (S w s₀) (T w s₀))=(fencedOpening treeTable PP w 20000).map (fun s₀=>some (S2 w s₀,T2 w s₀)):=by kernel_rfl
noncomputable abbrev pH(w:World) (s₀:Shared):Option Shared:=topRun treeTable PP w s₀.heap.objs.size (s₀.heap.nsMap mainGlobals "__annotations__") 15900 (S2 w s₀) (T2 w s₀)
noncomputable abbrev XT:Shared->Bool:=fun s=>xlAt Law.vw [] s&&recOk (RowW.records (OpenRow.toRowW Law.sC.row)) s
noncomputable abbrev sn(s:Shared):=openSeen Law.vw [] (importedModules PP.main.body) XT true s
set_option maxRecDepth 100000 in
set_option maxHeartbeats 0 in
theorem Uq(w:World):(fencedOpening treeTable PP w 20000).map (fun s₀=>(pH w s₀).map fun s₁=>(s₀.heap.isNs mainGlobals&&s₀.gens.size==0&&(staticsOk (importedModules PP.main.body) s₀.heap s₁.heap&&namesBound PP s₁.heap&&gensDone s₁&&laidKept s₀.heap s₁.heap)))=some (some true):=by kernel_rfl
set_option maxRecDepth 100000 in
set_option maxHeartbeats 0 in
theorem Q2(w:World):(fencedOpening treeTable PP w 20000).map (fun s₀=>(pH w s₀).map fun s₁=>((sn s₁).1,(sn s₁).2.1))=some (some ((openGood Law.vw []).1,(openGood Law.vw []).2.1)):=by kernel_rfl
set_option maxRecDepth 100000 in
set_option maxHeartbeats 0 in
theorem Q1(w:World):(fencedOpening treeTable PP w 20000).map (fun s₀=>(pH w s₀).map fun s₁=>(sn s₁).2.2.1)=some (some (openGood Law.vw []).2.2.1):=by kernel_rfl
set_option maxRecDepth 100000 in
set_option maxHeartbeats 0 in
theorem Q0(w:World):(fencedOpening treeTable PP w 20000).map (fun s₀=>(pH w s₀).map fun s₁=>(sn s₁).2.2.2)=some (some (openGood Law.vw []).2.2.2):=by kernel_rfl
end Law
end
namespace L2
open PySem PySem.Spec PyProof.Rows
abbrev Key:=Sum Int Str
def mi:Key->Value->Bool
 |.inl k,v=>Value.isInt k v
 |.inr x,v=>Value.isStrOf x v
def Rh(w:World):Key->Int
 |.inl k=>hashInt k
 |.inr x=>hashStr w x
theorem cf:∀{k:Key} {v:Value},mi k v=true->(∃i t,k=Sum.inl i/\v=Value.int i t)\/(∃x t,k=Sum.inr x/\v=Value.str x t)
 |.inl i,v,h=>by
  obtain⟨t,e⟩:=Value.isInt_shape (k:=i) (v:=v) h;exact .inl ⟨i,t,rfl,e⟩
 |.inr x,v,h=>by
  obtain⟨t,e⟩:=Value.isStrOf_shape (x:=x) (v:=v) h;exact .inr ⟨x,t,rfl,e⟩
theorem DO(i:Int)(t:Tok):mi (.inl i) (.int i t)=true:=by simp[mi,Value.isInt]
theorem DN(x:Str)(t:Tok):mi (.inr x) (.str x t)=true:=by simp[mi,Value.isStrOf]
theorem MK(a b:Int):decide ((Sum.inl a:Key)=Sum.inl b)=(a==b):=by
 by_cases e:a=b
 ·subst e;simp
 ·have h:¬ (Sum.inl a:Key)=Sum.inl b:=fun q=>e (Sum.inl.inj q)
  rw[decide_eq_false h];exact(beq_eq_false_iff_ne.mpr e).symm
theorem MG(a b:Str):decide ((Sum.inr a:Key)=Sum.inr b)=decide (a=b):=by
 by_cases e:a=b
 ·subst e;simp
 ·have h:¬ (Sum.inr a:Key)=Sum.inr b:=fun q=>e (Sum.inr.inj q)
  rw[decide_eq_false h,decide_eq_false e]
theorem MJ(a:Int)(b:Str):decide ((Sum.inl a:Key)=Sum.inr b)=false:=decide_eq_false (fun q=>nomatch q)
theorem MI(a:Str)(b:Int):decide ((Sum.inr a:Key)=Sum.inl b)=false:=decide_eq_false (fun q=>nomatch q)
def bO(prog:Program)(w:World):PySem.KeyKind prog w Key where
 is:=mi
 hash:=Rh w
 inj:=fun v a b ha hb=>by
  rcases cf ha with ⟨i,t,rfl,rfl⟩|⟨x,t,rfl,rfl⟩
  ·rcases cf hb with ⟨j,u,rfl,e⟩|⟨y,u,rfl,e⟩
   ·injection e with e1 _;rw[e1]
   ·exact nomatch e
  ·rcases cf hb with ⟨j,u,rfl,e⟩|⟨y,u,rfl,e⟩
   ·exact nomatch e
   ·injection e with e1 _;rw[e1]
 byValue:=fun k v h=>by
  rcases cf h with ⟨i,t,rfl,rfl⟩|⟨x,t,rfl,rfl⟩ <;> rfl
 pyHash:=fun hv h=>by
  rcases cf hv with ⟨i,t,rfl,rfl⟩|⟨x,t,rfl,rfl⟩
  ·exact wpAny_pyHash_int h
  ·exact wpAny_pyHash_str h
 eqBool:=fun hu hv h=>by
  rcases cf hu with ⟨i,t,rfl,rfl⟩|⟨x,t,rfl,rfl⟩
  ·rcases cf hv with ⟨j,u,rfl,rfl⟩|⟨y,u,rfl,rfl⟩
   ·rw[MK]at h;exact wpAny_eqBool_int h
   ·rw[MJ]at h;exact SeqAt.EqAt.int_str i t y u _ _ _ _ h
  ·rcases cf hv with ⟨j,u,rfl,rfl⟩|⟨y,u,rfl,rfl⟩
   ·rw[MI]at h;exact SeqAt.EqAt.str_int x t j u _ _ _ _ h
   ·rw[MG]at h;exact wpAny_eqBool_str h
 «strs»:=fun k x t v h=>by
  rcases cf h with ⟨i,u,rfl,e⟩|⟨y,u,rfl,e⟩
  ·exact nomatch e
  ·injection e with e1 _
   subst e1;cases v <;> rfl
theorem uV(prog:Program)(w:World)(i:Int)(t:Tok):(bO prog w).is (.inl i) (.int i t)=true:=DO i t
theorem uU(prog:Program)(w:World)(x:Str)(t:Tok):(bO prog w).is (.inr x) (.str x t)=true:=DN x t
end L2
namespace L2
open PySem PySem.Spec PyProof.Rows
inductive V where
 |non|bl (b:Bool)|int (i:Int)|str (x:Str)|byt (b:Array UInt8)|flt (b:UInt64)|ref (a:Addr)|ty (n:String)
 deriving DecidableEq
def RelV:V->Value->Prop
 |.non,u=>u=Value.none
 |.bl b,u=>u=Value.bool b
 |.int i,u=>∃t,u=Value.int i t
 |.str x,u=>∃t,u=Value.str x t
 |.byt b,u=>∃t,u=Value.bytes b t
 |.flt b,u=>∃t,u=Value.float b t
 |.ref a,u=>u=Value.ref a
 |.ty n,u=>u=Value.type n
abbrev Vals:List V->List Value->Prop:=Paired RelV
theorem Vals.length{xs:List V}{us:List Value}(r:Vals xs us):xs.length=us.length:=Paired.length r
theorem Vals.get:∀{xs:List V} {us:List Value} {i:Nat} {x:V},Vals xs us->xs[i]?=some x->∃u,us[i]?=some u/\RelV x u
 |_,_,_,_,.nil,e=>by simp at e
 |_,_,0,_,.cons r _,e=>by simp at e;subst e;exact⟨_,rfl,r⟩
 |_,_,i+1,x,.cons _ t,e=>by
  obtain⟨u,h1,h2⟩:=Vals.get (i:=i) (x:=x) t (by simpa using e);exact⟨u,by simpa using h1,h2⟩
theorem Vals.set{x:V}{u:Value}(r:RelV x u):∀{xs:List V} {us:List Value} (i:Nat),Vals xs us->Vals (xs.set i x) (us.set i u)
 |_,_,_,.nil=>.nil
 |_,_,0,.cons _ t=>.cons r t
 |_,_,i+1,.cons q t=>.cons q (Vals.set r i t)
theorem Vals.append:∀{xs ys:List V} {us ws:List Value},Vals xs us->Vals ys ws->Vals (xs++ys) (us++ws)
 |_,_,_,_,.nil,s=>s
 |_,_,_,_,.cons r t,s=>.cons r (Vals.append t s)
theorem Vals.take:∀{xs:List V} {us:List Value} (n:Nat),Vals xs us->Vals (xs.take n) (us.take n)
 |_,_,0,_=>.nil
 |_,_,_+1,.nil=>.nil
 |_,_,n+1,.cons r t=>.cons r (Vals.take n t)
theorem Vals.drop:∀{xs:List V} {us:List Value} (n:Nat),Vals xs us->Vals (xs.drop n) (us.drop n)
 |_,_,0,r=>r
 |_,_,_+1,.nil=>.nil
 |_,_,n+1,.cons _ t=>Vals.drop n t
def eM:Option V->Option Value->Prop
 |some v,some u=>RelV v u
 |none,none=>True
 |_,_=>False
def KV{κ:Type}:List (κ×V)->List (κ×Value)->Prop:=Paired fun (p:κ×V) (q:κ×Value)=>p.1=q.1/\RelV p.2 q.2
def kV:Key->V
 |.inl i=>.int i
 |.inr x=>.str x
inductive HO where
 |lst (xs:List V)
 |tup (xs:List V)
 |dK (kvs:List (Key×V))|dT (kvs:List (List Key×V))
 |set (S:Int->Bool) (n:Nat)
 |ins (C dx:Addr) (fs:List (Str×V))
 |own (x:Addr)
 |xd (fs:List (Str×V))
 |met (f x:Addr)
 |rng (lo hi:Int)
 |frz (o:Obj) (u:HO)
 |tbl (ps:Array Value)
 |ext (φ:Heap->Prop)
abbrev Hp:=Addr->Option HO
def upd(H:Hp)(a:Addr)(o:HO):Hp:=fun b=>if b=a then some o else H b
theorem aT{H:Hp}{a:Addr}{o:HO}:upd H a o a=some o:=by unfold upd;rw[if_pos rfl]
theorem aB{H:Hp}{a b:Addr}{o:HO}(h:b≠a):upd H a o b=H b:=by unfold upd;rw[if_neg h]
theorem Bq{H:Hp}{a b:Addr}{o u:HO}(h:H a=some o)(h':H b=some u)(d:o≠u):a≠b:=by
 intro e;subst e;rw[h]at h';exact d (Option.some.inj h')
theorem aP{H:Hp}{a b:Addr}{o:HO}(h:H a=some o)(h':H b=none):a≠b:=by
 intro e;subst e;rw[h]at h';cases h'
def nG(h:Heap)(a:Addr)(items:Array Value):Prop:=IsTup h a items/\∀o,h.get? a=some o->o.dict=none/\o.slots=#[]
theorem nG.new(h:Heap)(items:Array Value):nG (h.push { cls:=.type "tuple",data:=.seq items }) h.objs.size items:=⟨IsTup.new _ _,fun o e=>by
 rw[zk _ rfl]at e;cases e;exact⟨rfl,rfl⟩⟩
section
variable (P:Program)(w:World)
def bJ(H:Hp)(h:Heap)(a:Addr):HO->Prop
 |.lst xs=>xs.length<=zp/\∃(its:List Value) (n:Nat),Vals xs its/\h.get? a=some { cls:=.type "list",data:=.seq its.toArray n }
 |.tup xs=>xs.length<=zp/\∃its:List Value,Vals xs its/\nG h a its.toArray
 |.dK kvs=>kvs.length<=zp/\(a==sysModules)=false/\∃vs,KV kvs vs/\h.DictOf (bO P w) a vs
 |.dT kvs=>kvs.length<=zp/\(a==sysModules)=false/\∃xs:List (List Key×Addr×Value),
   Paired (fun (p:List Key×V) (q:List Key×Addr×Value)=>p.1=q.1/\H q.2.1=some (.tup (p.1.map kV))/\RelV p.2 q.2.2) kvs xs /\
   ∃o es ep,h.get? a=some o/\o.ExactDict/\o.data=.dict es ep/\es.toList=xs.map (entryOfKey (tupleKind (bO P w)))/\(xs.map (·.1)).Nodup
 |.set S n=>h.SetOf (intKind P w) a S n
 |.ins C dx fs=>H dx=some (.own a)/\fs.length<=1000/\dx≠a/\h.get? a=some (Z4 C dx) /\
   ∃mA,h.Ns1 dx mA/\(∀f,eM (fs.lookup f) (mA f))/\PySem.Within mA (fs.map (·.1))
 |.own _=>∃o,h.get? a=some o
 |.xd fs=>∃mA,h.Ns1 a mA/\∀f,eM (fs.lookup f) (mA f)
 |.rng lo hi=>∃t u v,h.get? a=some { cls:=.type "range",data:=.fields #[.int lo t,.int hi u,.int 1 v] }
 |.frz o u=>h.get? a=some o/\bJ H h a u
 |.tbl ps=>h.get? a=some { cls:=.none,data:=.fields ps }
 |.met f x=>h.get? a=some (K_ (.ref f) (.ref x))
 |.ext φ=>φ h/\(∃o,h.get? a=some o)/\∀h1 h2:Heap,φ h1->(∀o,h1.get? a=some o->h2.get? a=some o)->φ h2
def bX(H:Hp)(h:Heap):Prop:=∀a o,H a=some o->bJ P w H h a o
end
section
variable {P:Program}{w:World}{H H':Hp}{h h':Heap}{a:Addr}{o:HO}
theorem bJ.lt(x:bJ P w H h a o):a<h.objs.size:=by
 cases o with
 |lst xs=>obtain⟨_,_,_,_,e⟩:=x;exact zn e
 |tup xs=>obtain⟨_,_,_,p,_⟩:=x;exact p.lt
 |dK kvs=>obtain⟨_,_,_,_,o,_,_,e,_⟩:=x;exact zn e
 |dT kvs=>obtain⟨_,_,_,_,o,_,_,e,_⟩:=x;exact zn e
 |set S n=>obtain⟨o,_,_,_,e,_⟩:=x;exact zn e
 |ins C dx fs=>obtain⟨_,_,_,e,_⟩:=x;exact zn e
 |own y=>obtain⟨_,e⟩:=x;exact zn e
 |xd fs=>obtain⟨_,⟨_,_,_,e,_⟩,_⟩:=x;exact zn e
 |rng lo hi=>obtain⟨_,_,_,e⟩:=x;exact zn e
 |frz ob u=>obtain⟨e,_⟩:=x;exact zn e
 |tbl ps=>exact zn (show h.get? a=some _ from x)
 |met f y=>exact zn (show h.get? a=some _ from x)
 |ext φ=>obtain⟨_,⟨_,e⟩,_⟩:=x;exact zn e
theorem Paired.pT{α β:Type}{F G:α->β->Prop}:∀{l₁:List α} {l₂:List β},Paired F l₁ l₂->(∀a b,F a b->G a b)->Paired G l₁ l₂
 |_,_,.nil,_=>.nil
 |_,_,.cons r t,f=>.cons (f _ _ r) (Paired.pT t f)
theorem bJ.iH(x:bJ P w H h a o)(k:∀b u,(b=a\/H b=some (.own a))->h.get? b=some u->h'.get? b=some u)
  (ho:∀b,H b=some (.own a)->H' b=some (.own a)) (ht:∀b xs,H b=some (.tup xs)->H' b=some (.tup xs)):bJ P w H' h' a o:=by
 induction o with
 |lst xs=>obtain⟨z,its,n,r,e⟩:=x;exact⟨z,its,n,r,k _ _ (.inl rfl) e⟩
 |tup xs =>
  obtain⟨z,its,r,⟨ob,e,c⟩,d⟩:=x;have e':=k _ _ (.inl rfl) e;exact⟨z,its,r,⟨ob,e',c⟩,fun o q=>by rw[e']at q;cases q;exact d _ e⟩
 |dK kvs=>obtain⟨z,y,vs,r,ob,es,ep,e,c⟩:=x;exact⟨z,y,vs,r,ob,es,ep,k _ _ (.inl rfl) e,c⟩
 |dT kvs =>
  obtain⟨z,y,xs,r,ob,es,ep,e,c⟩:=x;exact⟨z,y,xs,Paired.pT r fun p q z=>⟨z.1,ht _ _ z.2.1,z.2.2⟩,ob,es,ep,k _ _ (.inl rfl) e,c⟩
 |set S n=>obtain⟨ob,es,ep,t,e,c⟩:=x;exact⟨ob,es,ep,t,k _ _ (.inl rfl) e,c⟩
 |ins C dx fs =>
  obtain⟨d,z,ne,e,mA,⟨od,es,ep,e2,c⟩,r⟩:=x;exact⟨ho _ d,z,ne,k _ _ (.inl rfl) e,mA,⟨od,es,ep,k _ _ (.inr d) e2,c⟩,r⟩
 |own y=>obtain⟨ob,e⟩:=x;exact⟨ob,k _ _ (.inl rfl) e⟩
 |xd fs=>obtain⟨mA,⟨od,es,ep,e,c⟩,r⟩:=x;exact⟨mA,⟨od,es,ep,k _ _ (.inl rfl) e,c⟩,r⟩
 |rng lo hi=>obtain⟨t,u,v,e⟩:=x;exact⟨t,u,v,k _ _ (.inl rfl) e⟩
 |frz ob u ih=>obtain⟨e,q⟩:=x;exact⟨k _ _ (.inl rfl) e,ih q⟩
 |tbl ps =>
  have e:h.get? a=some { cls:=.none,data:=.fields ps }:=x;show h'.get? a=some { cls:=.none,data:=.fields ps };exact k a _ (.inl rfl) e
 |met f y =>
  have e:h.get? a=some (K_ (.ref f) (.ref y)):=x;show h'.get? a=some (K_ (.ref f) (.ref y));exact k a _ (.inl rfl) e
 |ext φ=>obtain⟨p,⟨o,e⟩,st⟩:=x;exact⟨st _ _ p fun o q=>k _ _ (.inl rfl) q,⟨o,k _ _ (.inl rfl) e⟩,st⟩
theorem bX.lt(x:bX P w H h)(e:H a=some o):a<h.objs.size:=(x a o e).lt
theorem bX.fresh(x:bX P w H h)(e:h.objs.size<=a):H a=none:=by
 cases q:H a with
 |none=>rfl
 |some u=>exact absurd (zj (x.lt q) e) (yx _)
theorem bX.kept(x:bX P w H h)(k:∀b u,h.get? b=some u->h'.get? b=some u):bX P w H h':=fun a o e =>
 (x a o e).iH (fun b u _ q=>k b u q) (fun _ q=>q) fun _ _ q=>q
theorem bX.laid(x:bX P w H h)(k:∀b u,h.get? b=some u->h'.get? b=some u)(hp:h.objs.size<=a)(new:bJ P w (upd H a o) h' a o):bX P w (upd H a o) h':=fun b u e=>by
 have hn:=x.fresh hp;by_cases hb:b=a
 ·subst hb;rw[aT]at e;cases e;exact new
 ·rw[aB hb]at e
  exact(x b u e).iH (fun c v _ q=>k c v q) (fun c q=>by rw[aB (aP q hn)];exact q) fun c xs q=>by rw[aB (aP q hn)];exact q
end
def Rd(H:Hp)(a:Addr)(u:HO):Prop:=H a=some u\/∃o,H a=some (.frz o u)
theorem Rd.ok{P:Program}{w:World}{H:Hp}{h:Heap}{a:Addr}{u:HO}(r:Rd H a u)(x:bX P w H h):bJ P w H h a u:=by
 rcases r with r|⟨o,r⟩
 ·exact x a u r
 ·obtain⟨_,q⟩:=x a _ r
  exact q
def E5:Option HO->Prop
 |some (.lst _)=>True
 |some (.dK _)=>True
 |some (.dT _)=>True
 |some (.set _ _)=>True
 |some (.ins _ _ _)=>True
 |some (.ext _)=>True
 |_=>False
section
variable {P:Program}{w:World}{H:Hp}{h h':Heap}{x e:Addr}{o':HO}
theorem bX.write(ok:bX P w H h)(mu:E5 (H x))(he:e=x\/H e=some (.own x))(k:∀b u,b≠e->h.get? b=some u->h'.get? b=some u)(vT:∃u,h'.get? e=some u)
  (new:bJ P w (upd H x o') h' x o'):bX P w (upd H x o') h':=fun b u q=>by
 have nown:∀c y,H c=some (.own y)->c≠x:=fun c y r z=>by subst z;rw[r]at mu;exact mu
 have ntup:∀c xs,H c=some (.tup xs)->c≠x:=fun c xs r z=>by subst z;rw[r]at mu;exact mu
 by_cases hb:b=x
 ·subst hb;rw[aT]at q;cases q;exact new
 ·rw[aB hb]at q
  by_cases kO:b=e
  ·have q':H b=some (.own x):=by
    rcases he with z|z
    ·exact absurd (kO.trans z) hb
    ·rw[kO];exact z
   rw[q]at q';cases q';obtain⟨v,hv⟩:=vT;exact⟨v,by rw[kO];exact hv⟩
  ·refine(ok b u q).iH (fun c v hc r=>k c v ?_ r) (fun c r=>by rw[aB (nown c b r)];exact r) fun c xs r=>by rw[aB (ntup c xs r)];exact r
   rcases hc with rfl|hc
   ·exact kO
   ·rintro rfl
    rcases he with z|z
    ·exact nown c b hc z
    ·rw[hc]at z;cases z;exact hb rfl
end
structure Un (fs ex:List Addr) (H H':Hp) (h h':Heap):Prop where
 keep:∀b o,h.get? b=some o->H b=none->b ∉ fs->b ∉ ex->h'.get? b=some o
 slot:∀b o,h.get? b=some o->H b=none->b∈fs->b ∉ ex->∃sl,h'.get? b=some { o with slots:=sl }
 free:∀b o,h.get? b=some o->H b=none->b ∉ ex->H' b=none
 there:∀b o,h.get? b=some o->b ∉ ex->∃o',h'.get? b=some o'
 ic:∀b xs,H b=some (.tup xs)->H' b=some (.tup xs)
 gI:∀b o u,H b=some (.frz o u)->H' b=some (.frz o u)
 ig:∀b ps,H b=some (.tbl ps)->∃more,H' b=some (.tbl (ps++more))
section
variable {fs fs' ex ex':List Addr}{H H1 H2:Hp}{h h1 h2 h':Heap}{a x e:Addr}{o:HO}
theorem Un.any(u:Un fs ex H H1 h h1){b:Addr}{ob:Obj}(q:h.get? b=some ob)(n:H b=none)(hx:b ∉ ex):∃sl,h1.get? b=some { ob with slots:=sl }:=by
 by_cases hb:b∈fs
 ·exact u.slot b ob q n hb hx
 ·exact⟨ob.slots,u.keep b ob q n hb hx⟩
theorem Un.kept(k:∀b u,h.get? b=some u->h'.get? b=some u):Un fs ex H H h h' :=
 ⟨fun b ob q _ _ _=>k b ob q,fun b ob q _ _ _=>⟨ob.slots,k b ob q⟩,fun _ _ _ n _=>n,fun b ob q _=>⟨ob,k b ob q⟩,fun _ _ q=>q,fun _ _ _ q=>q,fun _ ps q=>⟨#[],by rw[q];simp⟩⟩
theorem Un.refl:Un fs ex H H h h:=Un.kept fun _ _ q=>q
theorem Un.laid(k:∀b u,h.get? b=some u->h'.get? b=some u)(hp:h.objs.size<=a)(hn:H a=none):Un fs ex H (upd H a o) h h' where
 keep:=fun b u q _ _ _=>k b u q
 slot:=fun b u q _ _ _=>⟨u.slots,k b u q⟩
 free:=fun b u q n _=>by rw[aB (zA (zj (zn q) hp))];exact n
 there:=fun b u q _=>⟨u,k b u q⟩
 ic:=fun b xs q=>by rw[aB (aP q hn)];exact q
 gI:=fun b u xs q=>by rw[aB (aP q hn)];exact q
 ig:=fun b ps q=>⟨#[],by rw[aB (aP q hn),q];simp⟩
theorem Un.write(mu:E5 (H x))(he:e=x\/H e=some (.own x))(k:∀b u,b≠e->h.get? b=some u->h'.get? b=some u)(vT:∃u,h'.get? e=some u):Un fs ex H (upd H x o) h h':=by
 have hx:∀b,H b=none->b≠x:=fun b n z=>by subst z;rw[n]at mu;exact mu
 have hb:∀b,H b=none->b≠e:=fun b n z=>by
  subst z;rcases he with r|r
  ·exact hx b n r
  ·rw[n]at r;cases r
 have hm:∀b u,H b=some u->¬ E5 (some u)->b≠x:=fun b u q nm z=>by subst z;rw[q]at mu;exact nm mu
 refine⟨fun b u q n _ _=>k b u (hb b n) q,fun b u q n _ _=>⟨u.slots,k b u (hb b n) q⟩,fun b u q n _=>by rw[aB (hx b n)];exact n,fun b u q _=>?_,
  fun b xs q=>by rw[aB (hm b _ q fun z=>z)];exact q,fun b u xs q=>by rw[aB (hm b _ q fun z=>z)];exact q,fun b ps q=>⟨#[],by rw[aB (hm b _ q fun z=>z),q];simp⟩⟩
 by_cases kO:b=e
 ·subst kO;exact vT
 ·exact⟨u,k b u kO q⟩
end
def Hn(h:Heap)(H:Hp):List Addr:=(List.range h.objs.size).filter fun a=>(H a).isSome
def kA(h:Heap)(H:Hp):Heap:=PySem.W.hideAll h (Hn h H)
theorem D9(h:Heap)(H:Hp):(kA h H).objs.size=h.objs.size:=PySem.W.hideAll_size _ _
theorem Gv{h:Heap}{H:Hp}{b:Addr}{o:Obj}(e:h.get? b=some o)(n:H b=none):(kA h H).get? b=some o :=
 PySem.W.hideAll_get _ e fun hm=>by
  have q:(H b).isSome=true:=(xT.mp hm).2;rw[n]at q;simp at q
theorem J9{h:Heap}{H:Hp}{b:Addr}{o:Obj}(e:(kA h H).get? b=some o):h.get? b=some o/\H b=none:=by
 have e':h.get? b=some o:=PySem.W.of_hideAll (Hn h H) e;refine⟨e',?_⟩;cases q:H b with
 |none=>rfl
 |some x =>
  have hm:b∈Hn h H:=xT.mpr ⟨yY.mpr (zn e'),by simp[q]⟩;have z:(kA h H).get? b=none:=PySem.W.hideAll_none (Hn h H) hm;rw[z]at e;cases e
end L2
namespace L2
open PySem PySem.Spec PyProof.Rows
structure Mod (K:Q_) (mg:Str->Option Value) (base:Heap):Prop where
 qz:K.In base
 glob:base.Ns mainGlobals mg
 blt:∃mb,base.Ns builtinsNs mb/\∀x:Str,x≠"__name__"->mb x=bootBuiltins x
 nolimit:base.NoLimit
structure Cx where
 prog:Program
 w:World
 K:Q_
 mg:Str->Option Value
 base:Heap
 A:Around
 N:List Str
 s₀:Shared
 H₀:Hp
 env:Env
 outer:List Env
 stack:List Env
 ex:List Addr
 fn:Str->Bool
 calm:Bool
 pn:List (Addr×Obj)
 xe:Value->Shared->Prop
def dS(l:List Env):List Addr:=l.filterMap (·.frame)
abbrev Cx.fs(X:Cx):List Addr:=dS X.outer
def uz(sc:Scope)(x:Str):Prop:=sc.names.lookup x=some .local\/sc.names.lookup x=some .cell\/sc.names.lookup x=some .free
def Loc(sc:Scope)(x:Str):Prop:=sc.names.lookup x=some .local\/sc.names.lookup x=some .cell
def Look(env:Env)(h:Heap)(m:Str->Option Value)(x:Str)(u:Value):Prop :=
 (env.kindOf x=some .local/\m x=some u)\/((env.kindOf x=some .cell\/env.kindOf x=some .free)/\∃c,env.cells.lookup x=some c/\h.IsCell c (some u))
structure Cx.Ok (X:Cx):Prop where
 mod:Mod X.K X.mg X.base
 kind:X.env.scope.kind=.function
 glob:X.env.globals=mainGlobals
 blt:X.env.builtins=builtinsNs
 above:X.s₀.heap.objs.size<=X.env.locals
 inj:∀x y c,X.env.cells.lookup x=some c->X.env.cells.lookup y=some c->x=y
 has:∀x,(X.env.kindOf x=some .cell\/X.env.kindOf x=some .free)->∃c,X.env.cells.lookup x=some c
 uw:∀x c,X.fn x=true->X.env.cells.lookup x=some c->X.s₀.heap.objs.size<=c
 hd:X.calm=true->X.A.handled=none
 frames:X.A.frames=some X.stack
 vb:X.stack=X.outer\/(X.stack=X.env::X.outer/\X.env.frame=some X.env.locals)
 IY:∀b∈X.ex,b≠X.env.locals/\∀x c,X.env.cells.lookup x=some c->c≠b
 bs:∀b o,X.base.get? b=some o->X.s₀.heap.get? b=some o/\X.H₀ b=none
 kR:X.base.objs.size<=X.s₀.heap.objs.size
 mZ:∀b o,X.base.get? b=some o->b ∉ X.ex
 p9:∀b∈X.ex,b ∉ X.fs
 eL:X.s₀.heap.FunFrames X.base X.outer
 mJ:∀b∈X.fs,X.H₀ b=none
structure Inv (X:Cx) (pins:List (Addr×Obj)) (σ:List (Option V)) (H:Hp) (s:Shared):Prop where
 ok:X.Ok
 os:s.os=X.s₀.os
 bare:AllBare s.gens
 base:Un X.fs X.ex X.H₀ H X.s₀.heap s.heap
 loc:∃m,s.heap.Ns X.env.locals m/\∀(i:Nat) (x:Str) (v:V),X.N[i]?=some x->σ[i]?=some (some v)->uz X.env.scope x->∃u,RelV v u/\Look X.env s.heap m x u
 cell:∀x c,X.env.cells.lookup x=some c->∃v,s.heap.IsCell c v
 free:H X.env.locals=none
 cW:∀x c,X.env.cells.lookup x=some c->H c=none
 pin:∀p∈X.pn++pins,s.heap.get? p.1=some p.2/\H p.1=none/\p.1≠X.env.locals/\p.1 ∉ X.fs/\∀v,p.2.data≠.cell v
 av:bX X.prog X.w H s.heap
 len:σ.length=X.N.length
section
variable {X:Cx}{pins:List (Addr×Obj)}{σ:List (Option V)}{H H':Hp}{s:Shared}{h':Heap}
theorem Cx.Ok.Q4(ok:X.Ok){b:Addr}{o:Obj}(e:X.base.get? b=some o):b ∉ X.fs:=fun hb=>by
 have:=(ok.eL.mem hb).1
 rw[e]at this;cases this
theorem Inv.bs(I:Inv X pins σ H s):∀b o,X.base.get? b=some o->s.heap.get? b=some o/\H b=none:=fun b o e =>
 ⟨I.base.keep b o (I.ok.bs b o e).1 (I.ok.bs b o e).2 (I.ok.Q4 e) (I.ok.mZ b o e),I.base.free b o (I.ok.bs b o e).1 (I.ok.bs b o e).2 (I.ok.mZ b o e)⟩
theorem Inv.bk(I:Inv X pins σ H s):∀b o,X.base.get? b=some o->s.heap.get? b=some o:=fun b o e=>(I.bs b o e).1
theorem Inv.mod(I:Inv X pins σ H s):Mod X.K X.mg X.base:=I.ok.mod
theorem Inv.dR(I:Inv X pins σ H s):X.K.In s.heap:=I.ok.mod.qz.keeps I.bk
theorem Inv.lt(I:Inv X pins σ H s):X.env.locals<s.heap.objs.size:=let ⟨_,hn,_⟩:=I.loc;hn.lt
theorem Inv.sz(I:Inv X pins σ H s):X.s₀.heap.objs.size<=s.heap.objs.size:=zO I.ok.above (wg I.lt)
theorem Inv.Q3(I:Inv X pins σ H s){a:Addr}(h:s.heap.objs.size<=a):a ∉ X.fs:=fun hb=>by
 obtain⟨_,o,ho,_⟩:=I.ok.eL.mem hb;exact absurd (zj (zn ho) (zO I.sz h)) (yx _)
theorem Inv.lM(I:Inv X pins σ H s):∀x c,X.env.cells.lookup x=some c->c≠X.env.locals:=fun x c e z=>by
 obtain⟨v,o,ho,hd⟩:=I.cell x c e;obtain⟨m,⟨o',es,ep,ho',hd',_⟩,_⟩:=I.loc;rw[z,ho']at ho;cases ho;rw[hd']at hd;cases hd
theorem Inv.eL(I:Inv X pins σ H s):s.heap.FunFrames X.base X.outer:=by
 have all:∀(l:List Env),(∀b∈dS l,b∈X.fs)->X.s₀.heap.FunFrames X.base l->s.heap.FunFrames X.base l:=by
  intro l;induction l with
  |nil=>intro _ _;trivial
  |cons env r ih =>
   intro hs hl;obtain⟨hk,⟨L,o,hf,hn,ho,hd⟩,hr⟩:=hl;have hL:L∈X.fs:=hs L (by unfold dS;rw[ym,hf];exact zR);obtain⟨sl,e⟩:=I.base.slot L o ho (I.ok.mJ L hL) hL fun z=>I.ok.p9 L z hL;exact⟨hk,⟨L,_,hf,hn,e,hd⟩,ih (fun b hb=>hs b (by unfold dS;rw[ym,hf];exact zV _ hb)) hr⟩
 exact all X.outer (fun _ hb=>hb) I.ok.eL
theorem Inv.stack(I:Inv X pins σ H s):s.heap.FunFrames X.base X.stack:=by
 rcases I.ok.vb with e|⟨e,hf⟩
 ·rw[e];exact I.eL
 ·rw[e]
  obtain⟨m,hn,_⟩:=I.loc;refine .cons (by rw[I.ok.kind];decide) hf hn ?_ I.eL;exact yi (zO I.ok.kR I.ok.above)
theorem Inv.fD(I:Inv X pins σ H s):∀b∈dS X.stack,b∈X.env.locals::X.fs:=fun b hb=>by
 rcases I.ok.vb with e|⟨e,hf⟩
 ·rw[e]at hb;exact zV _ hb
 ·rw[e]at hb
  unfold dS at hb;rw[ym,hf]at hb;exact hb
theorem Inv.pE(I:Inv X pins σ H s):∀b∈dS X.stack,H b=none:=fun b hb=>by
 rcases zg.mp (I.fD b hb) with e|hb
 ·rw[e];exact I.free
 ·obtain⟨_,o,ho,_⟩:=I.ok.eL.mem hb
  exact I.base.free b o ho (I.ok.mJ b hb) fun z=>I.ok.p9 b z hb
theorem Inv.step{g':Array GenState}{t':Nat}{d':Drawn}{ch:List Addr}(I:Inv X pins σ H s)
  (hch:∀b∈ch,(b∈X.ex\/X.s₀.heap.objs.size<=b)/\b≠X.env.locals/\(∀x c,X.env.cells.lookup x=some c->c≠b)/\∀p∈X.pn++pins,p.1≠b)
  (keep:∀b o,b≠X.env.locals->b ∉ X.fs->b ∉ ch->s.heap.get? b=some o->H b=none->h'.get? b=some o)
  (slot:∀b o,b≠X.env.locals->b∈X.fs->b ∉ ch->s.heap.get? b=some o->H b=none->∃sl,h'.get? b=some { o with slots:=sl }) (free:∀b o,b ∉ ch->s.heap.get? b=some o->H b=none->H' b=none)
  (there:∀b o,b ∉ ch->s.heap.get? b=some o->∃o',h'.get? b=some o')
  (ic:∀b xs,H b=some (.tup xs)->H' b=some (.tup xs)) (gI:∀b o u,H b=some (.frz o u)->H' b=some (.frz o u)) (ig:∀b ps,H b=some (.tbl ps)->∃more,H' b=some (.tbl (ps++more)))
  (ns:∀m,s.heap.Ns X.env.locals m->h'.Ns X.env.locals m) (av:bX X.prog X.w H' h') (hg:AllBare g') :
  Inv X pins σ H' { s with heap:=h',gens:=g',drawn:=d',toks:=t' }:=by
 have neL:∀b o,X.s₀.heap.get? b=some o->b≠X.env.locals:=fun b o e=>zA (zj (zn e) I.ok.above);have neC:∀b o,X.s₀.heap.get? b=some o->b ∉ X.ex->b ∉ ch:=fun b o e hx hb=>by
  rcases (hch b hb).1 with z|z
  ·exact hx z
  ·exact absurd (zj (zn e) z) (yx _)
 have cellK:∀x c,X.env.cells.lookup x=some c->∀v,s.heap.IsCell c v->h'.IsCell c v:=fun x c e v ⟨o,ho,hd⟩=>by
  have Dy:c ∉ ch:=fun z=>(hch c z).2.2.1 x c e rfl;by_cases hc:c∈X.fs
  ·obtain⟨sl,q⟩:=slot c o (I.lM x c e) hc Dy ho (I.cW x c e)
   exact⟨_,q,hd⟩
  ·exact⟨o,keep c o (I.lM x c e) hc Dy ho (I.cW x c e),hd⟩
 refine⟨I.ok,I.os,hg,⟨fun b o e n hb hx=>?_,fun b o e n hb hx=>?_,fun b o e n hx=>?_,fun b o e hx=>?_,fun b xs e=>ic b xs (I.base.ic b xs e),fun b o xs e=>gI b o xs (I.base.gI b o xs e),fun b ps e=>?_⟩,?_,fun x c e=>?_,?_,fun x c e=>?_,fun p hp=>?_,av,I.len⟩
 ·exact keep b o (neL b o e) hb (neC b o e hx) (I.base.keep b o e n hb hx) (I.base.free b o e n hx)
 ·obtain⟨sl,e1⟩:=I.base.slot b o e n hb hx
  obtain⟨sl',e2⟩:=slot b _ (neL b o e) hb (neC b o e hx) e1 (I.base.free b o e n hx);exact⟨sl',e2⟩
 ·obtain⟨o',e1⟩:=I.base.there b o e hx
  exact free b o' (neC b o e hx) e1 (I.base.free b o e n hx)
 ·obtain⟨o',e1⟩:=I.base.there b o e hx
  exact there b o' (neC b o e hx) e1
 ·obtain⟨m1,e1⟩:=I.base.ig b ps e
  obtain⟨m2,e2⟩:=ig b _ e1;exact⟨m1++m2,by rw[e2,Array.append_assoc]⟩
 ·obtain⟨m,hn,hl⟩:=I.loc
  refine⟨m,ns m hn,fun i x v e1 e2 e3=>?_⟩;obtain⟨u,r,l⟩:=hl i x v e1 e2 e3;refine⟨u,r,?_⟩;rcases l with l|⟨k,c,e,z⟩
  ·exact .inl l
  ·exact .inr ⟨k,c,e,cellK x c e _ z⟩
 ·obtain⟨v,z⟩:=I.cell x c e
  exact⟨v,cellK x c e v z⟩
 ·obtain⟨m,⟨o,_,_,ho,_⟩,_⟩:=I.loc
  exact free _ o (fun z=>(hch _ z).2.1 rfl) ho I.free
 ·obtain⟨v,o,ho,hd⟩:=I.cell x c e
  exact free c o (fun z=>(hch c z).2.2.1 x c e rfl) ho (I.cW x c e)
 ·obtain⟨e,n,ne,nf,d⟩:=I.pin p hp
  have Dy:p.1 ∉ ch:=fun z=>(hch p.1 z).2.2.2 p hp rfl;exact⟨keep p.1 p.2 ne nf Dy e n,free p.1 p.2 Dy e n,ne,nf,d⟩
theorem Inv.un{t':Nat}(I:Inv X pins σ H s)(u:Un X.fs [] H H' s.heap h')(av:bX X.prog X.w H' h'):Inv X pins σ H' { s with heap:=h',toks:=t' }:=by
 obtain⟨m,⟨o,es,ep,ho,r⟩,_⟩:=id I.loc;obtain⟨sl,hL⟩:=u.any ho I.free (by simp);exact I.step (g':=s.gens) (d':=s.drawn) (ch:=[]) (fun _ z=>nomatch z) (fun b o _ hb _ e n=>u.keep b o e n hb (by simp)) (fun b o _ hb _ e n=>u.slot b o e n hb (by simp)) (fun b o _ e n=>u.free b o e n (by simp)) (fun b o _ e=>u.there b o e (by simp)) u.ic u.gI u.ig (fun m' hm=>by
  obtain⟨o',es',ep',ho',r'⟩:=hm;rw[ho]at ho';cases ho';exact⟨_,es',ep',hL,r'⟩) av I.bare
theorem Inv.call{g':Array GenState}{t':Nat}{d':Drawn}{ch:List Addr}(I:Inv X pins σ H s)(u:Un (dS X.stack) ch H H' s.heap h')(av:bX X.prog X.w H' h')(hg:AllBare g')
  (hch:∀b∈ch,(b∈X.ex\/X.s₀.heap.objs.size<=b)/\b≠X.env.locals/\(∀x c,X.env.cells.lookup x=some c->c≠b)/\∀p∈X.pn++pins,p.1≠b) :
  Inv X pins σ H' { s with heap:=h',gens:=g',drawn:=d',toks:=t' }:=by
 obtain⟨m,⟨o,es,ep,ho,r⟩,_⟩:=id I.loc;obtain⟨sl,hL⟩:=u.any ho I.free fun z=>(hch _ z).2.1 rfl;exact I.step (ch:=ch) hch (fun b o hL hb hc e n=>u.keep b o e n (fun z=>(zg.mp (I.fD b z)).elim hL hb) hc) (fun b o _ _ hc e n=>u.any e n hc) (fun b o hc e n=>u.free b o e n hc) (fun b o hc e=>u.there b o e hc) u.ic u.gI u.ig (fun m' hm=>by
  obtain⟨o',es',ep',ho',r'⟩:=hm;rw[ho]at ho';cases ho';exact⟨_,es',ep',hL,r'⟩) av hg
theorem Inv.turned{t':Nat}{it:Addr}(I:Inv X pins σ H s)(k:∀b o,b≠it->s.heap.get? b=some o->h'.get? b=some o)(hn:H it=none)(hL:it≠X.env.locals)
  (h1:it∈X.ex\/X.s₀.heap.objs.size<=it) (h2:∀x c,X.env.cells.lookup x=some c->c≠it) (h3:∀p∈X.pn++pins,p.1≠it):Inv X pins σ H { s with heap:=h',toks:=t' }:=by
 have Pq:∀b u,H b=some u->b≠it:=fun b u e z=>by rw[z,hn]at e;cases e
 refine I.step (g':=s.gens) (d':=s.drawn) (ch:=[it]) (fun b hb=>?_) (fun b o _ _ hc e _=>k b o (fun z=>hc (by simp[z])) e) (fun b o _ _ hc e _=>⟨o.slots,k b o (fun z=>hc (by simp[z])) e⟩) (fun _ _ _ _ n=>n)
  (fun b o hc e=>⟨o,k b o (fun z=>hc (by simp[z])) e⟩) (fun _ _ e=>e) (fun _ _ _ e=>e) (fun b ps e=>⟨#[],by rw[e];simp⟩) (fun m hm=>?_) (fun b u e=>?_) I.bare
 ·have e:b=it:=by simpa using hb
  subst e;exact⟨h1,hL,h2,h3⟩
 ·obtain⟨o,es,ep,ho,r⟩:=hm
  exact⟨o,es,ep,k _ o (Ne.symm hL) ho,r⟩
 ·refine(I.av b u e).iH (fun c v hc q=>k c v ?_ q) (fun _ q=>q) fun _ _ q=>q
  rcases hc with z|z
  ·rw[z];exact Pq b u e
  ·exact Pq c _ z
theorem Inv.tok(I:Inv X pins σ H s)(t:Nat):Inv X pins σ H { s with toks:=t }:=I.un (h':=s.heap) (t':=t) Un.refl I.av
theorem Inv.kept{t':Nat}(I:Inv X pins σ H s)(k:∀b u,s.heap.get? b=some u->h'.get? b=some u):Inv X pins σ H { s with heap:=h',toks:=t' }:=I.un (Un.kept k) (I.av.kept k)
theorem Inv.laid{a:Addr}{o:HO}{t':Nat}(I:Inv X pins σ H s)(k:∀b u,s.heap.get? b=some u->h'.get? b=some u)(hp:s.heap.objs.size<=a)(new:bJ X.prog X.w (upd H a o) h' a o) :
  Inv X pins σ (upd H a o) { s with heap:=h',toks:=t' }:=I.un (Un.laid k hp (I.av.fresh hp)) (I.av.laid k hp new)
theorem Inv.write{x e:Addr}{o:HO}{t':Nat}(I:Inv X pins σ H s)(mu:E5 (H x))(he:e=x\/H e=some (.own x))(k:∀b u,b≠e->s.heap.get? b=some u->h'.get? b=some u)(vT:∃u,h'.get? e=some u)
  (new:bJ X.prog X.w (upd H x o) h' x o):Inv X pins σ (upd H x o) { s with heap:=h',toks:=t' }:=I.un (Un.write mu he k vT) (I.av.write mu he k vT new)
theorem Inv.pM{pins':List (Addr×Obj)}(I:Inv X pins σ H s)(h:∀p∈pins',s.heap.get? p.1=some p.2/\H p.1=none/\p.1≠X.env.locals/\p.1 ∉ X.fs/\∀v,p.2.data≠.cell v):Inv X pins' σ H s :=
 ⟨I.ok,I.os,I.bare,I.base,I.loc,I.cell,I.free,I.cW,fun p hp=>(zT.mp hp).elim (fun z=>I.pin p (zW _ z)) (h p),I.av,I.len⟩
theorem ng{N:List Str}(hN:N.Nodup){i j:Nat}{x:Str}(a:N[i]?=some x)(b:N[j]?=some x):i=j:=by
 obtain⟨h1,e1⟩:=zv.mp a;obtain⟨h2,e2⟩:=zv.mp b;exact(xv hN).mp (e1.trans e2.symm)
theorem qp{M:Model}{A:Around}{E:Value->Shared->Prop}{i:Nat}{x:Str}{v:V}{u:Value}{Q:Unit->Shared->Prop}(I:Inv X pins σ H s)(hN:X.N.Nodup)(hi:X.N[i]?=some x)(hx:Loc X.env.scope x)(r:RelV v u)
  (h:∀s',Inv X pins (σ.set i (some v)) H s'->(∃a,Heap.SameBut a s.heap s'.heap/\(a=X.env.locals\/X.env.cells.lookup x=some a))->Q () s') (hf:X.fn x=true\/X.env.scope.names.lookup x=some .local:=by first|exact .inl rfl|exact .inr rfl|assumption):wpAny M A (storeName X.env x u) Q E s:=by
 obtain⟨m,hn,hl⟩:=id I.loc;have fP:(X.env.scope.kind==.class||(X.env.scope.kind==.module&&X.env.locals != X.env.globals))=false:=by rw[I.ok.kind];rfl
 have BL:i<σ.length:=by rw[I.len];exact(zv.mp hi).1
 have lM:=I.lM;have tracked:∀{a:Addr} {h':Heap},(∃o,s.heap.get? a=some o/\H a=none)->Heap.SameBut a s.heap h'->bX X.prog X.w H h':=fun {a h'} ha hs b ob e=>by
  obtain⟨_,_,oB⟩:=ha;refine(I.av b ob e).iH (fun c w' hc q=>(hs.2 c ?_).trans q) (fun _ q=>q) fun _ _ q=>q;rintro rfl;rcases hc with rfl|hc
  ·rw[oB]at e;cases e
  ·rw[oB]at hc;cases hc
 rcases hx with hk|hk
 ·refine wpAny_storeName_local hk hn (fun h' hn' hs=>?_) fP
  obtain⟨oL,_,_,DZ,_⟩:=id hn;refine h _ ⟨I.ok,I.os,I.bare,⟨fun b o e n hb hx=>?_,fun b o e n hb hx=>?_,I.base.free,fun b o e hx=>?_,I.base.ic,I.base.gI,I.base.ig⟩,⟨_,hn',fun j y v' e1 e2 e3=>?_⟩,fun y c e=>?_,I.free,I.cW,fun p hp=>?_,tracked ⟨oL,DZ,I.free⟩ hs,by simpa using I.len⟩ ⟨_,hs,.inl rfl⟩
  ·exact(hs.2 b (zA (zj (zn e) I.ok.above))).trans (I.base.keep b o e n hb hx)
  ·obtain⟨sl,e1⟩:=I.base.slot b o e n hb hx
   exact⟨sl,(hs.2 b (zA (zj (zn e) I.ok.above))).trans e1⟩
  ·obtain⟨o',e1⟩:=I.base.there b o e hx
   exact⟨o',(hs.2 b (zA (zj (zn e) I.ok.above))).trans e1⟩
  ·by_cases hj:j=i
   ·subst hj
    rw[hi]at e1;cases e1;rw[zP BL]at e2;cases e2;exact⟨u,r,.inl ⟨hk,by simp⟩⟩
   ·rw[zc (Ne.symm hj)]at e2
    obtain⟨u',r',q⟩:=hl j y v' e1 e2 e3;refine⟨u',r',?_⟩;rcases q with ⟨k,e⟩|⟨k,c,e,z⟩
    ·refine .inl ⟨k,?_⟩
     have:y≠x:=fun e=>hj (ng hN e1 (e▸hi))
     simp[this,e]
    ·exact .inr ⟨k,c,e,z.sameBut hs (lM y c e)⟩
  ·obtain⟨w',z⟩:=I.cell y c e
   exact⟨w',z.sameBut hs (lM y c e)⟩
  ·obtain⟨e,n,ne,nf,d⟩:=I.pin p hp
   exact⟨(hs.2 p.1 ne).trans e,n,ne,nf,d⟩
 ·have hfn:X.fn x=true:=by
   rcases hf with z|z
   ·exact z
   ·rw[z]at hk;cases hk
  obtain⟨c,hc⟩:=I.ok.has x (.inl hk);obtain⟨w',z⟩:=I.cell x c hc;refine wpAny_storeName_cell I.ok.kind hk hc z (fun h' hc' hs=>?_);obtain⟨oc,DY,Rk⟩:=id z;refine h { s with heap:=h' } ⟨I.ok,I.os,I.bare,⟨fun b o e n hb hx=>?_,fun b o e n hb hx=>?_,I.base.free,fun b o e hx=>?_,I.base.ic,I.base.gI,I.base.ig⟩,⟨m,hn.sameBut hs (Ne.symm (lM x c hc)),fun j y v' e1 e2 e3=>?_⟩,fun y c' e=>?_,I.free,I.cW,fun p hp=>?_,tracked ⟨oc,DY,I.cW x c hc⟩ hs,by simpa using I.len⟩ ⟨c,hs,.inr hc⟩
  ·exact(hs.2 b (zA (zj (zn e) (I.ok.uw x c hfn hc)))).trans (I.base.keep b o e n hb hx)
  ·obtain⟨sl,e1⟩:=I.base.slot b o e n hb hx
   exact⟨sl,(hs.2 b (zA (zj (zn e) (I.ok.uw x c hfn hc)))).trans e1⟩
  ·obtain⟨o',e1⟩:=I.base.there b o e hx
   exact⟨o',(hs.2 b (zA (zj (zn e) (I.ok.uw x c hfn hc)))).trans e1⟩
  ·by_cases hj:j=i
   ·subst hj
    rw[hi]at e1;cases e1;rw[zP BL]at e2;cases e2;exact⟨u,r,.inr ⟨.inl hk,c,hc,hc'⟩⟩
   ·rw[zc (Ne.symm hj)]at e2
    obtain⟨u',r',q⟩:=hl j y v' e1 e2 e3;refine⟨u',r',?_⟩;rcases q with q|⟨k,c',e,z'⟩
    ·exact .inl q
    ·refine .inr ⟨k,c',e,z'.sameBut hs ?_⟩
     rintro rfl;exact hj (ng hN e1 (I.ok.inj _ _ _ e hc▸hi))
  ·by_cases Qa:c'=c
   ·subst Qa;exact⟨_,hc'⟩
   ·obtain⟨w2,z2⟩:=I.cell y c' e
    exact⟨w2,z2.sameBut hs Qa⟩
  ·obtain⟨e,n,ne,nf,d⟩:=I.pin p hp
   refine⟨(hs.2 p.1 ?_).trans e,n,ne,nf,d⟩;intro q;rw[q,DY]at e;have q':oc=p.2:=Option.some.inj e;exact d w' (by rw[<- q'];exact Rk)
theorem mT{M:Model}{A:Around}{E:Value->Shared->Prop}{i:Nat}{x:Str}{v:V}{u:Value}{Q:Unit->Shared->Prop}(I:Inv X pins σ H s)(hN:X.N.Nodup)(hi:X.N[i]?=some x)(hx:Loc X.env.scope x)(r:RelV v u)
  (h:∀s',Inv X pins (σ.set i (some v)) H s'->Q () s') (hf:X.fn x=true\/X.env.scope.names.lookup x=some .local:=by first|exact .inl rfl|exact .inr rfl|assumption):wpAny M A (storeName X.env x u) Q E s :=
 qp I hN hi hx r (fun s' I' _=>h s' I') hf
theorem Inv.call'{s':Shared}{ch:List Addr}(I:Inv X pins σ H s)(ho:s'.os=s.os)(u:Un (dS X.stack) ch H H' s.heap s'.heap)(av:bX X.prog X.w H' s'.heap)(hg:AllBare s'.gens)
  (hch:∀b∈ch,(b∈X.ex\/X.s₀.heap.objs.size<=b)/\b≠X.env.locals/\(∀x c,X.env.cells.lookup x=some c->c≠b)/\∀p∈X.pn++pins,p.1≠b):Inv X pins σ H' s':=by
 obtain⟨h',g',d',t',o'⟩:=s';have e:o'=s.os:=ho;subst e;exact I.call (g':=g') (t':=t') (d':=d') u av hg hch
end
abbrev XK:=Value->Option Addr->Hp->Prop
abbrev St:=List (Option V)
abbrev VK:=V->Hp->Prop
abbrev TE:=St->Hp->VK->Prop
abbrev TT:=St->Hp->(Bool->Hp->Prop)->Prop
abbrev TA:=St->Hp->(List V->Hp->Prop)->Prop
structure Ends where
 nx:St->Hp->Prop
 rt:VK
 bk:St->Hp->Prop:=fun _ _=>False
 ct:St->Hp->Prop:=fun _ _=>False
abbrev TS:=Ends->St->Hp->Prop
inductive EP (X:Cx) (pins:List (Addr×Obj)) (σ:St) (Q:VK) (u:Value) (s':Shared):Prop
 |mk (v:V) (H':Hp) (I:Inv X pins σ H' s') (r:RelV v u) (q:Q v H')
inductive TP (X:Cx) (pins:List (Addr×Obj)) (σ:St) (Q:Bool->Hp->Prop) (b:Bool) (s':Shared):Prop
 |mk (H':Hp) (I:Inv X pins σ H' s') (q:Q b H')
inductive AP (X:Cx) (pins:List (Addr×Obj)) (σ:St) (Q:List V->Hp->Prop) (us:List Value) (s':Shared):Prop
 |mk (vs:List V) (H':Hp) (I:Inv X pins σ H' s') (r:Vals vs us) (q:Q vs H')
inductive NP (X:Cx) (pins:List (Addr×Obj)) (Q:St->Hp->Prop) (s':Shared):Prop
 |mk (σ':St) (H':Hp) (I:Inv X pins σ' H' s') (q:Q σ' H')
inductive RP (X:Cx) (pins:List (Addr×Obj)) (Q:VK) (u:Value) (s':Shared):Prop
 |mk (v:V) (σ':St) (H':Hp) (I:Inv X pins σ' H' s') (r:RelV v u) (q:Q v H')
def SP(X:Cx)(pins:List (Addr×Obj))(D:Ends)(f:Flow)(s':Shared):Prop :=
 match f with
 |.next=>NP X pins D.nx s'
 |.brk=>NP X pins D.bk s'
 |.cont=>NP X pins D.ct s'
 |.ret u=>RP X pins D.rt u s'
def PE(X:Cx)(e:Expr)(t:TE):Prop :=
 ∀(pins:List (Addr×Obj)) (s:Shared) (σ:St) (H:Hp) (Q:VK),Inv X pins σ H s->t σ H Q->wpAny (model X.prog X.w) X.A (eval e X.env) (EP X pins σ Q) X.xe s
def PT(X:Cx)(e:Expr)(t:TT):Prop :=
 ∀(pins:List (Addr×Obj)) (s:Shared) (σ:St) (H:Hp) (Q:Bool->Hp->Prop),Inv X pins σ H s->t σ H Q->wpAny (model X.prog X.w) X.A (isTrue e X.env (eval e X.env)) (TP X pins σ Q) X.xe s
def PW(X:Cx)(e:Expr)(t:TT):Prop :=
 ∀(whole:Sem Value) (pins:List (Addr×Obj)) (s:Shared) (σ:St) (H:Hp) (Q:Bool->Hp->Prop),Inv X pins σ H s->t σ H Q->wpAny (model X.prog X.w) X.A (isTrue e X.env whole) (TP X pins σ Q) X.xe s
theorem PW.pt{X:Cx}{e:Expr}{t:TT}(h:PW X e t):PT X e t:=h _
def PA(X:Cx)(es:List Expr)(t:TA):Prop :=
 ∀(pos:Pos) (pins:List (Addr×Obj)) (s:Shared) (σ:St) (H:Hp) (Q:List V->Hp->Prop),Inv X pins σ H s->t σ H Q->wpAny (model X.prog X.w) X.A (spliced (backTo pos (starEach es X.env))) (AP X pins σ Q) X.xe s
def PS(X:Cx)(st:Stmt)(t:TS):Prop :=
 ∀(pins:List (Addr×Obj)) (s:Shared) (σ:St) (H:Hp) (D:Ends),Inv X pins σ H s->t D σ H->wpAny (model X.prog X.w) X.A (exec st X.env) (SP X pins D) X.xe s
def dB(X:Cx)(st:List Stmt)(t:TS):Prop :=
 ∀(pins:List (Addr×Obj)) (s:Shared) (σ:St) (H:Hp) (D:Ends),Inv X pins σ H s->t D σ H->wpAny (model X.prog X.w) X.A (execs st X.env) (SP X pins D) X.xe s
theorem aF{α:Type}{t:Sem α}{Q Q':α->Shared->Prop}{M:Model}{A:Around}{E:Value->Shared->Prop}{s:Shared}(h:wpAny M A t Q E s)(hQ:∀a s,Q a s->Q' a s):wpAny M A t Q' E s:=wpAny_mono h hQ fun _ _ x=>x
end L2
namespace L2
open PySem PySem.Spec PyProof.Rows
section
variable {X:Cx}
def cZ(i:Nat):TE:=fun σ H Q=>∃v,σ[i]?=some (some v)/\Q v H
def tC(v:V):TE:=fun _ H Q=>Q v H
theorem eo{i:Nat}{x:Str}{pos:Pos}(hN:X.N[i]?=some x)(hv:uz X.env.scope x)(hd:(x==("__debug__":Str))=false:=by decide)(jV:(x==("__classdict__":Str))=false:=by decide):PE X (.Name x pos) (cZ i):=by
 intro pins s σ H Q I h;obtain⟨v,e,h⟩:=h;obtain⟨m,hn,hl⟩:=I.loc;obtain⟨u,r,l⟩:=hl i x v hN e hv;have fin:EP X pins σ Q u s:=⟨v,H,I,r,h⟩;rcases l with ⟨hk,hm⟩|⟨hk,c,hc,IH⟩
 ·exact wpAny_Name (wpAny_loadName_local I.ok.kind hk hn hm fin) hd
 ·rcases hk with hk|hk
  ·exact wpAny_Name (wpAny_loadName_cell I.ok.kind hk hc IH fin) hd
  ·exact wpAny_Name (wpAny_loadName_free I.ok.kind hk hc IH fin jV) hd
theorem Dp{i j pos}:PE X (.Constant (.int i) j pos) (tC (.int i)):=fun _ _ _ H _ I h=>wpAny_Constant_int ⟨.int i,H,I.tok _,⟨_,rfl⟩,h⟩
theorem OH{b j pos}:PE X (.Constant (.bool b) j pos) (tC (.bl b)):=fun _ _ _ H _ I h=>Constant_bool ⟨.bl b,H,I,rfl,h⟩
theorem L7{j pos}:PE X (.Constant .none j pos) (tC .non):=fun _ _ _ H _ I h=>Constant_none ⟨.non,H,I,rfl,h⟩
theorem fJ{x j pos}:PE X (.Constant (.str x) j pos) (tC (.str x)):=fun _ _ _ H _ I h=>Calls.Constant_str ⟨.str x,H,I.tok _,⟨_,rfl⟩,h⟩
def Gl(X:Cx)(x:Str):Prop:=X.env.kindOf x=some .globalImplicit
theorem iD{E:Value->Shared->Prop}{pins:List (Addr×Obj)}{s:Shared}{σ:St}{H:Hp}{x:Str}{u:Value}{pos:Pos}{Q:Value->Shared->Prop}(I:Inv X pins σ H s)(hg:Gl X x)(hm:X.mg x=some u)(h:Q u s)
  (hd:(x==("__debug__":Str))=false:=by decide):wpAny (model X.prog X.w) X.A (eval (.Name x pos) X.env) Q E s :=
 Calls.Name_function_global I.ok.kind hg (Calls.loadGlobal_global (by rw[I.ok.glob];exact I.mod.glob.keeps I.bk) hm h) hd
theorem fL{E:Value->Shared->Prop}{pins:List (Addr×Obj)}{s:Shared}{σ:St}{H:Hp}{x:Str}{u:Value}{pos:Pos}{Q:Value->Shared->Prop}(I:Inv X pins σ H s)(hg:Gl X x)(hm:X.mg x=none)(hv:bootBuiltins x=some u)(h:Q u s)
  (hn:x≠"__name__":=by decide) (hd:(x==("__debug__":Str))=false:=by decide):wpAny (model X.prog X.w) X.A (eval (.Name x pos) X.env) Q E s:=by
 obtain⟨mb,h1,h2⟩:=I.mod.blt;exact Calls.Name_function_global I.ok.kind hg (Calls.loadGlobal_builtin (by rw[I.ok.glob];exact I.mod.glob.keeps I.bk) hm (by rw[I.ok.blt];exact h1.keeps I.bk) ((h2 x hn).trans hv) h) hd
theorem vB{x:Str}{v:V}{u:Value}{pos:Pos}(hg:Gl X x)(hm:X.mg x=some u)(r:RelV v u)(hd:(x==("__debug__":Str))=false:=by decide):PE X (.Name x pos) (tC v) :=
 fun _ _ _ H _ I h=>iD I hg hm ⟨v,H,I,r,h⟩ hd
theorem me{x:Str}{v:V}{u:Value}{pos:Pos}(hg:Gl X x)(hm:X.mg x=none)(hv:bootBuiltins x=some u)(r:RelV v u)(hn:x≠"__name__":=by decide)(hd:(x==("__debug__":Str))=false:=by decide):PE X (.Name x pos) (tC v) :=
 fun _ _ _ H _ I h=>fL I hg hm hv ⟨v,H,I,r,h⟩ hn hd
variable {a b:Expr}{ta tb:TE}{pos:Pos}
def tB(t:TE):TT:=fun σ H Q=>t σ H fun x H1=>∃c,x=.bl c/\Q c H1
theorem LU{e:Expr}{t:TE}(h:PE X e t)(he:∀whole,isTrue e X.env whole=(do let v<-whole;standAt e.pos;holding [v] (truthy v)):=by intro _;rfl):PT X e (tB t):=by
 intro pins s σ H Q I hw;refine isTrue_plain (aF (h pins s σ H _ I hw) fun v s1 ⟨x,H1,I1,r1,q1⟩=>?_) (he _);obtain⟨d,rfl,q⟩:=q1;cases r1;exact wpAny_truthy_bool ⟨H1,I1,q⟩
variable {tA tB':TT}{rest:List Expr}
def Lh(t u:TT):TT:=fun σ H Q=>t σ H fun c H1=>if c=true then u σ H1 Q else Q false H1
def Pg(t u:TT):TT:=fun σ H Q=>t σ H fun c H1=>if c=true then Q true H1 else u σ H1 Q
def Lc(t:TT):TT:=fun σ H Q=>t σ H fun c H1=>Q (!c) H1
theorem vn(ha:PT X a tA):PW X (.BoolOp .And [a] pos) tA:=by
 intro wh pins s σ H Q I h;refine isTrue_and (aF (ha pins s σ H Q I h) fun c s1 e=>?_);cases c with
 |true=>exact isTrue_and_nil e
 |false=>exact e
theorem De(ha:PT X a tA):PW X (.BoolOp .Or [a] pos) tA:=by
 intro wh pins s σ H Q I h;refine isTrue_or (aF (ha pins s σ H Q I h) fun c s1 e=>?_);cases c with
 |false=>exact isTrue_or_nil e
 |true=>exact e
theorem sU(ha:PT X a tA)(hb:PW X (.BoolOp .And (b::rest) pos) tB'):PW X (.BoolOp .And (a::b::rest) pos) (Lh tA tB'):=by
 intro wh pins s σ H Q I h;refine isTrue_and (aF (ha pins s σ H _ I h) fun c s1 ⟨H1,I1,q1⟩=>?_);cases c with
 |true=>exact hb wh pins s1 σ H1 Q I1 q1
 |false=>exact⟨H1,I1,q1⟩
theorem Bh(ha:PT X a tA)(hb:PW X (.BoolOp .Or (b::rest) pos) tB'):PW X (.BoolOp .Or (a::b::rest) pos) (Pg tA tB'):=by
 intro wh pins s σ H Q I h;refine isTrue_or (aF (ha pins s σ H _ I h) fun c s1 ⟨H1,I1,q1⟩=>?_);cases c with
 |true=>exact⟨H1,I1,q1⟩
 |false=>exact hb wh pins s1 σ H1 Q I1 q1
theorem LV(ha:PT X a tA):PT X (.UnaryOp .Not a pos) (Lc tA):=by
 intro pins s σ H Q I h;exact isTrue_not (aF (ha pins s σ H (fun c H1=>Q (!c) H1) I h) fun _ _ ⟨H1,I1,q1⟩=>⟨H1,I1,q1⟩)
def Hw(ta tb:TE):TE:=fun σ H Q=>ta σ H fun x H1=>∃c,x=.bl c/\if c=true then tb σ H1 Q else Q (.bl false) H1
def Lb(ta tb:TE):TE:=fun σ H Q=>ta σ H fun x H1=>∃c,x=.bl c/\if c=true then Q (.bl true) H1 else tb σ H1 Q
def Hq(ta:TE):TE:=fun σ H Q=>ta σ H fun x H1=>∃c,x=.bl c/\Q (.bl (!c)) H1
theorem Dk{op}{t:TE}(h:PE X a t):PE X (.BoolOp op [a] pos) t:=fun pins s σ H Q I hw=>BoolOp_one (h pins s σ H Q I hw)
theorem Dq(ha:PE X a ta)(hb:PE X (.BoolOp .And (b::rest) pos) tb):PE X (.BoolOp .And (a::b::rest) pos) (Hw ta tb):=by
 intro pins s σ H Q I h;refine BoolOp_and (aF (ha pins s σ H _ I h) fun v s1 ⟨x,H1,I1,r1,q1⟩=>?_);obtain⟨c,rfl,q1⟩:=q1;cases r1;refine wpAny_truthy_bool ?_;cases c with
 |true=>exact hb pins s1 σ H1 Q I1 q1
 |false=>exact⟨.bl false,H1,I1,rfl,q1⟩
theorem HG(ha:PE X a ta)(hb:PE X (.BoolOp .Or (b::rest) pos) tb):PE X (.BoolOp .Or (a::b::rest) pos) (Lb ta tb):=by
 intro pins s σ H Q I h;refine BoolOp_or (aF (ha pins s σ H _ I h) fun v s1 ⟨x,H1,I1,r1,q1⟩=>?_);obtain⟨c,rfl,q1⟩:=q1;cases r1;refine wpAny_truthy_bool ?_;cases c with
 |false=>exact hb pins s1 σ H1 Q I1 q1
 |true=>exact⟨.bl true,H1,I1,rfl,q1⟩
theorem Dm(ha:PE X a ta):PE X (.UnaryOp .Not a pos) (Hq ta):=by
 intro pins s σ H Q I h;refine UnaryOp_ (aF (ha pins s σ H _ I h) fun v s1 ⟨x,H1,I1,r1,q1⟩=>?_);obtain⟨c,rfl,q1⟩:=q1;cases r1;exact not_of (wpAny_truthy_bool ⟨.bl (!c),H1,I1,rfl,q1⟩)
def Ph(t:TT)(ta tb:TE):TE:=fun σ H Q=>t σ H fun c H1=>if c=true then ta σ H1 Q else tb σ H1 Q
theorem FT{c:Expr}(hc:PT X c tA)(ha:PE X a ta)(hb:PE X b tb):PE X (.IfExp c a b pos) (Ph tA ta tb):=by
 intro pins s σ H Q I h;refine wpAny_IfExp (aF (hc pins s σ H _ I h) fun d s1 ⟨H1,I1,q1⟩=>?_);cases d with
 |true=>exact ha pins s1 σ H1 Q I1 q1
 |false=>exact hb pins s1 σ H1 Q I1 q1
end
end L2
namespace L2
open PySem PySem.Spec PyProof.Rows
def aJ(K:Q_)(H:Hp)(a:Addr)(xs:List V):Prop :=
 Rd H a (.lst xs) \/
  ∃(o:Obj) (its:Array Value) (n:Nat),K.lookup a=some o/\o.cls=.type "list"/\o.dict=none/\o.data=.seq its n/\its.size<=zp/\Vals xs its.toList
def cz(K:Q_)(H:Hp)(a:Addr)(xs:List V):Prop :=
 Rd H a (.tup xs) \/
  ∃(o:Obj) (its:Array Value) (n:Nat),K.lookup a=some o/\o.cls=.type "tuple"/\o.data=.seq its n/\its.size<=zp/\Vals xs its.toList/\o.dict=none/\o.slots=#[]
def RD:Value->Option V
 |.none=>some .non
 |.bool b=>some (.bl b)
 |.int i _=>some (.int i)
 |.str x _=>some (.str x)
 |.bytes b _=>some (.byt b)
 |.float b _=>some (.flt b)
 |.ref a=>some (.ref a)
 |.type n=>some (.ty n)
 |_=>none
theorem RelV.abs{x:V}{u:Value}(r:RelV x u):RD u=some x:=by
 cases x with
 |non=>cases r;rfl
 |bl _=>cases r;rfl
 |int _=>obtain⟨t,rfl⟩:=r;rfl
 |str _=>obtain⟨t,rfl⟩:=r;rfl
 |byt _=>obtain⟨t,rfl⟩:=r;rfl
 |flt _=>obtain⟨t,rfl⟩:=r;rfl
 |ref _=>cases r;rfl
 |ty _=>cases r;rfl
theorem RelV.inj{x y:V}{u:Value}(r:RelV x u)(q:RelV y u):x=y:=Option.some.inj (r.abs.symm.trans q.abs)
theorem Vals.inj:∀{xs ys:List V} {us:List Value},Vals xs us->Vals ys us->xs=ys
 |_,_,_,.nil,.nil=>rfl
 |_,_,_,.cons r t,.cons r' t'=>by rw[r.inj r',Vals.inj t t']
section
variable {X:Cx}{pins:List (Addr×Obj)}{σ:St}{H:Hp}{s:Shared}{a:Addr}{xs ys:List V}
theorem aJ.of{K:Q_}(h:H a=some (.lst xs)):aJ K H a xs:=.inl (.inl h)
inductive RQ (xs:List V) (h:Heap) (a:Addr):Prop
 |mk (its:List Value) (r:Vals xs its) (p:PlainL h a its.toArray) (l:xs.length<=zp)
theorem Inv.list(I:Inv X pins σ H s)(h:aJ X.K H a xs):RQ xs s.heap a:=by
 rcases h with h|⟨o,its,n,hk,hc,hd,hs,hz,r⟩
 ·obtain⟨z,its,n,r,e⟩:=h.ok I.av
  exact⟨its,r,⟨_,n,e,rfl,rfl,rfl⟩,z⟩
 ·refine⟨its.toList,r,⟨o,n,I.dR a o hk,hc,hd,by simpa using hs⟩,?_⟩
  have e:=r.length;simp only[xh]at e;first|lia|omega
inductive RO (xs:List V) (h:Heap) (a:Addr):Prop
 |mk (its:List Value) (r:Vals xs its) (p:IsTup h a its.toArray) (l:xs.length<=zp)
theorem Inv.tuple(I:Inv X pins σ H s)(h:cz X.K H a xs):RO xs s.heap a:=by
 rcases h with h|⟨o,its,n,hk,hc,hs,hz,r,_⟩
 ·obtain⟨z,its,r,p,_⟩:=h.ok I.av
  exact⟨its,r,p,z⟩
 ·refine⟨its.toList,r,⟨o,I.dR a o hk,hc,n,by simpa using hs⟩,?_⟩
  have e:=r.length;simp only[xh]at e;first|lia|omega
theorem Inv.qm(I:Inv X pins σ H s)(h:cz X.K H a xs):∃o,s.heap.get? a=some o/\o.dict=none/\o.slots=#[]:=by
 rcases h with h|⟨o,its,n,hk,hc,hs,hz,r,hd⟩
 ·obtain⟨z,its,r,⟨o,e,_⟩,d⟩:=h.ok I.av
  exact⟨o,e,d o e⟩
 ·exact⟨o,I.dR a o hk,hd⟩
theorem Inv.nu(I:Inv X pins σ H s)(h:aJ X.K H a xs)(h':aJ X.K H a ys):xs=ys:=by
 obtain⟨its,r,⟨o,n,e,_,_,d⟩,_⟩:=I.list h;obtain⟨its',r',⟨o',n',e',_,_,d'⟩,_⟩:=I.list h';rw[e]at e';cases e';rw[d]at d';injection d' with d1 _
 have:its=its':=by simpa using congrArg wX d1
 subst this;exact r.inj r'
theorem Inv.kZ(I:Inv X pins σ H s)(h:cz X.K H a xs)(h':cz X.K H a ys):xs=ys:=by
 obtain⟨its,r,⟨o,e,_,n,d⟩,_⟩:=I.tuple h;obtain⟨its',r',⟨o',e',_,n',d'⟩,_⟩:=I.tuple h';rw[e]at e';cases e';rw[d]at d';injection d' with d1 _
 have:its=its':=by simpa using congrArg wX d1
 subst this;exact r.inj r'
end
abbrev Cx.dE(X:Cx)(E:Value->Shared->Prop):Cx:={ X with xe:=E }
abbrev Cx.d9(X:Cx):Cx:=X.dE fun _ _=>False
theorem Cx.Ok.dE{X:Cx}(ok:X.Ok)(E:Value->Shared->Prop):(X.dE E).Ok :=
 ⟨ok.mod,ok.kind,ok.glob,ok.blt,ok.above,ok.inj,ok.has,ok.uw,ok.hd,ok.frames,ok.vb,ok.IY,ok.bs,ok.kR,ok.mZ,ok.p9,ok.eL,ok.mJ⟩
theorem Cx.Ok.dk{X:Cx}{E:Value->Shared->Prop}(ok:(X.dE E).Ok):X.Ok :=
 ⟨ok.mod,ok.kind,ok.glob,ok.blt,ok.above,ok.inj,ok.has,ok.uw,ok.hd,ok.frames,ok.vb,ok.IY,ok.bs,ok.kR,ok.mZ,ok.p9,ok.eL,ok.mJ⟩
section
variable {X:Cx}{pins:List (Addr×Obj)}{σ:St}{H:Hp}{s:Shared}{E:Value->Shared->Prop}
theorem Inv.dE(I:Inv X pins σ H s)(E:Value->Shared->Prop):Inv (X.dE E) pins σ H s:=⟨I.ok.dE E,I.os,I.bare,I.base,I.loc,I.cell,I.free,I.cW,I.pin,I.av,I.len⟩
theorem Inv.dk(I:Inv (X.dE E) pins σ H s):Inv X pins σ H s:=⟨I.ok.dk,I.os,I.bare,I.base,I.loc,I.cell,I.free,I.cW,I.pin,I.av,I.len⟩
theorem SP.dk{D:Ends}{f:Flow}{s':Shared}(h:SP (X.dE E) pins D f s'):SP X pins D f s':=by
 cases f with
 |next=>obtain⟨σ',H',I,q⟩:=h;exact⟨σ',H',I.dk,q⟩
 |brk=>obtain⟨σ',H',I,q⟩:=h;exact⟨σ',H',I.dk,q⟩
 |cont=>obtain⟨σ',H',I,q⟩:=h;exact⟨σ',H',I.dk,q⟩
 |ret u=>obtain⟨v,σ',H',I,r,q⟩:=h;exact⟨v,σ',H',I.dk,r,q⟩
theorem PE.d9{e:Expr}{t:TE}(h:PE X.d9 e t):PE X e t:=fun pins s σ H Q I hw =>
 wpAny_mono (h pins s σ H Q (I.dE _) hw) (fun _ _ ⟨v,H',I',r,q⟩=>⟨v,H',I'.dk,r,q⟩) fun _ _ z=>False.elim z
theorem PT.d9{e:Expr}{t:TT}(h:PT X.d9 e t):PT X e t:=fun pins s σ H Q I hw =>
 wpAny_mono (h pins s σ H Q (I.dE _) hw) (fun _ _ ⟨H',I',q⟩=>⟨H',I'.dk,q⟩) fun _ _ z=>False.elim z
theorem dB.d9{st:List Stmt}{t:TS}(h:dB X.d9 st t):dB X st t:=fun pins s σ H D I hw =>
 wpAny_mono (h pins s σ H D (I.dE _) hw) (fun _ _ q=>q.dk) fun _ _ z=>False.elim z
end
section
variable {X:Cx}{st:Stmt}{rest:List Stmt}{t u:TS}{e:Expr}{te:TE}{pos:Pos}
def Hr:TS:=fun D σ H=>D.nx σ H
def Fm(t u:TS):TS:=fun D σ H=>t { D with nx:=u D } σ H
theorem lY:dB X [] Hr:=fun _ _ σ H _ I h=>wpAny_execs_nil ⟨σ,H,I,h⟩
theorem cJ(h1:PS X st t)(h2:dB X rest u):dB X (st::rest) (Fm t u):=by
 intro pins s σ H D I h;refine wpAny_execs_cons (aF (h1 pins s σ H { D with nx:=u D } I h) fun f s1 q=>?_);cases f with
 |next =>
  obtain⟨σ',H',I',q⟩:=q;exact h2 pins s1 σ' H' D I' q
 |ret v=>exact q
 |brk=>exact q
 |cont=>exact q
def Lf:TS:=fun D σ H=>D.bk σ H
def Oq:TS:=fun D σ H=>D.ct σ H
theorem JW:PS X (.Pass pos) Hr:=fun _ _ σ H _ I h=>wpAny_Pass ⟨σ,H,I,h⟩
theorem FL:PS X (.Break pos) Lf:=fun _ _ σ H _ I h=>wpAny_Break ⟨σ,H,I,h⟩
theorem uT:PS X (.Continue pos) Oq:=fun _ _ σ H _ I h=>wpAny_Continue ⟨σ,H,I,h⟩
theorem Inv.quiet{pins:List (Addr×Obj)}{σ:St}{H:Hp}{s:Shared}(I:Inv X pins σ H s):interactive X.env=false:=by simp[interactive,I.ok.kind]
def Ht(te:TE):TS:=fun D σ H=>te σ H fun _ H1=>D.nx σ H1
theorem lZ(he:PE X e te)(hs:swapsWith e none pos.line X.env=pure false:=by rfl):PS X (.Expr e pos) (Ht te):=by
 intro pins s σ H D I h;exact wpAny_Expr_any (aF (he pins s σ H _ I h) fun v s1 ⟨x,H1,I1,r1,q1⟩=>⟨σ,H1,I1,q1⟩) I.quiet hs
def La(te:TE):TS:=fun D σ H=>te σ H D.rt
theorem sW(he:PE X e te):PS X (.Return (some e) pos) (La te):=by
 intro pins s σ H D I h;exact wpAny_Return_some (aF (he pins s σ H _ I h) fun v s1 ⟨x,H1,I1,r1,q1⟩=>⟨x,σ,H1,I1,r1,q1⟩)
def Oo:TS:=fun D _ H=>D.rt .non H
theorem JV:PS X (.Return none pos) Oo:=fun _ _ σ H _ I h=>wpAny_Return_none ⟨.non,σ,H,I,rfl,h⟩
def Fo(c:TT)(t u:TS):TS:=fun D σ H=>c σ H fun b H1=>if b=true then t D σ H1 else u D σ H1
theorem HF{c:Expr}{a b:List Stmt}{tc:TT}(hc:PT X c tc)(ha:dB X a t)(hb:dB X b u):PS X (.If c a b pos) (Fo tc t u):=by
 intro pins s σ H D I h;refine wpAny_If (aF (hc pins s σ H _ I h) fun d s1 ⟨H1,I1,q1⟩=>?_);cases d with
 |true=>exact ha pins s1 σ H1 D I1 q1
 |false=>exact hb pins s1 σ H1 D I1 q1
end
abbrev TG:=V->St->Hp->(St->Hp->Prop)->Prop
abbrev qS:=List V->St->Hp->(St->Hp->Prop)->Prop
def PG(X:Cx)(target:Expr)(t:TG):Prop :=
 ∀(pins:List (Addr×Obj)) (s:Shared) (σ:St) (H:Hp) (v:V) (u:Value) (Q:St->Hp->Prop),Inv X pins σ H s->RelV v u->t v σ H Q ->
  wpAny (model X.prog X.w) X.A (assign target X.env u) (fun _ s'=>∃σ' H',Inv X pins σ' H' s'/\Q σ' H') X.xe s
def E4(X:Cx)(ts:List Expr)(t:qS):Prop :=
 ∀(pins:List (Addr×Obj)) (s:Shared) (σ:St) (H:Hp) (vs:List V) (us:List Value) (Q:St->Hp->Prop),Inv X pins σ H s->Vals vs us->t vs σ H Q ->
  wpAny (model X.prog X.w) X.A (assignInOrder ((assignEach ts X.env).map (·.2)) us) (fun _ s'=>∃σ' H',Inv X pins σ' H' s'/\Q σ' H') X.xe s
abbrev Ck:=V->V->V->Hp->(Hp->Prop)->Prop
def Hd(X:Cx)(t:Ck):Prop :=
 ∀(pins:List (Addr×Obj)) (s:Shared) (σ:St) (H:Hp) (o i v:V) (ov iv u:Value) (Q:Hp->Prop),Inv X pins σ H s->RelV o ov->RelV i iv->RelV v u->t o i v H Q ->
  wpAny (model X.prog X.w) X.A (setItem ov iv u) (fun _ s'=>∃H',Inv X pins σ H' s'/\Q H') X.xe s
section
variable {X:Cx}{pos:Pos}
def cN(i:Nat):TG:=fun v σ H Q=>Q (σ.set i (some v)) H
theorem gG{i:Nat}{x:Str}(hN:X.N.Nodup)(hi:X.N[i]?=some x)(hx:Loc X.env.scope x)(hf:X.fn x=true\/X.env.scope.names.lookup x=some .local:=by first|exact .inl rfl|exact .inr rfl|assumption):PG X (.Name x pos) (cN i):=by
 intro pins s σ H v u Q I r h;exact wpAny_assign_Name (mT I hN hi hx r (fun s' I'=>⟨_,H,I',h⟩) hf)
def p7:qS:=fun vs σ H Q=>vs=[]/\Q σ H
def gN(t:TG)(u:qS):qS:=fun vs σ H Q=>∃v r,vs=v::r/\t v σ H fun σ' H'=>u r σ' H' Q
theorem ma:E4 X [] p7:=by
 intro pins s σ H vs us Q I r h;obtain⟨e,h⟩:=h;subst e;cases r;exact assignInOrder_nil ⟨σ,H,I,h⟩
theorem fg{e:Expr}{es:List Expr}{t:TG}{u:qS}(h1:PG X e t)(h2:E4 X es u)
  (hs:(assignEach (e::es) X.env).map (·.2)=assign e X.env::(assignEach es X.env).map (·.2):=by rfl):E4 X (e::es) (gN t u):=by
 intro pins s σ H vs us Q I r h;obtain⟨v,vr,e1,h⟩:=h;subst e1;cases r with
 |cons r rr =>
  rw[hs];refine assignInOrder_cons (aF (h1 pins s σ H _ _ _ I r h) fun _ s1 ⟨σ1,H1,I1,q1⟩=>?_);exact h2 pins s1 σ1 H1 _ _ Q I1 rr q1
def p6(K:Q_)(n:Nat)(t:qS):TG:=fun v σ H Q=>∃a xs,v=.ref a/\cz K H a xs/\xs.length=n/\t xs σ H Q
theorem og{es:List Expr}{k:Nat}{t:qS}{n:Nat}(hc:X.calm=true)(h:E4 X es t)
  (hn:(assignEach es X.env).length=n:=by rfl) (cw:(assignEach es X.env).findIdx? (·.1)=none:=by rfl):PG X (.Tuple es k pos) (p6 X.K n t):=by
 intro pins s σ H v u Q I r hw;obtain⟨a,xs,e1,hq,hl,hw⟩:=hw;subst e1;cases r;obtain⟨its,rv,ht,hz⟩:=I.tuple hq;refine assign_Tuple_tuple (I.ok.hd hc) ht (by simp[hn,<- hl,rv.length]) cw fun h' hx=>?_;have I1:Inv X pins σ H { s with heap:=h' }:=I.kept (t':=s.toks) fun b o e=>hx b o (zA (zn e)) e;exact h pins _ σ H xs _ Q I1 (by simpa using rv) hw
def Nz(to ti:TE)(t:Ck):TG:=fun v σ H Q=>to σ H fun o H1=>ti σ H1 fun i H2=>t o i v H2 fun H3=>Q σ H3
theorem L6{o i:Expr}{to ti:TE}{t:Ck}(ho:PE X o to)(hi:PE X i ti)(hs:Hd X t)
  (ha:∀v,assign (.Subscript o i pos) X.env v=(do
   let ov<-holding [v] (eval o X.env)
   let iv<-holding [v,ov] (eval i X.env)
   standAt pos
   holding [v,ov,iv] (setItem ov iv v)
   release [v,ov,iv] []):=by intro _;rfl):PG X (.Subscript o i pos) (Nz to ti t):=by
 intro pins s σ H v u Q I r h;rw[ha];refine zz (wpAny_holding (aF (ho pins s σ H _ I h) fun ov s1 ⟨x,H1,I1,r1,q1⟩=>?_));refine zz (wpAny_holding (aF (hi pins s1 σ H1 _ I1 q1) fun iv s2 ⟨y,H2,I2,r2,q2⟩=>?_));refine zz (wpAny_standAt (zz (wpAny_holding (aF (hs pins s2 σ H2 x y v ov iv u _ I2 r1 r2 r q2) fun _ s3 ⟨H3,I3,q3⟩=>?_))));exact wpAny_release ⟨σ,H3,I3,q3⟩
def pC(te:TE)(g:TG):TS:=fun D σ H=>te σ H fun x H1=>g x σ H1 D.nx
theorem Dg{tg e:Expr}{te:TE}{g:TG}(he:PE X e te)(hg:PG X tg g)(hs:swapsWithSole [tg] e pos.line X.env=pure false:=by rfl)(hw:swappedStores [tg] e X.env=pure none:=by rfl)
  (h1:(assignEach [tg] X.env).map (·.2)=[assign tg X.env]:=by rfl):PS X (.Assign [tg] e pos) (pC te g):=by
 intro pins s σ H D I h;refine wpAny_Assign_stores (aF (he pins s σ H _ I h) fun v s1 ⟨x,H1,I1,r1,q1⟩=>?_) hs hw;rw[h1];exact aF (hg pins s1 σ H1 x v _ I1 r1 q1) fun _ s2 ⟨a,b,c,d⟩=>⟨a,b,c,d⟩
theorem jN{i:Nat}{x:Str}{e:Expr}{te:TE}{pos':Pos}(hN:X.N.Nodup)(hi:X.N[i]?=some x)(hx:Loc X.env.scope x)(he:PE X e te)(hs:swapsWith e (some (.Name x pos')) pos.line X.env=pure false:=by rfl)(hf:X.fn x=true\/X.env.scope.names.lookup x=some .local:=by first|exact .inl rfl|exact .inr rfl|assumption) :
  PS X (.Assign [.Name x pos'] e pos) (pC te (cN i)):=by
 intro pins s σ H D I h;refine wpAny_Assign_Name (aF (he pins s σ H _ I h) fun v s1 ⟨y,H1,I1,r1,q1⟩=>?_) hs;exact mT I1 hN hi hx r1 (fun s2 I2=>⟨_,H1,I2,q1⟩) hf
end
section
variable {X:Cx}{pos:Pos}
def CL(c:TT)(tb:TS):TS:=fun D σ H=>∃W:Nat->St->Hp->Prop,(∃m,W m σ H)/\∀m σ H,W m σ H ->
 c σ H fun b H1=>if b=true then ∃N:St->Hp->Prop,(∀σ' H',N σ' H'->∃m',m'<m/\W m' σ' H')/\tb { D with nx:=N,ct:=N,bk:=D.nx } σ H1 else D.nx σ H1
theorem FJ{c:Expr}{body:List Stmt}{tc:TT}{tb:TS}(hp:PassesOwn (model X.prog X.w) X.A X.env X.xe)(hc:PT X c tc)(hb:dB X body tb):PS X (.While c body [] pos) (CL tc tb):=by
 intro pins s σ H D I h;obtain⟨W,⟨m0,w0⟩,turn⟩:=h;refine wpAny_While (codeAny_whileLoop (fun n s'=>∃σ' H',Inv X pins σ' H' s'/\W n σ' H') ?_ m0 ⟨σ,H,I,w0⟩);rintro n s1 ⟨σ1,H1,I1,w1⟩;refine wpAny_passesOwn hp (aF (hc pins s1 σ1 H1 _ I1 (turn n σ1 H1 w1)) fun b s2 ⟨H2,I2,q2⟩=>?_);cases b with
 |true =>
  obtain⟨N,hN,q2⟩:=q2;rw[if_pos rfl];refine wpAny_passesOwn hp (aF (hb pins s2 σ1 H2 _ I2 q2) fun f s3 q3=>?_);cases f with
  |next =>
   obtain⟨σ3,H3,I3,n3⟩:=q3;obtain⟨m',hm,w3⟩:=hN σ3 H3 n3;exact⟨m',hm,σ3,H3,I3,w3⟩
  |cont =>
   obtain⟨σ3,H3,I3,n3⟩:=q3;obtain⟨m',hm,w3⟩:=hN σ3 H3 n3;exact⟨m',hm,σ3,H3,I3,w3⟩
  |brk=>exact q3
  |ret v=>exact q3
 |false =>
  rw[if_neg zt];exact wpAny_execs_nil ⟨σ1,H2,I2,q2⟩
end
structure It where
 go:Nat->Hp->Prop
 iZ:Nat->Hp->V->Hp->Prop
 stop:Nat->Hp->Prop
def eD(X:Cx)(pins:List (Addr×Obj))(H:Hp)(b:Addr):Prop :=
 H b=none/\b≠X.env.locals/\b ∉ X.fs/\(b∈X.ex\/X.s₀.heap.objs.size<=b)/\(∀x c,X.env.cells.lookup x=some c->c≠b)/\∀p∈X.pn++pins,p.1≠b
theorem Inv.kE{X:Cx}{pins:List (Addr×Obj)}{σ:St}{H H':Hp}{s:Shared}{b:Addr}(I:Inv X pins σ H s)(hb:s.heap.objs.size<=b)(hn:H' b=none):eD X pins H' b:=by
 refine⟨hn,zI (zj I.lt hb),I.Q3 hb,.inr (zO I.sz hb),fun x c e z=>?_,fun p hp z=>?_⟩
 ·obtain⟨v,q⟩:=I.cell x c e
  exact absurd (zj q.lt (by rw[z];exact hb)) (yx _)
 ·exact absurd (zj (zn (I.pin p hp).1) (by rw[z];exact hb)) (yx _)
structure Turn (P:Program) (w:World) (K:Q_) (tg:Expr) (J:It) (fp:List Addr) (it:Addr) (tn:Nat->Heap->Prop):Prop where
 mem:it∈fp
 obj:∀i h,tn i h->∀b∈fp,∃o,h.get? b=some o/\∀v,o.data≠.cell v
 keep:∀i h h',tn i h->(∀b∈fp,∀o,h.get? b=some o->h'.get? b=some o)->tn i h'
 item:∀(X:Cx),X.prog=P->X.w=w->X.K=K->X.calm=true->∀(i:Nat) (pins:List (Addr×Obj)) (s:Shared) (σ:St) (H:Hp) (E:Value->Shared->Prop),Inv X pins σ H s->(∀b∈fp,eD X pins H b)->tn i s.heap->J.go i H ->
  wpAny (model P w) X.A (pyNext (.ref it)) (fun r s1=>∃u,r=some u /\
   wpAny (model P w) X.A (letOwnedTupleGo tg (.ref it) u) (fun _ s2=>∃x H',Inv X pins σ H' s2/\RelV x u/\J.iZ i H x H'/\tn (i+1) s2.heap/\∀b∈fp,H' b=none) E s1) E s
 done:∀(X:Cx),X.prog=P->X.w=w->X.K=K->X.calm=true->∀(i:Nat) (pins:List (Addr×Obj)) (s:Shared) (σ:St) (H:Hp) (E:Value->Shared->Prop),Inv X pins σ H s->(∀b∈fp,eD X pins H b)->tn i s.heap->J.stop i H ->
  wpAny (model P w) X.A (pyNext (.ref it)) (fun r s1=>r=none/\Inv X pins σ H s1) E s
 self:∀(A:Around) (i:Nat) (s:Shared) (Q:Value->Shared->Prop) (E:Value->Shared->Prop),tn i s.heap->Q (.ref it) s->wpAny (model P w) A (pyIter (.ref it)) Q E s
abbrev TI:=St->Hp->(It->Hp->Prop)->Prop
def Qw(X:Cx)(pins:List (Addr×Obj))(σ:St)(tg:Expr)(R:It->Hp->Prop)(HW:Value)(s2:Shared):Prop :=
 ∃(it:Addr) (fp:List Addr) (tn:Nat->Heap->Prop) (J:It) (H':Hp),HW=.ref it/\Inv X pins σ H' s2/\Turn X.prog X.w X.K tg J fp it tn/\tn 0 s2.heap/\(∀b∈fp,eD X pins H' b)/\R J H'
def PI(X:Cx)(tg iter:Expr)(wi:TI):Prop :=
 ∀(pins:List (Addr×Obj)) (s:Shared) (σ:St) (H:Hp) (R:It->Hp->Prop),Inv X pins σ H s->wi σ H R ->
  wpAny (model X.prog X.w) X.A (eval iter X.env) (fun v s1=>wpAny (model X.prog X.w) X.A (pyIter v) (Qw X pins σ tg R) X.xe s1) X.xe s
theorem oJ{M:Model}{A:Around}{E:Value->Shared->Prop}{s:Shared}{tg:Expr}{it:Addr}{u:Value}{o:Obj}{n:String}{vs:Array Value}{Q:Unit->Shared->Prop}(ho:s.heap.get? it=some o)(hc:o.cls=.type n)(hd:o.data=.fields vs)
  (hn:["enumerate","zip","dict_itemiterator","dict_reverseitemiterator","odict_iterator","itertools.zip_longest","itertools.pairwise"].contains n=false) (hQ:Q () s):wpAny M A (letOwnedTupleGo tg (.ref it) u) Q E s:=by
 unfold letOwnedTupleGo;cases tg <;> first
  |exact zq hQ
  | (cases u <;> first
    |exact zq hQ
    | (refine zz (wpAny_load ho ?_)
       rw[hc,hd];show wpAny M A (if (["enumerate","zip","dict_itemiterator","dict_reverseitemiterator","odict_iterator","itertools.zip_longest","itertools.pairwise"].contains n&&vs[0]?==some (rawInt _))=true then _ else _) Q E s;rw[if_neg (by intro h;rw[hn,Bool.false_and]at h;cases h)];exact zq hQ))
def QB(K:Q_)(a:Addr):It :=
 ⟨fun i H=>∃xs x,aJ K H a xs/\xs[i]?=some x,fun i H x H'=>H'=H/\∀xs,aJ K H a xs->xs[i]?=some x,fun i H=>∃xs,aJ K H a xs/\xs.length<=i⟩
def Qz(K:Q_)(a:Addr):It :=
 ⟨fun i H=>∃xs x,cz K H a xs/\xs[i]?=some x,fun i H x H'=>H'=H/\∀xs,cz K H a xs->xs[i]?=some x,fun i H=>∃xs,cz K H a xs/\xs.length<=i⟩
def qT(lo:Int)(n:Nat):It:=⟨fun i _=>i<n,fun i H x H'=>H'=H/\x=.int (lo+i),fun i _=>n<=i⟩
theorem CI{P:Program}{w:World}{K:Q_}{tg:Expr}(a it:Addr):Turn P w K tg (QB K a) [it] it (fun i h=>h.IsListIter it a i) where
 mem:=by simp
 obj:=fun i h st b hb=>by
  have e:b=it:=by simpa using hb
  subst e;obtain⟨o,e,c,d⟩:=st;exact⟨o,e,fun v z=>by rw[d]at z;cases z⟩
 keep:=fun i h h' st k=>st.at fun o e=>k it (by simp) o e
 item:=by
  intro X hP hw hK hc i pins s σ H E I hf st hg;subst hP hw hK;obtain⟨xs,x,hq,hx⟩:=hg;obtain⟨its,rv,p,hz⟩:=I.list hq;obtain⟨u,hu,ru⟩:=rv.get hx;obtain⟨f0,f1,f2,f3,f4,f5⟩:=hf it (by simp);refine wpAny_pyNext_list_item st p.isList (x:=u) (by simpa using hu) fun h' st' sb=>?_;have I1:Inv X pins σ H { s with heap:=h' }:=I.turned (t':=s.toks) (fun b o hb e=>(sb.2 b hb).trans e) f0 f1 f3 f4 f5;obtain⟨o,e,c,d⟩:=id st';exact⟨u,rfl,oJ (s:={ s with heap:=h' }) e c d (by decide) ⟨x,H,I1,ru,⟨rfl,fun ys hy=>by rw[I.nu hy hq];exact hx⟩,st',fun b hb=>(hf b hb).1⟩⟩
 done:=by
  intro X hP hw hK hc i pins s σ H E I hf st hg;subst hP hw hK;obtain⟨xs,hq,hx⟩:=hg;obtain⟨its,rv,p,hz⟩:=I.list hq;obtain⟨f0,f1,f2,f3,f4,f5⟩:=hf it (by simp);have hl:=rv.length;exact wpAny_pyNext_list_end (I.ok.hd hc) st p.isList (by simp;omega) fun h' eb=>⟨rfl,I.turned (t':=s.toks) (fun b o hb e=>eb b o hb e) f0 f1 f3 f4 f5⟩
 self:=fun _ _ _ _ _ st h=>wpAny_pyIter_listiter st h
theorem An{P:Program}{w:World}{K:Q_}{tg:Expr}(a it:Addr):Turn P w K tg (Qz K a) [it] it (fun i h=>h.IsTupleIter it a i) where
 mem:=by simp
 obj:=fun i h st b hb=>by
  have e:b=it:=by simpa using hb
  subst e;obtain⟨o,e,c,d⟩:=st;exact⟨o,e,fun v z=>by rw[d]at z;cases z⟩
 keep:=fun i h h' st k=>st.at fun o e=>k it (by simp) o e
 item:=by
  intro X hP hw hK hc i pins s σ H E I hf st hg;subst hP hw hK;obtain⟨xs,x,hq,hx⟩:=hg;obtain⟨its,rv,p,hz⟩:=I.tuple hq;obtain⟨u,hu,ru⟩:=rv.get hx;obtain⟨f0,f1,f2,f3,f4,f5⟩:=hf it (by simp);refine wpAny_pyNext_tuple_item st (show s.heap.IsTuple a its.toArray from p) (x:=u) (by simpa using hu) fun h' st' sb=>?_;have I1:Inv X pins σ H { s with heap:=h' }:=I.turned (t':=s.toks) (fun b o hb e=>(sb.2 b hb).trans e) f0 f1 f3 f4 f5;obtain⟨o,e,c,d⟩:=id st';exact⟨u,rfl,oJ (s:={ s with heap:=h' }) e c d (by decide) ⟨x,H,I1,ru,⟨rfl,fun ys hy=>by rw[I.kZ hy hq];exact hx⟩,st',fun b hb=>(hf b hb).1⟩⟩
 done:=by
  intro X hP hw hK hc i pins s σ H E I hf st hg;subst hP hw hK;obtain⟨xs,hq,hx⟩:=hg;obtain⟨its,rv,p,hz⟩:=I.tuple hq;obtain⟨f0,f1,f2,f3,f4,f5⟩:=hf it (by simp);have hl:=rv.length;exact wpAny_pyNext_tuple_end (I.ok.hd hc) st (show s.heap.IsTuple a its.toArray from p) (by simp;omega) fun h' eb=>⟨rfl,I.turned (t':=s.toks) (fun b o hb e=>eb b o hb e) f0 f1 f3 f4 f5⟩
 self:=fun _ _ _ _ _ st h=>wpAny_pyIter_tupleiter st h
theorem Ao{P:Program}{w:World}{K:Q_}{tg:Expr}(it:Addr)(lo:Int)(n:Nat):Turn P w K tg (qT lo n) [it] it (fun i h=>IsRangeIter h it (lo+(i:Nat)*1) ((n:Int)-(i:Nat)) 1) where
 mem:=by simp
 obj:=fun i h st b hb=>by
  have e:b=it:=by simpa using hb
  subst e;exact⟨_,st,fun v z=>by
   have z':Data.fields _=Data.cell v:=z;cases z'⟩
 keep:=fun i h h' st k=>k it (by simp) _ st
 item:=by
  intro X hP hw hK hc i pins s σ H E I hf st hg;subst hP hw hK;obtain⟨f0,f1,f2,f3,f4,f5⟩:=hf it (by simp);have W:=Walks.range (prog:=X.prog) (w:=X.w) (I.ok.hd hc) it lo 1 n;refine W.item i s _ _ hg st fun v h' tk hv st' kk=>?_;obtain⟨t,rfl⟩:=hv;have I1:Inv X pins σ H { s with heap:=h',toks:=tk }:=I.turned (fun b o hb e=>kk b o (by simpa using hb) e) f0 f1 f3 f4 f5;refine⟨_,rfl,oJ (s:={ s with heap:=h',toks:=tk }) (n:="range_iterator") st' rfl rfl (by decide) ⟨.int (lo+i),H,I1,⟨t,?_⟩,⟨rfl,rfl⟩,st',fun b hb=>(hf b hb).1⟩⟩;rw[vt]
 done:=by
  intro X hP hw hK hc i pins s σ H E I hf st hg;subst hP hw hK;obtain⟨f0,f1,f2,f3,f4,f5⟩:=hf it (by simp);exact wpAny_pyNext_range_end (I.ok.hd hc) st (by have:n<=i:=hg;omega) fun h' eb=>⟨rfl,I.turned (t':=s.toks) (fun b o hb e=>eb b o hb e) f0 f1 f3 f4 f5⟩
 self:=fun _ _ _ _ _ st h=>wpAny_pyIter_rangeiter st h
end L2
namespace L2
open PySem PySem.Spec PyProof.Rows
section
variable {X:Cx}{tg:Expr}
theorem sN{pins:List (Addr×Obj)}{σ:St}{H:Hp}{s:Shared}{R:It->Hp->Prop}{E:Value->Shared->Prop}{lo hi:Int}{t u v:Tok}{tk:Nat}(I:Inv X pins σ H s)(h1:-(2 ^ 62)<=lo)(h2:lo<2 ^ 62)(h3:-(2 ^ 62)<=hi)(h4:hi<2 ^ 62)
  (q:R (qT lo (hi-lo).toNat) H):wpAny (model X.prog X.w) X.A (pyIter (.ref s.heap.objs.size)) (Qw X pins σ tg R) E { s with heap:=s.heap.push { cls:=.type "range",data:=.fields #[.int lo t,.int hi u,.int 1 v] },toks:=tk }:=by
 refine wpAny_pyIter_range (IsRange.new ..) (small_one h1 h2 h3 h4) ?_;have I1:Inv X pins σ H { s with heap:=s.heap.push { cls:=.type "range",data:=.fields #[.int lo t,.int hi u,.int 1 v] },toks:=tk }:=I.kept fun b o e=>zy _ e;refine⟨(s.heap.push { cls:=.type "range",data:=.fields #[.int lo t,.int hi u,.int 1 v] }).objs.size,[(s.heap.push { cls:=.type "range",data:=.fields #[.int lo t,.int hi u,.int 1 v] }).objs.size],_,_,H,rfl,
  I1.kept (t':=tk) fun b o e=>zy _ e,Ao _ lo (hi-lo).toNat,?_,fun b hb=>?_,q⟩
 ·have e1:lo+((0:Nat):Int)*1=lo:=by simp
  have e2:(((hi-lo).toNat:Nat):Int)-((0:Nat):Int)=Builtin.Range.rangeSize lo hi 1:=by rw[rangeSize_one];split <;> omega
  show IsRangeIter _ _ (lo+((0:Nat):Int)*1) ((((hi-lo).toNat:Nat):Int)-((0:Nat):Int)) 1;rw[e1,e2];exact zk _ rfl
 ·have e:b=(s.heap.push { cls:=.type "range",data:=.fields #[.int lo t,.int hi u,.int 1 v] }).objs.size:=by simpa using hb
  subst e;exact I1.kE (zr _) (I1.av.fresh (zr _))
def Ig(ta:TA):TI:=fun σ H R=>ta σ H fun vs H1=>∃j:Int,vs=[.int j]/\-(2 ^ 62)<=j/\j<2 ^ 62/\R (qT 0 j.toNat) H1
def Ie(ta:TA):TI:=fun σ H R=>ta σ H fun vs H1=>∃i j:Int,vs=[.int i,.int j]/\(-(2 ^ 62)<=i/\i<2 ^ 62/\-(2 ^ 62)<=j/\j<2 ^ 62)/\R (qT i (j-i).toNat) H1
theorem Dj{a:Expr}{ta:TA}{p pos:Pos}(hg:Gl X "range")(hm:X.mg "range" = none)(ha:PA X [a] ta)(hs:starEach [a] X.env=[(false,eval a X.env)]:=by rfl):PI X tg (.Call (.Name "range" p) [a] [] pos) (Ig ta):=by
 intro pins s σ H R I h;refine Call_ (fL I hg hm boot_range (W_ (aF (ha pos pins s σ H _ I h) fun us s1 ⟨vs,H1,I1,r1,q1⟩=>?_) hs rfl));obtain⟨j,e,q1,q2,q⟩:=q1;subst e;cases r1 with
 |cons r rr =>
  cases rr;obtain⟨t,rfl⟩:=r;exact call_range_1 (sN I1 (by first|lia|omega) (by first|lia|omega) q1 q2 (by simpa using q))
theorem Di{a b:Expr}{ta:TA}{p pos:Pos}(hg:Gl X "range")(hm:X.mg "range" = none)(ha:PA X [a,b] ta)(hs:starEach [a,b] X.env=[(false,eval a X.env),(false,eval b X.env)]:=by rfl)(gu:starEach [b] X.env=[(false,eval b X.env)]:=by rfl) :
  PI X tg (.Call (.Name "range" p) [a,b] [] pos) (Ie ta):=by
 intro pins s σ H R I h;refine Call_ (fL I hg hm boot_range (W_ (aF (ha pos pins s σ H _ I h) fun us s1 ⟨vs,H1,I1,r1,q1⟩=>?_) (by rw[hs,gu]) (by rw[gu];rfl)));obtain⟨i,j,e,⟨q1,q2,q3,q4⟩,q⟩:=q1;subst e;cases r1 with
 |cons r rr =>
  cases rr with
  |cons r' rr =>
   cases rr;obtain⟨t,rfl⟩:=r;obtain⟨t',rfl⟩:=r';exact call_range_2 (sN I1 q1 q2 q3 q4 q)
def Av(wi:TI)(g:TG)(tb:TS):TS:=fun D σ H=>wi σ H fun J H1=>∃W:Nat->Nat->St->Hp->Prop,(∃m,W 0 m σ H1)/\∀i m σ H,W i m σ H ->
 (J.stop i H/\D.nx σ H)\/(J.go i H/\∃N:St->Hp->Prop,(∀σ' H',N σ' H'->∃m',m'<m/\W (i+1) m' σ' H')/\∀x H',J.iZ i H x H'->g x σ H' fun σ2 H2=>tb { D with nx:=N,ct:=N,bk:=D.nx } σ2 H2)
def lu(fp:List Addr)(h:Heap):List (Addr×Obj):=fp.filterMap fun b=>(h.get? b).map fun o=>(b,o)
theorem iu{fp:List Addr}{h:Heap}{b:Addr}{o:Obj}(hb:b∈fp)(e:h.get? b=some o):(b,o)∈lu fp h:=wv.mpr ⟨b,hb,by rw[e];rfl⟩
theorem Dt{fp:List Addr}{h:Heap}{p:Addr×Obj}(hp:p∈lu fp h):p.1∈fp/\h.get? p.1=some p.2:=by
 obtain⟨b,hb,e⟩:=wv.mp hp;cases q:h.get? b with
 |none=>rw[q]at e;cases e
 |some o =>
  rw[q]at e;have e':(b,o)=p:=Option.some.inj e;subst e';exact⟨hb,q⟩
theorem Inv.pinned{pins:List (Addr×Obj)}{σ:St}{H:Hp}{s:Shared}{fp:List Addr}(I:Inv X pins σ H s)(hf:∀b∈fp,eD X pins H b)(ho:∀b∈fp,∃o,s.heap.get? b=some o/\∀v,o.data≠.cell v):Inv X (pins++lu fp s.heap) σ H s :=
 I.pM fun p hp=>(zT.mp hp).elim (fun z=>I.pin p (zC _ z)) fun z=>by
  obtain⟨hb,e⟩:=Dt z;obtain⟨f0,f1,f2,_⟩:=hf p.1 hb;obtain⟨o,e',d⟩:=ho p.1 hb;rw[e]at e';cases e';exact⟨e,f0,f1,f2,d⟩
theorem Inv.gB{pins pl:List (Addr×Obj)}{σ:St}{H:Hp}{s:Shared}(I:Inv X (pins++pl) σ H s):Inv X pins σ H s:=I.pM fun p hp=>I.pin p (zC _ (zW _ hp))
theorem sX{iter:Expr}{body:List Stmt}{wi:TI}{g:TG}{tb:TS}{pos:Pos}(hp:PassesOwn (model X.prog X.w) X.A X.env X.xe)(hc:X.calm=true)(hi:PI X tg iter wi)(hg:PG X tg g)(hb:dB X body tb)
  (hs:∀x,foldedSetIterable iter X.env x=pure x:=by intro _;rfl):PS X (.For tg iter body [] pos) (Av wi g tb):=by
 intro pins s σ H D I h;refine wpAny_For (aF (hi pins s σ H _ I h) fun v s1 h1=>aF h1 fun HW s2 h2=>?_) hs;obtain⟨it,fp,tn,J,H2,e,I2,T,st2,f2,W,⟨m0,w0⟩,turn⟩:=h2;subst e;have stat:∀{H':Hp},(∀b∈fp,H' b=none)->∀b∈fp,eD X pins H' b:=fun hn b hb=>⟨hn b hb,(f2 b hb).2⟩;refine codeAny_forLoop_any (fun n s'=>∃i σ' H',Inv X pins σ' H' s'/\tn i s'.heap/\(∀b∈fp,H' b=none)/\W i n σ' H') ?_ m0 ⟨0,σ,H2,I2,st2,fun b hb=>(f2 b hb).1,w0⟩;rintro n s3 ⟨i,σ3,H3,I3,Pk,Qk,w3⟩;rcases turn i n σ3 H3 w3 with ⟨stop,qn⟩|⟨go,N,hN,step⟩
 ·refine wpAny_passesOwn hp (aF (T.done X rfl rfl rfl hc i pins s3 σ3 H3 X.xe I3 (stat Qk) Pk stop) fun r s4 ⟨hr,I4⟩=>?_)
  subst hr;exact wpAny_execs_nil ⟨σ3,H3,I4,qn⟩
 ·refine wpAny_passesOwn hp (aF (T.item X rfl rfl rfl hc i pins s3 σ3 H3 X.xe I3 (stat Qk) Pk go) fun r s4 ⟨u,hr,h4⟩=>?_)
  subst hr;refine wpAny_passesOwn hp (aF h4 fun _ s5 ⟨x,H5,I5,r5,y5,Ll,VE⟩=>?_);have I5':=I5.pinned (stat VE) (T.obj _ _ Ll);refine wpAny_passesOwn hp (aF (hg _ s5 σ3 H5 x u _ I5' r5 (step x H5 y5)) fun _ s6 ⟨σ6,H6,I6,q6⟩=>?_);refine wpAny_passesOwn hp (aF (hb _ s6 σ6 H6 _ I6 q6) fun f s7 q7=>?_);have again:∀{σ7:St} {H7:Hp},Inv X (pins++lu fp s5.heap) σ7 H7 s7->N σ7 H7->∃m,m<n/\∃i σ' H',Inv X pins σ' H' s7/\tn i s7.heap/\(∀b∈fp,H' b=none)/\W i m σ' H':=fun {σ7 H7} I7 n7=>by
   obtain⟨m',hm,w7⟩:=hN σ7 H7 n7;refine⟨m',hm,i+1,σ7,H7,I7.gB,T.keep _ _ _ Ll fun b hb o e=>(I7.pin (b,o) (zC _ (zC _ (iu hb e)))).1,fun b hb=>?_,w7⟩;obtain⟨o,e,d⟩:=T.obj _ _ Ll b hb;exact(I7.pin (b,o) (zC _ (zC _ (iu hb e)))).2.1
  cases f with
  |next=>obtain⟨σ7,H7,I7,n7⟩:=q7;exact again I7 n7
  |cont=>obtain⟨σ7,H7,I7,n7⟩:=q7;exact again I7 n7
  |brk=>obtain⟨σ7,H7,I7,q7⟩:=q7;exact⟨σ7,H7,I7.gB,q7⟩
  |ret v=>obtain⟨x7,σ7,H7,I7,r7,q7⟩:=q7;exact⟨x7,σ7,H7,I7.gB,r7,q7⟩
end
end L2
namespace L2
open PySem PySem.Spec PyProof.Rows
abbrev R2:=V->V->Hp->VK->Prop
def cL(X:Cx)(f:Value->Value->Sem Value)(r:R2):Prop :=
 ∀(pins:List (Addr×Obj)) (s:Shared) (σ:St) (H:Hp) (x y:V) (v u:Value) (Q:VK),Inv X pins σ H s->RelV x v->RelV y u->r x y H Q ->
  wpAny (model X.prog X.w) X.A (f v u) (EP X pins σ Q) X.xe s
def NS(X:Cx)(f:Value->Sem Value)(r:V->Hp->VK->Prop):Prop :=
 ∀(pins:List (Addr×Obj)) (s:Shared) (σ:St) (H:Hp) (x:V) (v:Value) (Q:VK),Inv X pins σ H s->RelV x v->r x H Q ->
  wpAny (model X.prog X.w) X.A (f v) (EP X pins σ Q) X.xe s
def cD(X:Cx)(f:Value)(r:List V->Hp->VK->Prop):Prop :=
 ∀(pins:List (Addr×Obj)) (s:Shared) (σ:St) (H:Hp) (xs:List V) (us:List Value) (Q:VK),Inv X pins σ H s->Vals xs us->r xs H Q ->
  wpAny (model X.prog X.w) X.A (call f us) (EP X pins σ Q) X.xe s
def NT(X:Cx)(r:V->Hp->(Bool->Hp->Prop)->Prop):Prop :=
 ∀(pins:List (Addr×Obj)) (s:Shared) (σ:St) (H:Hp) (x:V) (v:Value) (Q:Bool->Hp->Prop),Inv X pins σ H s->RelV x v->r x H Q ->
  wpAny (model X.prog X.w) X.A (truthy v) (TP X pins σ Q) X.xe s
def lj(r:R2)(ta tb:TE):TE:=fun σ H Q=>ta σ H fun x H1=>tb σ H1 fun y H2=>r x y H2 Q
def Pe(r:V->Hp->VK->Prop)(ta:TE):TE:=fun σ H Q=>ta σ H fun x H1=>r x H1 Q
def rI(C:Int->Int->Prop)(g:Int->Int->V):R2:=fun x y H Q=>∃i j,x=.int i/\y=.int j/\C i j/\Q (g i j) H
def qw(g:Int->Int->V):R2:=fun x y H Q=>∃i j,x=.int i/\y=.int j/\Q (g i j) H
def rU(g:Int->V):V->Hp->VK->Prop:=fun x H Q=>∃i,x=.int i/\Q (g i) H
section
variable {X:Cx}{a b c:Expr}{ta tb tc:TE}{pos:Pos}
theorem G1(ha:PE X a ta)(hb:PE X b tb){pins:List (Addr×Obj)}{s:Shared}{σ:St}{H:Hp}{R:V->V->Hp->Prop}(I:Inv X pins σ H s)
  (h:ta σ H fun x H1=>tb σ H1 fun y H2=>R x y H2) {Q:Value->Shared->Prop} {f:Value->Value->Sem Value}
  (hf:∀v u s2 x y H2,Inv X pins σ H2 s2->RelV x v->RelV y u->R x y H2->wpAny (model X.prog X.w) X.A (f v u) Q X.xe s2) :
  wpAny (model X.prog X.w) X.A (eval a X.env) (fun v s₁=>wpAny (model X.prog X.w) X.A (eval b X.env) (fun u s₂=>wpAny (model X.prog X.w) X.A (f v u) Q X.xe s₂) X.xe s₁) X.xe s:=by
 refine aF (ha pins s σ H _ I h) fun v s1 ⟨x,H1,I1,r1,q1⟩=>?_;refine aF (hb pins s1 σ H1 _ I1 q1) fun u s2 ⟨y,H2,I2,r2,q2⟩=>?_;exact hf v u s2 x y H2 I2 r1 r2 q2
theorem OG{op:Operator}{r:R2}(ho:cL X (binaryOp op) r)(ha:PE X a ta)(hb:PE X b tb):PE X (.BinOp a op b pos) (lj r ta tb):=by
 intro pins s σ H Q I h;exact wpAny_BinOp (G1 ha hb I h fun v u s2 x y H2 I2 rx ry q=>ho pins s2 σ H2 x y v u Q I2 rx ry q)
theorem OF{op:UnaryOp}{r:V->Hp->VK->Prop}(ho:NS X (unaryOp op) r)(ha:PE X a ta):PE X (.UnaryOp op a pos) (Pe r ta):=by
 intro pins s σ H Q I h;exact UnaryOp_ (aF (ha pins s σ H _ I h) fun v s1 ⟨x,H1,I1,r1,q1⟩=>ho pins s1 σ H1 x v Q I1 r1 q1)
theorem HL{f:Value->Value->Sem Value}{C:Int->Int->Prop}{g:Int->Int->Int}
  (rule:∀(i j:Int) (t u:Tok) (s:Shared) (Q:Value->Shared->Prop) (E:Value->Shared->Prop),C i j->Q (.int (g i j) s.toks) { s with toks:=s.toks+1 }->wpAny (model X.prog X.w) X.A (f (.int i t) (.int j u)) Q E s) :
  cL X f (rI C fun i j=>.int (g i j)):=by
 intro pins s σ H x y v u Q I rx ry h;obtain⟨i,j,rfl,rfl,hc,q⟩:=h;obtain⟨t,rfl⟩:=rx;obtain⟨t',rfl⟩:=ry;exact rule i j t t' s _ _ hc ⟨.int (g i j),H,I.tok _,⟨_,rfl⟩,q⟩
theorem Mn{f:Value->Value->Sem Value}{g:Int->Int->Int}
  (rule:∀(i j:Int) (t u:Tok) (s:Shared) (Q:Value->Shared->Prop) (E:Value->Shared->Prop),Q (.int (g i j) s.toks) { s with toks:=s.toks+1 }->wpAny (model X.prog X.w) X.A (f (.int i t) (.int j u)) Q E s) :
  cL X f (qw fun i j=>.int (g i j)):=by
 intro pins s σ H x y v u Q I rx ry h;obtain⟨i,j,rfl,rfl,q⟩:=h;obtain⟨t,rfl⟩:=rx;obtain⟨t',rfl⟩:=ry;exact rule i j t t' s _ _ ⟨.int (g i j),H,I.tok _,⟨_,rfl⟩,q⟩
theorem Bn{f:Value->Value->Sem Value}{g:Int->Int->Bool}
  (rule:∀(i j:Int) (t u:Tok) (s:Shared) (Q:Value->Shared->Prop) (E:Value->Shared->Prop),Q (.bool (g i j)) s->wpAny (model X.prog X.w) X.A (f (.int i t) (.int j u)) Q E s) :
  cL X f (qw fun i j=>.bl (g i j)):=by
 intro pins s σ H x y v u Q I rx ry h;obtain⟨i,j,rfl,rfl,q⟩:=h;obtain⟨t,rfl⟩:=rx;obtain⟨t',rfl⟩:=ry;exact rule i j t t' s _ _ ⟨.bl (g i j),H,I,rfl,q⟩
def RT(i j:Int):Prop:=0<j/\j<1073741824
def RS(i j:Int):Prop:=0<=j/\j<=1000000/\i.natAbs<2 ^ 64
def He(i j:Int):Prop:=(-(2 ^ 64)<i/\i<2 ^ 64)\/(-(2 ^ 64)<j/\j<2 ^ 64)
theorem He.ok{i j:Int}(h:He i j):IntMulOk i j:=by
 rcases h with ⟨h1,h2⟩|⟨h1,h2⟩
 ·exact .of_left (intBits_le_64 h1 h2)
 ·exact .of_right (intBits_le_64 h1 h2)
theorem Mm:cL X (binaryOp .Add) (qw fun i j=>.int (i+j)):=Mn fun _ _ _ _ _ _ _ q=>add_int q
theorem Me:cL X (binaryOp .Sub) (qw fun i j=>.int (i-j)):=Mn fun _ _ _ _ _ _ _ q=>sub_int q
theorem Mg:cL X (binaryOp .Mult) (rI He fun i j=>.int (i*j)):=HL fun _ _ _ _ _ _ _ hc q=>mul_int q hc.ok
theorem J6:cL X (binaryOp .FloorDiv) (rI RT fun i j=>.int (i / j)):=HL fun i j _ _ _ _ _ hc q=>by
 have h1:(0:Int)<j:=hc.1;have h2:j<1073741824:=hc.2;exact floordiv_int (by first|lia|omega) (by rw[Int.fdiv_eq_ediv_of_nonneg i (by first|lia|omega)];exact q) (.inl (PyProof.noPylong_small (by first|lia|omega)))
theorem Mh:cL X (binaryOp .Mod) (rI (fun _ j=>0<j) fun i j=>.int (i % j)):=HL fun i j _ _ _ _ _ hc q=>by
 have h1:(0:Int)<j:=hc;exact mod_int' (by first|lia|omega) (by rw[Int.fmod_eq_emod_of_nonneg i (by first|lia|omega)];exact q)
theorem Mf:cL X (binaryOp .Pow) (rI RS fun i j=>.int (i ^ j.toNat)):=HL fun _ _ _ _ _ _ _ hc q=>pow_int_small hc.1 hc.2.1 hc.2.2 q
theorem TF{f:Value->Sem Value}{g:Int->Int}
  (rule:∀(i:Int) (t:Tok) (s:Shared) (Q:Value->Shared->Prop) (E:Value->Shared->Prop),Q (.int (g i) s.toks) { s with toks:=s.toks+1 }->wpAny (model X.prog X.w) X.A (f (.int i t)) Q E s) :
  NS X f (rU fun i=>.int (g i)):=by
 intro pins s σ H x v Q I rx h;obtain⟨i,rfl,q⟩:=h;obtain⟨t,rfl⟩:=rx;exact rule i t s _ _ ⟨.int (g i),H,I.tok _,⟨_,rfl⟩,q⟩
theorem K0:NS X (unaryOp .USub) (rU fun i=>.int (-i)):=TF fun _ _ _ _ _ q=>neg_int q
end
section
variable {X:Cx}{a b c:Expr}{ta tb tc:TE}{pos:Pos}
theorem jW{pins:List (Addr×Obj)}{σ:St}{H:Hp}{s:Shared}{Q:VK}{k k':Bool}(I:Inv X pins σ H s)(q:Q (.bl k) H)(e:k=k'):EP X pins σ Q (.bool k') s:=by
 subst e;exact⟨.bl k,H,I,rfl,q⟩
theorem OI:cL X (compareOp .Lt) (qw fun i j=>.bl (decide (i<j))):=Bn fun _ _ _ _ _ _ _ q=>lt_int q
theorem OJ:cL X (compareOp .LtE) (qw fun i j=>.bl (decide (i<=j))):=Bn fun _ _ _ _ _ _ _ q=>le_int q
theorem OL:cL X (compareOp .Gt) (qw fun i j=>.bl (decide (j<i))):=Bn fun _ _ _ _ _ _ _ q=>gt_int q
theorem OM:cL X (compareOp .GtE) (qw fun i j=>.bl (decide (j<=i))):=Bn fun _ _ _ _ _ _ _ q=>ge_int q
theorem Dr:cL X (compareOp .Lt) (fun x y H Q=>∃i j,x=.str i/\y=.str j/\Q (.bl (decide (i.cps.toList<j.cps.toList))) H):=by
 intro pins s σ H x y v u Q I rx ry h;obtain⟨i,j,rfl,rfl,q⟩:=h;obtain⟨t,rfl⟩:=rx;obtain⟨t',rfl⟩:=ry;exact lt_str (jW I q rfl)
theorem Ds:cL X (compareOp .In) (fun x y H Q=>∃i j,x=.str i/\y=.str j/\Q (.bl (!(Builtin.Str.occurrences j i 0 j.length 1).isEmpty)) H):=by
 intro pins s σ H x y v u Q I rx ry h;obtain⟨i,j,rfl,rfl,q⟩:=h;obtain⟨t,rfl⟩:=rx;obtain⟨t',rfl⟩:=ry;exact in_str (jW I q rfl)
theorem Mi:cL X (compareOp .Is) (fun x y H Q=>y=.non/\Q (.bl (decide (x=.non))) H):=by
 intro pins s σ H x y v u Q I rx ry h;obtain⟨rfl,q⟩:=h;cases ry;refine is_none_gen (jW I q ?_);cases x <;> first
  | (cases rx;rfl)
  | (obtain⟨t,rfl⟩:=rx;rfl)
theorem J5:cL X (compareOp .IsNot) (fun x y H Q=>y=.non/\Q (.bl (!decide (x=.non))) H):=by
 intro pins s σ H x y v u Q I rx ry h;obtain⟨rfl,q⟩:=h;cases ry;refine isnot_none_gen (jW I q ?_);cases x <;> first
  | (cases rx;rfl)
  | (obtain⟨t,rfl⟩:=rx;rfl)
theorem tm:cL X (compareOp .NotIn) (fun x y H Q=>∃i j,x=.str i/\y=.str j/\Q (.bl (!(!(Builtin.Str.occurrences j i 0 j.length 1).isEmpty))) H):=by
 intro pins s σ H x y v u Q I rx ry h;obtain⟨i,j,rfl,rfl,q⟩:=h;obtain⟨t,rfl⟩:=rx;obtain⟨t',rfl⟩:=ry;exact notIn_str (jW I q rfl)
theorem vC{op:CmpOp}{r:R2}(ho:cL X (compareOp op) r)(ha:PE X a ta)(hb:PE X b tb)(hm:behindInMarks op b=false):PE X (.Compare a [op] [b] pos) (lj r ta tb):=by
 intro pins s σ H Q I h;exact wpAny_Compare1 (G1 ha hb I h fun v u s2 x y H2 I2 rx ry q=>ho pins s2 σ H2 x y v u Q I2 rx ry q) hm
def Au(t:TE):TT:=fun σ H Q=>t σ H fun x H'=>∃k,x=.bl k/\Q k H'
theorem JU{op:CmpOp}{r:R2}(ho:cL X (compareOp op) r)(ha:PE X a ta)(hb:PE X b tb)(hm:behindInMarks op b=false):PT X (.Compare a [op] [b] pos) (Au (lj r ta tb)):=by
 intro pins s σ H Q I h;refine wpAny_isTrue_Compare1 (aF (ha pins s σ H _ I h) fun v s1 ⟨x,H1,I1,r1,q1⟩=>aF (hb pins s1 σ H1 _ I1 q1) fun u s2 ⟨y,H2,I2,r2,q2⟩ =>
  aF (ho pins s2 σ H2 x y v u _ I2 r1 r2 q2) fun c s3 ⟨z,H3,I3,r3,k,e,q3⟩=>?_) hm
 subst e;cases r3;exact wpAny_truthy_bool ⟨H3,I3,q3⟩
def si(r r':R2)(ta tb tc:TE):TE:=fun σ H Q=>ta σ H fun x H1=>tb σ H1 fun y H2=>r x y H2 fun z H3=>∃k,z=.bl k /\
 (if k=true then tc σ H3 fun w' H4=>r' y w' H4 Q else Q (.bl false) H3)
theorem FY{op op':CmpOp}{r r':R2}(ho:cL X (compareOp op) r)(ho':cL X (compareOp op') r')(ha:PE X a ta)(hb:PE X b tb)(hc:PE X c tc)
  (hm:lastMarks [op,op'] [b,c]=false:=by with_unfolding_all rfl):PE X (.Compare a [op,op'] [b,c] pos) (si r r' ta tb tc):=by
 intro pins s σ H Q I h;refine Compare_chain (aF (ha pins s σ H _ I h) fun v s1 ⟨x,H1,I1,r1,q1⟩=>chain_link (aF (hb pins s1 σ H1 _ I1 q1) fun u s2 ⟨y,H2,I2,r2,q2⟩ =>
  aF (ho pins s2 σ H2 x y v u _ I2 r1 r2 q2) fun d s3 ⟨z,H3,I3,r3,k,e,q3⟩=>?_)) hm
 subst e;cases r3;refine wpAny_truthy_bool ?_;cases k with
 |false=>exact ite_ff ⟨.bl false,H3,I3,rfl,q3⟩
 |true=>exact ite_tt (chain_last (aF (hc pins s3 σ H3 _ I3 q3) fun w' s4 ⟨z',H4,I4,r4,q4⟩=>ho' pins s4 σ H4 y z' u w' Q I4 r2 r4 q4))
theorem FI{op op':CmpOp}{r r':R2}(ho:cL X (compareOp op) r)(ho':cL X (compareOp op') r')(ha:PE X a ta)(hb:PE X b tb)(hc:PE X c tc)
  (hm:lastMarks [op,op'] [b,c]=false:=by with_unfolding_all rfl):PT X (.Compare a [op,op'] [b,c] pos) (Au (si r r' ta tb tc)):=by
 intro pins s σ H Q I h;refine isTrue_chain (aF (ha pins s σ H _ I h) fun v s1 ⟨x,H1,I1,r1,q1⟩=>test_link (aF (hb pins s1 σ H1 _ I1 q1) fun u s2 ⟨y,H2,I2,r2,q2⟩ =>
  aF (ho pins s2 σ H2 x y v u _ I2 r1 r2 q2) fun d s3 ⟨z,H3,I3,r3,k,e,q3⟩=>?_)) hm
 subst e;cases r3;refine wpAny_truthy_bool ?_;cases k with
 |false =>
  obtain⟨k',e',q'⟩:=q3;cases e';exact ite_ff ⟨H3,I3,q'⟩
 |true =>
  refine ite_tt (test_last (aF (hc pins s3 σ H3 _ I3 q3) fun w' s4 ⟨z',H4,I4,r4,q4⟩=>aF (ho' pins s4 σ H4 y z' u w' _ I4 r2 r4 q4) fun d' s5 ⟨z2,H5,I5,r5,k2,e2,q5⟩=>?_));subst e2;cases r5;exact wpAny_truthy_bool ⟨H5,I5,q5⟩
def RE(K:Q_)(x:V)(H:Hp)(k:Bool):Prop :=
 match x with
 |.non=>k=false
 |.bl b=>k=b
 |.int i=>k=(i != 0)
 |.str y=>y.length<=zp/\k=((y.length:Int) != 0)
 |.byt y=>y.size<=zp/\k=((y.size:Int) != 0)
 |.ref p=>(∃xs,aJ K H p xs/\k=!xs.isEmpty)\/(∃xs,cz K H p xs/\k=!xs.isEmpty)\/∃kvs,H p=some (.dK kvs)/\k=!kvs.isEmpty
 |_=>False
theorem BE{κ:Type}{kvs:List (κ×V)}{vs:List (κ×Value)}(r:KV kvs vs):(!vs.isEmpty)=!kvs.isEmpty:=by
 cases r <;> rfl
theorem ox{xs:List V}{its:List Value}(r:Vals xs its):(!its.toArray.isEmpty)=!xs.isEmpty:=by
 cases r <;> simp
theorem iO:(zp:Nat)<2 ^ 63:=by rw[sizeLine_eq];decide
theorem K7:NT X (fun x H Q=>∃k,RE X.K x H k/\Q k H):=by
 intro pins s σ H x v Q I rx h;obtain⟨k,e,q⟩:=h;have hl:=iO;have hs:zp=16777216:=sizeLine_eq;cases x with
 |non =>
  cases rx;have e':k=false:=e;subst e';exact truthy_none ⟨H,I,q⟩
 |bl b =>
  cases rx;have e':k=b:=e;subst e';exact wpAny_truthy_bool ⟨H,I,q⟩
 |int i =>
  obtain⟨t,rfl⟩:=rx;have e':k=(i != 0):=e;subst e';exact PySem.P.truthy_int ⟨H,I,q⟩
 |str y =>
  obtain⟨t,rfl⟩:=rx;obtain⟨hy,e'⟩:y.length<=zp/\k=((y.length:Int) != 0):=e;subst e';exact PySem.P.truthy_str (by first|lia|omega) ⟨H,I.tok _,q⟩
 |byt y =>
  obtain⟨t,rfl⟩:=rx;obtain⟨hy,e'⟩:y.size<=zp/\k=((y.size:Int) != 0):=e;subst e';exact PySem.W.truthy_bytes (by first|lia|omega) ⟨H,I.tok _,q⟩
 |ref p =>
  cases rx;have e':(∃xs,aJ X.K H p xs/\k=!xs.isEmpty)\/(∃xs,cz X.K H p xs/\k=!xs.isEmpty)\/∃kvs,H p=some (.dK kvs)/\k=!kvs.isEmpty:=e;rcases e' with ⟨xs,hx,e'⟩|⟨xs,hx,e'⟩|⟨kvs,hx,e'⟩
  ·subst e'
   obtain⟨its,r,pl,hz⟩:=I.list hx;have hlen:=r.length;exact wpAny_truthy_list pl.isList (by simp only[zl];omega) ⟨H,I.tok _,by rw[ox r];exact q⟩
  ·subst e'
   obtain⟨its,r,pl,hz⟩:=I.tuple hx;have hlen:=r.length;exact truthy_tuple pl (by simp only[zl];omega) ⟨H,I.tok _,by rw[ox r];exact q⟩
  ·subst e'
   obtain⟨hz,hS,vs,r,m⟩:kvs.length<=zp/\(p==sysModules)=false/\∃vs,KV kvs vs/\s.heap.DictOf (bO X.prog X.w) p vs:=I.av p _ hx;have hlen:kvs.length=vs.length:=Paired.length r;exact wpAny_truthy_dict hS m (by first|lia|omega) ⟨H,I.tok _,by rw[BE r];exact q⟩
 |_=>exact(show False from e).elim
theorem Bm:cL X (binaryOp .Add) (fun x y H Q=>∃i j,x=.str i/\y=.str j/\i.length+j.length<=zp/\Q (.str (i++j)) H):=by
 intro pins s σ H x y v u Q I rx ry h;obtain⟨i,j,rfl,rfl,hz,q⟩:=h;obtain⟨t,rfl⟩:=rx;obtain⟨t',rfl⟩:=ry;exact add_str (fun t' tk=>⟨.str (i++j),H,I.tok _,⟨_,rfl⟩,q⟩) hz
inductive VZ (x:V) (us:List Value):Prop
 |mk (u:Value) (e:us=[u]) (r:RelV x u)
theorem vals1{x:V}{us:List Value}(r:Vals [x] us):VZ x us:=by
 cases r with
 |cons r1 r2=>cases r2;exact⟨_,rfl,r1⟩
inductive VY (x y:V) (us:List Value):Prop
 |mk (u w':Value) (e:us=[u,w']) (r:RelV x u) (r2:RelV y w')
theorem vals2{x y:V}{us:List Value}(r:Vals [x,y] us):VY x y us:=by
 cases r with
 |cons r1 r2 =>
  cases r2 with
  |cons r3 r4=>cases r4;exact⟨_,_,rfl,r1,r3⟩
theorem EL(hc:X.calm=true):cD X (.builtin "max") (fun xs H Q=>∃i j,xs=[.int i,.int j]/\Q (.int (if j > i then j else i)) H):=by
 intro pins s σ H xs us Q I r h;obtain⟨i,j,rfl,q⟩:=h;obtain⟨u,w',rfl,⟨t,rfl⟩,⟨t',rfl⟩⟩:=vals2 r;refine max_two_ints (I.ok.hd hc) fun h' tk k=>⟨_,H,I.kept k,?_,q⟩;by_cases hj:j > i
 ·rw[if_pos hj,if_pos hj];exact⟨_,rfl⟩
 ·rw[if_neg hj,if_neg hj];exact⟨_,rfl⟩
end
end L2
namespace L2
open PySem PySem.Spec PyProof.Rows
structure nH (h:Heap) (x dx C:Addr) (mA:Str->Option Value):Prop where
 obj:h.get? x=some (Z4 C dx)
 ns:h.Ns1 dx mA
 ne:dx≠x
theorem DI{h:Heap}{dx:Addr}{mA:Str->Option Value}(n:h.Ns1 dx mA):∃od,h.get? dx=some od/\∀name,Z8 name od=some (mA name):=by
 obtain⟨o,es,ep,ho,hd,hk,_,hm⟩:=n;refine⟨o,ho,fun name=>?_⟩;have e:=hm name;unfold nsFind findBy at e;rw[<- wu]at e;unfold Z8;rw[hd];dsimp only;split
 ·rename_i y q
  rw[q]at e;exact congrArg some e
 ·rename_i q
  rw[q]at e;have a:es.toList.any (·.refKey)=false:=by
   rw[yZ];intro y hy;obtain⟨z,t,Rq⟩:=hk y (Array.mem_toList_iff.mp hy);simp[DictEntry.refKey,Rq]
  have a':¬ es.toList.any (·.refKey)=true:=by rw[a];exact zt
  rw[if_neg a'];exact congrArg some e
theorem nH.look{h:Heap}{x dx C:Addr}{mA:Str->Option Value}(I:nH h x dx C mA):∃od,PySem.W.InstAt h x (Z4 C dx) C (some od)/\∀name,Z8 name od=some (mA name) :=
 let ⟨od,ho,hl⟩:=DI I.ns
 ⟨od,⟨I.obj,rfl,rfl,ho⟩,hl⟩
section
variable {prog:Program}{w:World}{A:Around}{E:Value->Shared->Prop}{s:Shared}{K:Q_}{x dx C f:Addr}{mA:Str->Option Value}{name:Str}{v:Value}
theorem get_map{expr:Bool}{Q:Value->Shared->Prop}(X:K.In s.heap)(I:nH s.heap x dx C mA)(hg:Z5 K C name=true)(hh:Z9 K C=true)
  (ha:Z2 K (.ref C) name=some none) (hv:mA name=some v) (hv':Y4 v=true) (h:Q v { s with toks:=s.toks+1 }) :
  wpAny (model prog w) A (getAttr (.ref x) name expr) Q E s:=by
 obtain⟨od,J,hl⟩:=I.look;exact PySem.W.get_value X J (J_ hg).1 (PySem.W.findObj_own hh ha rfl (by rw[hl,hv])) hv' h
theorem GD{pl:Sem Bool}{Q:Value×List Value->Shared->Prop}(X:K.In s.heap)(I:nH s.heap x dx C mA)(hg:Z5 K C name=true)
  (hf:Z2 K (.ref C) name=some (some (.ref f))) (ht:Z_ K (.ref f)=true) (hv:mA name=none) (h:Q (.ref f,[.ref x]) s) :
  wpAny (model prog w) A (getMethod (.ref x) name pl) Q E s:=by
 obtain⟨od,J,hl⟩:=I.look;exact PySem.W.method_fn X J (J_ hg).1 (J_ hg).2 hf (beq_iff_eq.mp ht) (by show (Z8 name od).map (·.isSome)=some false;rw[hl,hv];rfl) h
theorem JN{ns:List Str}{Q:Unit->Shared->Prop}(X:K.In s.heap)(I:nH s.heap x dx C mA)
  (hs:Z2 K (.ref C) "__setattr__" = some (some (.builtin "object.__setattr__"))) (hp:Y0 K C=true) (ht:Y1 K C name=some none) (hh:Z9 K C=true)
  (hw:PySem.Within mA ns) (hsz:ns.length<=zp)
  (h:∀h',nH h' x dx C (fun y=>if y=name then some v else mA y)->Heap.SameBut dx s.heap h'->Q () { s with heap:=h',toks:=s.toks+2 }) :
  wpAny (model prog w) A (setAttr (.ref x) name v) Q E s:=by
 obtain⟨od,J,hl⟩:=I.look;refine PySem.W.set_plain X J hs (PySem.W.osa_open (s:={ s with toks:=s.toks+1 }) (r:=none) X J hp ht fun b=>?_);obtain⟨cd,hc,hd'⟩:=PySem.W.any_some hh;have hx:s.heap.get? x=some ⟨.ref C,some dx,.plain,#[]⟩:=I.obj;refine zz (zq (zz (zz (wpAny_loadPart hx (zz (PySem.W.Looks.here (s:={ s with toks:=s.toks+1 }) (PySem.W.looks_clsIn X hc) ?_))))));rw[hd'];refine zq (a:=some dx) (zz (zq (zz ?_)));refine wpAny_nsSet1 (s:={ s with toks:=s.toks+1 }) I.ns fun h' PU gu=>?_;obtain⟨oD,XU,XW,U5,Vm,Vo⟩:=PU.count (PySem.Within.cons name v hw);refine zz (wpAny_lookBehind U5 (by rw[Vm];exact pastItsLine_dict (zO Vo (by rw[zi];omega))) ?_);exact zq (h _ ⟨(gu.2 _ (Ne.symm I.ne)).trans I.obj,PU,I.ne⟩ gu)
theorem F9{R:Result->Shared->Prop}{vs:List Value}{kw:List (Str×Value)}(X:K.In s.heap)(hm:X9 K C=true)
  (hi:Z2 K (.ref C) "__init__" = some (some (.ref f))) (hf:X_ K (.ref f)=some (.type "function"))
  (h:codeAny (model prog w) (A.under (.builtin "type.__call__" ⟨.ref C::vs,kw⟩)) (.call (.ref f) ⟨.ref (s.heap.objs.size+1)::vs,kw⟩) (PySem.W.InitBack (s.heap.objs.size+1) R)
   { s with heap:=(s.heap.push Z3).push (Z4 C s.heap.objs.size) }) :
  codeAny (model prog w) A (.call (.ref C) ⟨vs,kw⟩) R s:=by
 obtain⟨hh,g,d,t,os⟩:=s;exact PySem.W.make_core (PySem.W.makes_of X hm) (PySem.W.looks_findIn X hi) (fun self=>PySem.W.bind_fn X self hf) (.inl rfl) h
end
def dG(f:Str)(v:V):List (Str×V)->List (Str×V)
 |[]=>[(f,v)]
 | (g,x)::r=>if g=f then (g,v)::r else (g,x)::dG f v r
theorem mG(f g:Str)(v:V):∀fs:List (Str×V),(dG f v fs).lookup g=if g=f then some v else fs.lookup g
 |[]=>by
  show List.lookup g [(f,v)]=_;by_cases h:g=f
  ·have hb:(g==f)=true:=beq_iff_eq.mpr h
   simp only[List.lookup,hb,if_pos h]
  ·have hb:(g==f)=false:=beq_eq_false_iff_ne.mpr h
   simp only[List.lookup,hb,if_neg h]
 | (k,x)::r=>by
  have ih:=mG f g v r;rw[show dG f v ((k,x)::r)=(if k=f then (k,v)::r else (k,x)::dG f v r) from rfl];by_cases hk:k=f
  ·rw[if_pos hk]
   by_cases h:g=k
   ·have hb:(g==k)=true:=beq_iff_eq.mpr h
    simp only[List.lookup,hb,if_pos (h.trans hk)]
   ·have hb:(g==k)=false:=beq_eq_false_iff_ne.mpr h
    simp only[List.lookup,hb,if_neg (fun e:g=f=>h (e.trans hk.symm))]
  ·rw[if_neg hk]
   by_cases h:g=k
   ·have hb:(g==k)=true:=beq_iff_eq.mpr h
    simp only[List.lookup,hb,if_neg (fun e:g=f=>hk (h.symm.trans e))]
   ·have hb:(g==k)=false:=beq_eq_false_iff_ne.mpr h
    simp only[List.lookup,hb];exact ih
theorem lF(f:Str)(v:V):∀fs:List (Str×V),f∈(dG f v fs).map (·.1)/\∀g,g∈fs.map (·.1)->g∈(dG f v fs).map (·.1)
 |[]=>⟨by simp[dG],fun g h=>by simp at h⟩
 | (k,x)::r=>by
  obtain⟨i1,i2⟩:=lF f v r;rw[show dG f v ((k,x)::r)=(if k=f then (k,v)::r else (k,x)::dG f v r) from rfl];by_cases hk:k=f
  ·rw[if_pos hk]
   subst hk;exact⟨by simp,fun g h=>by simpa using h⟩
  ·rw[if_neg hk]
   refine⟨?_,fun g h=>?_⟩
   ·rw[zH]
    exact zV _ i1
   ·rw[zH]at h ⊢
    rcases zg.mp h with e|e
    ·exact zg.mpr (.inl e)
    ·exact zV _ (i2 g e)
theorem mH(f:Str)(v:V):∀fs:List (Str×V),(dG f v fs).length<=fs.length+1
 |[]=>by simp[dG]
 | (k,x)::r=>by
  have ih:=mH f v r;rw[show dG f v ((k,x)::r)=(if k=f then (k,v)::r else (k,x)::dG f v r) from rfl];by_cases hk:k=f
  ·rw[if_pos hk,zi,zi];omega
  ·rw[if_neg hk,zi,zi];omega
theorem eM.some_of{v:V}{o:Option Value}(r:eM (some v) o):∃u,o=some u/\RelV v u:=by
 cases o with
 |none=>exact(show False from r).elim
 |some u=>exact⟨u,rfl,r⟩
theorem eM.none_of{o:Option Value}(r:eM none o):o=none:=by
 cases o with
 |none=>rfl
 |some u=>exact(show False from r).elim
theorem Eg{v:V}{u:Value}(r:RelV v u):Y4 u=true:=by
 cases v with
 |non=>cases (show u=Value.none from r);rfl
 |bl b=>cases (show u=Value.bool b from r);rfl
 |int i=>obtain⟨t,e⟩:=(show ∃t,u=Value.int i t from r);cases e;rfl
 |str x=>obtain⟨t,e⟩:=(show ∃t,u=Value.str x t from r);cases e;rfl
 |byt b=>obtain⟨t,e⟩:=(show ∃t,u=Value.bytes b t from r);cases e;rfl
 |flt b=>obtain⟨t,e⟩:=(show ∃t,u=Value.float b t from r);cases e;rfl
 |ref a=>cases (show u=Value.ref a from r);rfl
 |ty n=>cases (show u=Value.type n from r);rfl
section
variable {P:Program}{w:World}{H H':Hp}{h h':Heap}{a C dx:Addr}{fs fs':List (Str×V)}
theorem pX(av:bX P w H h)(e:H a=some (.ins C dx fs)):∃mA,nH h a dx C mA/\(∀f,eM (fs.lookup f) (mA f))/\PySem.Within mA (fs.map (·.1))/\fs.length<=1000/\H dx=some (.own a):=by
 obtain⟨d,z,ne,ob,mA,n,r,q⟩:=(show bJ P w H h a (.ins C dx fs) from av a _ e);exact⟨mA,⟨ob,n,ne⟩,r,q,z,d⟩
end
structure ib (K:Q_) (C:Addr):Prop where
 pg:Z5 K C Str.empty=true
 hd:Z9 K C=true
 po:Y0 K C=true
 sa:Z2 K (.ref C) "__setattr__" = some (some (.builtin "object.__setattr__"))
theorem ib.get{K:Q_}{C:Addr}(c:ib K C)(f:Str):Z5 K C f=true:=c.pg
def eB(K:Q_)(C:Addr)(f:Str):Prop:=Z2 K (.ref C) f=some none
theorem eB.Ol{K:Q_}{C:Addr}{f:Str}(n:eB K C f):Y1 K C f=some none:=by
 unfold Y1;rw[show Z2 K (.ref C) f=some none from n];rfl
structure Meth (K:Q_) (C:Addr) (m:Str) (f:Addr):Prop where
 at_:Z2 K (.ref C) m=some (some (.ref f))
 fn:Z_ K (.ref f)=true
 kp:Z1 K (.ref f)=true
section
variable {X:Cx}{pins:List (Addr×Obj)}{σ:St}{H:Hp}{s:Shared}{a C dx:Addr}{fs:List (Str×V)}{f:Str}{v:V}{A:Around}{E:Value->Shared->Prop}
theorem BN{b:Bool}{Q:Value->Shared->Prop}(I:Inv X pins σ H s)(e:H a=some (.ins C dx fs))(c:ib X.K C)(n:eB X.K C f)(l:fs.lookup f=some v)
  (h:∀u s',Inv X pins σ H s'->RelV v u->Q u s'):wpAny (model X.prog X.w) A (getAttr (.ref a) f b) Q E s:=by
 obtain⟨mA,O,r,_,_,_⟩:=pX I.av e;obtain⟨u,hu,ru⟩:=eM.some_of (v:=v) (o:=mA f) (by rw[<- l];exact r f);exact get_map I.dR O (c.get f) c.hd n hu (Eg ru) (h u _ (I.tok _) ru)
theorem kD{m:Str}{g:Addr}{pl:Sem Bool}{Q:Value×List Value->Shared->Prop}(I:Inv X pins σ H s)(e:H a=some (.ins C dx fs))(c:ib X.K C)(k:Meth X.K C m g)(l:fs.lookup m=none)
  (h:Q (.ref g,[.ref a]) s):wpAny (model X.prog X.w) A (getMethod (.ref a) m pl) Q E s:=by
 obtain⟨mA,O,r,_,_,_⟩:=pX I.av e;have hn:mA m=none:=eM.none_of (by rw[<- l];exact r m);exact GD I.dR O (c.get m) k.at_ k.fn hn h
theorem AA{y:V}{u:Value}{Q:Unit->Shared->Prop}(I:Inv X pins σ H s)(e:H a=some (.ins C dx fs))(c:ib X.K C)(n:eB X.K C f)(hl:fs.length<1000)(ry:RelV y u)
  (h:∀s',Inv X pins σ (upd H a (.ins C dx (dG f y fs))) s'->Q () s'):wpAny (model X.prog X.w) A (setAttr (.ref a) f u) Q E s:=by
 obtain⟨mA,O,r,wi,_,ho⟩:=pX I.av e;have hz:(fs.map (·.1)).length<=zp:=by rw[zu,sizeLine_eq];omega
 refine JN I.dR O c.sa c.po n.Ol c.hd wi hz fun h' O' sb=>h _ ?_;have hd:∃o,h'.get? dx=some o:=let ⟨o,_,_,e',_⟩:=O'.ns;⟨o,e'⟩;refine I.write (x:=a) (e:=dx) (by rw[e];exact True.intro) (.inr ho) (fun b q hb z=>(sb.2 b hb).trans z) hd ?_;refine⟨by rw[aB O.ne];exact ho,?_,O.ne,O'.obj,_,O'.ns,fun g=>?_,fun g hg=>?_⟩
 ·have:=mH f y fs;omega
 ·show eM ((dG f y fs).lookup g) (if g=f then some u else mA g)
  rw[mG];by_cases q:g=f
  ·rw[if_pos q,if_pos q];exact ry
  ·rw[if_neg q,if_neg q];exact r g
 ·by_cases q:g=f
  ·rw[q];exact(lF f y fs).1
  ·refine(lF f y fs).2 g (wi g fun z=>hg ?_)
   show (if g=f then some u else mA g)=none;rw[if_neg q];exact z
theorem Inv.made(I:Inv X pins σ H s):Inv X pins σ (upd (upd H s.heap.objs.size (.own (s.heap.objs.size+1))) (s.heap.objs.size+1) (.ins C s.heap.objs.size []))
  { s with heap:=(s.heap.push Z3).push (Z4 C s.heap.objs.size) }:=by
 have e1:(s.heap.push Z3).get? s.heap.objs.size=some Z3:=zk s.heap rfl;have e2:((s.heap.push Z3).push (Z4 C s.heap.objs.size)).get? (s.heap.objs.size+1)=some (Z4 C s.heap.objs.size):=by
  have:=zk (s.heap.push Z3) (o:=Z4 C s.heap.objs.size) rfl
  rwa [zX]at this
 have e3:(s.heap.push Z3).Ns s.heap.objs.size (fun _=>none):=⟨Z3,#[],_,e1,rfl,(fun e he=>absurd he (by simp)),fun _=>rfl⟩;have I1:=I.laid (a:=s.heap.objs.size) (o:=.own (s.heap.objs.size+1)) (h':=s.heap.push Z3) (t':=s.toks) (fun b u q=>zy _ q) (zr _) ⟨_,e1⟩;refine I1.laid (a:=s.heap.objs.size+1) (o:=.ins C s.heap.objs.size []) (t':=s.toks) (fun b u q=>zy _ q) (yH (zX _ _)) ?_;have ne:s.heap.objs.size≠s.heap.objs.size+1:=zA (xu _);refine⟨by rw[aB ne,aT],yq _,ne,e2,fun _=>none,(Heap.Ns1.of_empty e3).at fun o q=>zy _ q,fun _=>True.intro,fun y hy=>absurd rfl hy⟩
theorem KN{prog:Program}{w:World}{env:Env}{e:Expr}{f:Str}{pos:Pos}{s:Shared}{Q:Value->Shared->Prop}(hb:attributeBase e f env (eval e env)=eval e env)
  (h:wpAny (model prog w) A (eval e env) (fun o s₁=>wpAny (model prog w) A (getAttr o f true) Q E s₁) E s):wpAny (model prog w) A (eval (.Attribute e f pos) env) Q E s :=
 Attribute_any_ h (by rw[arm_eval_Attribute,hb])
end
def Le(K:Q_)(ta:TE)(f:Str):TE:=fun σ H Q=>ta σ H fun x H1=>∃a C dx fs v,x=.ref a/\H1 a=some (.ins C dx fs)/\ib K C/\eB K C f/\fs.lookup f=some v/\Q v H1
def LF(K:Q_)(ta tv:TE)(f:Str):TS:=fun D σ H=>tv σ H fun y H1=>ta σ H1 fun x H2=>∃a C dx fs,x=.ref a/\H2 a=some (.ins C dx fs)/\ib K C/\eB K C f/\fs.length<1000 /\
 D.nx σ (upd H2 a (.ins C dx (dG f y fs)))
section
variable {X:Cx}{o e value:Expr}{f:Str}{pos pos' QM:Pos}{ta tv:TE}
theorem L8(he:PE X e ta)(hb:attributeBase e f X.env (eval e X.env)=eval e X.env):PE X (.Attribute e f pos) (Le X.K ta f):=by
 intro pins s σ H Q I h;refine KN hb (aF (he pins s σ H _ I h) fun u s1 ⟨x,H1,I1,rx,a,C,dx,fs,v,ex,ea,c,n,l,q⟩=>?_);subst ex;obtain rfl:u=Value.ref a:=rx;exact BN I1 ea c n l fun u' s2 I2 ru=>⟨v,H1,I2,ru,q⟩
theorem LW(ha:PE X o ta)(hv:PE X value tv)(hs:swapsWith value (some (.Attribute o f pos')) pos.line X.env=pure false):PS X (.Assign [.Attribute o f pos'] value pos) (LF X.K ta tv f):=by
 intro pins s σ H D I h;refine plainObj_wpAny_Assign_Attribute (aF (hv pins s σ H _ I h) fun u s1 ⟨y,H1,I1,ry,q⟩=>aF (ha pins s1 σ H1 _ I1 q) fun ov s2 ⟨x,H2,I2,rx,a,C,dx,fs,ex,ea,c,n,l,q2⟩=>?_) hs;subst ex;obtain rfl:ov=Value.ref a:=rx;exact AA I2 ea c n l ry fun s3 I3=>⟨σ,_,I3,q2⟩
end
section
variable {X:Cx}{pins:List (Addr×Obj)}{σ:St}{H:Hp}{s:Shared}{A:Around}{E:Value->Shared->Prop}{Q:Value->Shared->Prop}{c:Value}{b:Bool}
end
end L2
namespace L2
open PySem PySem.Spec PyProof.Rows
structure bG (k:Nat) (A:Around):Prop where
 hd:A.handled=none
 dp:A.depth+3*k+5<recursionLimit
 un:A.units+16*k+200<cLine
 gd:A.guards=some []
theorem bG.mono{j k:Nat}{A:Around}(r:bG k A)(h:j<=k):bG j A:=⟨r.hd,by have:=r.dp;omega,by have:=r.un;omega,r.gd⟩
theorem bG.deeper{k:Nat}{A:Around}(r:bG (k+1) A)(env:Env):bG k (A.deeper env) :=
 ⟨r.hd,by have:=r.dp;show A.depth+1+3*k+5<_;omega,by have:=r.un;show A.units+3+16*k+200<_;omega,r.gd⟩
theorem By{A:Around}{C:Addr}{us:List Value}{kw:List (Str×Value)}:(A.under (.builtin "type.__call__" ⟨.ref C::us,kw⟩)).depth=A.depth+1:=by
 first|rfl|simp[Around.under,Code.weight,Code.isCreation,Code.isGuard,Code.isCaller,Code.frames,Code.isFrame,guardIds]
theorem Bx{A:Around}{C:Addr}{us:List Value}{kw:List (Str×Value)}:(A.under (.builtin "type.__call__" ⟨.ref C::us,kw⟩)).units=A.units+1:=by
 first|rfl|simp[Around.under,Code.cUnits,Code.frames,Code.isFrame]
theorem bG.make{k:Nat}{A:Around}(r:bG (k+1) A)(C:Addr)(us:List Value)(kw:List (Str×Value)):bG k (A.under (.builtin "type.__call__" ⟨.ref C::us,kw⟩)) :=
 ⟨r.hd,by have:=r.dp;rw[By];omega,by have:=r.un;rw[Bx];omega,r.gd⟩
theorem bG.depth{k:Nat}{A:Around}(r:bG k A):A.depth<recursionLimit:=by have:=r.dp;omega
def gC:TA:=fun _ H Q=>Q [] H
def cM(ta:TE)(tr:TA):TA:=fun σ H Q=>ta σ H fun x H1=>tr σ H1 fun xs H2=>Q (x::xs) H2
section
variable {X:Cx}{e:Expr}{es:List Expr}{te:TE}{t:TA}{pos:Pos}
theorem bq:PA X [] gC:=fun _ _ _ _ H Q I h=>Calls.spliced_nil ⟨[],H,I,.nil,h⟩
theorem ay(ha:PE X e te)(hr:PA X es t)(hs:starEach (e::es) X.env=(false,eval e X.env)::starEach es X.env:=by rfl):PA X (e::es) (cM te t):=by
 intro pos pins s σ H Q I h;rw[hs];show wpAny _ _ (spliced ((false,eval e X.env)::backTo pos (starEach es X.env))) _ _ s;refine Calls.spliced_cons (aF (ha pins s σ H _ I h) fun u s1 ⟨x,H1,I1,r1,q1⟩=>?_);exact aF (hr pos pins s1 σ H1 _ I1 q1) fun us s2 ⟨xs,H2,I2,r2,q2⟩=>⟨x::xs,H2,I2,.cons r1 r2,q2⟩
def Fj(t:TA):TE:=fun σ H Q=>t σ H fun xs H1=>xs.length<=zp/\∀p,H1 p=none->Q (.ref p) (upd H1 p (.tup xs))
def Ld(t:TA):TE:=fun σ H Q=>t σ H fun xs H1=>xs.length<=zp/\∀p,H1 p=none->Q (.ref p) (upd H1 p (.lst xs))
theorem sZ{x1}(h:PA X es t):PE X (.Tuple es x1 pos) (Fj t):=by
 intro pins s σ H Q I hq;refine wpAny_Tuple_spliced (aF (h pos pins s σ H _ I hq) fun us s1 ⟨xs,H1,I1,r,z,q⟩=>⟨by rw[<- r.length];exact z,?_⟩);have hf:H1 s1.heap.objs.size=none:=I1.av.fresh (zr _);refine⟨.ref s1.heap.objs.size,upd H1 s1.heap.objs.size (.tup xs),I1.laid (t':=s1.toks) (fun b u e=>zy _ e) (zr _) ?_,rfl,q _ hf⟩;exact⟨z,us,r,nG.new _ _⟩
theorem ly(h:PA X es t):PE X (.List es pos) (Ld t):=by
 intro pins s σ H Q I hq;refine wpAny_List_spliced (aF (h pos pins s σ H _ I hq) fun us s1 ⟨xs,H1,I1,r,z,q⟩=>⟨by rw[<- r.length];exact z,?_⟩);have hf:H1 s1.heap.objs.size=none:=I1.av.fresh (zr _);refine⟨.ref s1.heap.objs.size,upd H1 s1.heap.objs.size (.lst xs),I1.laid (t':=s1.toks) (fun b u e=>zy _ e) (zr _) ?_,rfl,q _ hf⟩;exact⟨z,us,0,r,zk _ rfl⟩
end
abbrev Sp:=List V->Hp->VK->XK->Prop
abbrev kS:=List Env->Hp->Shared->XK->Value->Shared->Prop
structure lR (P:Program) (w:World) (K:Q_) (mg:Str->Option Value) (base:Heap) (A:Around) (outer:List Env) (s:Shared) (H:Hp):Prop where
 frames:A.frames=some outer
 mod:Mod K mg base
 bs:∀b o,base.get? b=some o->s.heap.get? b=some o/\H b=none
 kR:base.objs.size<=s.heap.objs.size
 eL:s.heap.FunFrames base outer
 mJ:∀b∈dS outer,H b=none
 av:bX P w H s.heap
 bare:AllBare s.gens
def CE(outer:List Env)(P:Program)(w:World)(H:Hp)(s:Shared)(Q:VK)(u:Value)(s':Shared):Prop :=
 ∃v H',s'.os=s.os/\AllBare s'.gens/\Un (dS outer) [] H H' s.heap s'.heap/\bX P w H' s'.heap/\RelV v u/\Q v H'
def CR(CX:kS)(outer:List Env)(P:Program)(w:World)(H:Hp)(s:Shared)(Q:VK)(E:XK)(r:Result)(s':Shared):Prop :=
 match r with
 |.ok (.ret u)=>CE outer P w H s Q u s'
 |.ok _=>False
 |.error e=>CX outer H s E e s'
structure cq (P:Program) (w:World) (K:Q_) (mg:Str->Option Value) (base:Heap) (CX:kS) (k:Nat) (f:Addr) (fd:FuncData) (ps:List Str) (sp:Sp):Prop where
 len:∀vs H Q E,sp vs H Q E->vs.length=ps.length
 run:∀(A:Around) (outer:List Env) (s:Shared) (H:Hp) (args:Args) (us:List Value) (vs:List V) (Q:VK) (E:XK),bG k A->lR P w K mg base A outer s H->BindsTo s fd args (ps.zip us)->Vals vs us->sp vs H Q E ->
  codeAny (model P w) A (.call (.ref f) args) (CR CX outer P w H s Q E) s
theorem lR.make{P:Program}{w:World}{K:Q_}{mg:Str->Option Value}{base:Heap}{A:Around}{outer:List Env}{s:Shared}{H:Hp}(e:lR P w K mg base A outer s H)(C:Addr)(us:List Value)(kw:List (Str×Value)) :
  lR P w K mg base (A.under (.builtin "type.__call__" ⟨.ref C::us,kw⟩)) outer s H:=⟨by first|exact e.frames|(simpa [Around.under,Code.envs,Code.isFrame,pushEnvs] using e.frames),e.mod,e.bs,e.kR,e.eL,e.mJ,e.av,e.bare⟩
section
variable {X:Cx}{pins:List (Addr×Obj)}{σ:St}{H:Hp}{s s':Shared}
theorem Inv.BQ(I:Inv X pins σ H s):lR X.prog X.w X.K X.mg X.base X.A X.stack s H :=
 ⟨I.ok.frames,I.ok.mod,I.bs,zO I.ok.kR I.sz,I.stack,I.pE,I.av,I.bare⟩
theorem Inv.after{Q:VK}{u:Value}(I:Inv X pins σ H s)(h:CE X.stack X.prog X.w H s Q u s'):EP X pins σ Q u s':=by
 obtain⟨v,H',os,bare,un,av,r,q⟩:=h;obtain⟨hh,g,d,t,os'⟩:=s';obtain rfl:os'=s.os:=os;exact⟨v,H',I.call (h':=hh) (g':=g) (d':=d) (t':=t) (ch:=[]) un av bare (fun b z=>absurd z (by simp)),r,q⟩
end
def Hv(sp:Sp)(eQ:List V)(E:XK)(t:TA):TE:=fun σ H Q=>t σ H fun vs H1=>sp (vs++eQ) H1 Q E
def rq(C:Addr)(m:Str)(sp:Sp)(eQ:List V)(E:XK)(ta:TE)(t:TA):TE:=fun σ H Q=>ta σ H fun x H1=>∃a dx fs,x=.ref a/\H1 a=some (.ins C dx fs)/\fs.lookup m=none /\
 t σ H1 fun vs H2=>sp (x::(vs++eQ)) H2 Q E
def Hs(C:Addr)(sp:Sp)(eQ:List V)(E:XK)(t:TA):TE:=fun σ H Q=>t σ H fun vs H1=>∀x dx,H1 x=none->H1 dx=none->dx≠x ->
 sp (.ref x::(vs++eQ)) (upd (upd H1 dx (.own x)) x (.ins C dx [])) (fun v H2=>v=.non/\Q (.ref x) H2) E
def Binds(K:Q_)(fd:FuncData)(ps:List Str)(ds:List Value):Prop :=
 ∀(s:Shared) (us:List Value),K.In s.heap->(us++ds).length=ps.length->BindsTo s fd ⟨us,[]⟩ (ps.zip (us++ds))
theorem Binds.all{K:Q_}{fd:FuncData}{ps:List Str}(h:∀us:List Value,us.length=ps.length->bindArgs fd ⟨us,[]⟩=pure (ps.zip us)):Binds K fd ps []:=fun s us _ hl=>by
 rw[zJ]at hl ⊢;exact .of_eq (h us hl)
def Passes(CX:kS)(X:Cx)(E:XK):Prop:=∀(pins:List (Addr×Obj)) (σ:St) (H:Hp) (s:Shared) (e:Value) (s':Shared),Inv X pins σ H s->CX X.stack H s E e s'->X.xe e s'
section
variable {X:Cx}{CX:kS}{k:Nat}{f C:Addr}{fd:FuncData}{ps:List Str}{sp:Sp}{eQ:List V}{ds:List Value}{E:XK}{x m:Str}{p pos apos:Pos}{e o:Expr}{es:List Expr}{ta:TE}{t:TA}
theorem sD{pins:List (Addr×Obj)}{σ:St}{H:Hp}{s:Shared}{Q:VK}{us:List Value}{vs:List V}(F:cq X.prog X.w X.K X.mg X.base CX k f fd ps sp)(hr:bG k X.A)(hb:Binds X.K fd ps ds)(hd:Vals eQ ds)(hx:Passes CX X E)
  (I:Inv X pins σ H s) (r:Vals vs us) (h:sp (vs++eQ) H Q E):wpAny (model X.prog X.w) X.A (call (.ref f) us) (EP X pins σ Q) X.xe s:=by
 have r2:Vals (vs++eQ) (us++ds):=r.append hd;have hl:(us++ds).length=ps.length:=by rw[<- r2.length];exact F.len _ _ _ _ h
 refine wpAny_call (codeAny_mono (F.run X.A X.stack s H ⟨us,[]⟩ (us++ds) (vs++eQ) Q E hr I.BQ (hb s us I.dR hl) r2 h) fun r s' hq=>?_);cases r with
 |error e=>exact hx pins σ H s e s' I hq
 |ok fl =>
  cases fl with
  |ret u=>exact I.after hq
  |next=>exact False.elim hq
  |brk=>exact False.elim hq
  |cont=>exact False.elim hq
theorem vD(F:cq X.prog X.w X.K X.mg X.base CX k f fd ps sp)(hr:bG k X.A)(hg:Gl X x)(hm:X.mg x=some (.ref f))(hk:Z1 X.K (.ref f)=true)(hb:Binds X.K fd ps ds)(hd:Vals eQ ds)(hx:Passes CX X E)
  (ha:PA X (e::es) t) (oE:(x==("__debug__":Str))=false:=by decide) (he:starEach (e::es) X.env=(false,eval e X.env)::starEach es X.env:=by rfl) (fN:(backTo pos (starEach es X.env)).any (·.1)=false:=by rfl) :
  PE X (.Call (.Name x p) (e::es) [] pos) (Hv sp eQ E t):=by
 intro pins s σ H Q I h;refine wpAny_Call_Name_kw (iD I hg hm ?_ oE);refine Z6 (h₀:=X.base) I.ok.mod.qz hk (aF (ha pos pins s σ H _ I h) fun us s1 ⟨vs,H1,I1,r,q⟩=>⟨I1.dR,?_⟩) he fN;exact sD F hr hb hd hx I1 r q
theorem vA{pl:Sem Bool}(he:PE X o ta)(c:ib X.K C)(hm:Meth X.K C m f)(F:cq X.prog X.w X.K X.mg X.base CX k f fd ps sp)(hr:bG k X.A)(hb:Binds X.K fd ps ds)(hd:Vals eQ ds)(hx:Passes CX X E)(ha:PA X (e::es) t)
  (cw:starEach (e::es) X.env=(false,eval e X.env)::starEach es X.env:=by rfl) (fN:(backTo pos (starEach es X.env)).any (·.1)=false:=by rfl)
  (ht:eval (.Call (.Attribute o m apos) (e::es) [] pos) X.env=(do
   let ov<-eval o X.env
   standAt apos.atName
   let (f,first)<-holding [ov] (getMethod ov m pl)
   callWith pos f first (backTo pos (starEach (e::es) X.env)) (backToKw pos (keywordEach [] X.env))):=by rfl) :
  PE X (.Call (.Attribute o m apos) (e::es) [] pos) (rq C m sp eQ E ta t):=by
 intro pins s σ H Q I h;refine Y2 (pl:=pl) (aF (he pins s σ H _ I h) fun u s1 ⟨x,H1,I1,rx,a,dx,fs,ex,ea,l,q⟩=>?_) ht;subst ex;obtain rfl:u=Value.ref a:=rx;refine kD I1 ea c hm l ?_;refine Z6 (first:=[.ref a]) (h₀:=X.base) I.ok.mod.qz hm.kp (aF (ha pos pins s1 σ H1 _ I1 q) fun us s2 ⟨vs,H2,I2,r,q2⟩=>⟨I2.dR,?_⟩) cw fN
 exact sD (us:=.ref a::us) (vs:=.ref a::vs) F hr hb hd hx I2 (.cons rfl r) q2
theorem FQ{pl:Sem Bool}(he:PE X o ta)(c:ib X.K C)(hm:Meth X.K C m f)(F:cq X.prog X.w X.K X.mg X.base CX k f fd ps sp)(hr:bG k X.A)(hb:Binds X.K fd ps ds)(hd:Vals eQ ds)(hx:Passes CX X E)
  (ht:eval (.Call (.Attribute o m apos) [] [] pos) X.env=(do
   let ov<-eval o X.env
   standAt apos.atName
   let (f,first)<-holding [ov] (getMethod ov m pl)
   callWith pos f first (backTo pos (starEach [] X.env)) (backToKw pos (keywordEach [] X.env))):=by rfl) :
  PE X (.Call (.Attribute o m apos) [] [] pos) (rq C m sp eQ E ta gC):=by
 intro pins s σ H Q I h;refine Y2 (pl:=pl) (aF (he pins s σ H _ I h) fun u s1 ⟨x,H1,I1,rx,a,dx,fs,ex,ea,l,q⟩=>?_) ht;subst ex;obtain rfl:u=Value.ref a:=rx;refine kD I1 ea c hm l ?_;exact PySem.W.callWith_K0 (first:=[.ref a]) I1.dR hm.kp (sD (us:=[.ref a]) (vs:=[.ref a]) F hr hb hd hx I1 (.cons rfl .nil) q)
structure Mk (K:Q_) (C f:Addr):Prop where
 makes:X9 K C=true
 init:Z2 K (.ref C) "__init__" = some (some (.ref f))
 fn:Z_ K (.ref f)=true
 kp:Z1 K (.ref C)=true
theorem Fz{pins:List (Addr×Obj)}{σ:St}{H:Hp}{s:Shared}{Q:VK}{us:List Value}{vs:List V}(M:Mk X.K C f)(F:cq X.prog X.w X.K X.mg X.base CX k f fd ps sp)(hr:bG (k+1) X.A)(hb:Binds X.K fd ps ds)(hd:Vals eQ ds)
  (hx:Passes CX X E) (I:Inv X pins σ H s) (r:Vals vs us)
  (h:∀x dx,H x=none->H dx=none->dx≠x->sp (.ref x::(vs++eQ)) (upd (upd H dx (.own x)) x (.ins C dx [])) (fun v H2=>v=.non/\Q (.ref x) H2) E) :
  wpAny (model X.prog X.w) X.A (call (.ref C) us) (EP X pins σ Q) X.xe s:=by
 have hq:=h (s.heap.objs.size+1) s.heap.objs.size (I.av.fresh (yh _)) (I.av.fresh (zr _)) (zA (xu _));have I2:=Inv.made (C:=C) I;have r2:Vals (V.ref (s.heap.objs.size+1)::(vs++eQ)) (Value.ref (s.heap.objs.size+1)::(us++ds)):=.cons rfl (r.append hd);have hl:(Value.ref (s.heap.objs.size+1)::us++ds).length=ps.length:=by
  have e:=r2.length;rw[F.len _ _ _ _ hq]at e;exact e.symm
 refine wpAny_call (F9 (f:=f) I.dR M.makes M.init (beq_iff_eq.mp M.fn) (codeAny_mono (F.run _ X.stack _ _ ⟨Value.ref (s.heap.objs.size+1)::us,[]⟩ (Value.ref (s.heap.objs.size+1)::(us++ds)) _ _ E (hr.make C us [])
  (I2.BQ.make C us []) (hb _ (Value.ref (s.heap.objs.size+1)::us) I2.dR hl) r2 hq) fun r s' hq'=>?_))
 cases r with
 |error e=>exact hx pins σ _ _ e s' I2 hq'
 |ok fl =>
  cases fl with
  |ret u =>
   obtain⟨v,H',I3,rv,ev,q3⟩:=I2.after hq';subst ev;exact⟨rv,⟨V.ref (s.heap.objs.size+1),H',I3,rfl,q3⟩⟩
  |next=>exact False.elim hq'
  |brk=>exact False.elim hq'
  |cont=>exact False.elim hq'
theorem J3(M:Mk X.K C f)(F:cq X.prog X.w X.K X.mg X.base CX k f fd ps sp)(hr:bG (k+1) X.A)(hg:Gl X x)(hm:X.mg x=some (.ref C))(hb:Binds X.K fd ps ds)(hd:Vals eQ ds)(hx:Passes CX X E)
  (ha:PA X (e::es) t) (oE:(x==("__debug__":Str))=false:=by decide) (he:starEach (e::es) X.env=(false,eval e X.env)::starEach es X.env:=by rfl) (fN:(backTo pos (starEach es X.env)).any (·.1)=false:=by rfl) :
  PE X (.Call (.Name x p) (e::es) [] pos) (Hs C sp eQ E t):=by
 intro pins s σ H Q I h;refine wpAny_Call_Name_kw (iD I hg hm ?_ oE);refine Z6 (h₀:=X.base) I.ok.mod.qz M.kp (aF (ha pos pins s σ H _ I h) fun us s1 ⟨vs,H1,I1,r,q⟩=>⟨I1.dR,?_⟩) he fN;exact Fz M F hr hb hd hx I1 r q
end
def PK(X:Cx)(DM:List Keyword)(t:TA):Prop :=
 ∀(pos:Pos) (pins:List (Addr×Obj)) (s:Shared) (σ:St) (H:Hp) (Q:List V->Hp->Prop),Inv X pins σ H s->t σ H Q->wpAny (model X.prog X.w) X.A (evalAll ((backToKw pos (keywordEach DM X.env)).map (·.2))) (AP X pins σ Q) X.xe s
section
variable {X:Cx}{CX:kS}{k:Nat}{f C:Addr}{fd:FuncData}{ps ks:List Str}{sp:Sp}{E:XK}{x m:Str}{p pos apos kpos:Pos}{e o:Expr}{es:List Expr}{DM:List Keyword}{te ta:TE}{t tk:TA}{nm:Option Str}
theorem LY:PK X [] gC:=fun _ _ _ _ H Q I h=>wpAny_evalAll_nil ⟨[],H,I,.nil,h⟩
theorem J1(ha:PE X e te)(hr:PK X DM t):PK X (⟨nm,e,kpos⟩::DM) (cM te t):=by
 intro pos pins s σ H Q I h;show wpAny _ _ (evalAll ((do let v<-eval e X.env;standAt pos;pure v)::(backToKw pos (keywordEach DM X.env)).map (·.2))) _ _ s;refine wpAny_evalAll_cons (zz (aF (ha pins s σ H _ I h) fun u s1 ⟨x,H1,I1,r1,q1⟩=>zz (wpAny_standAt (zq ?_))));exact aF (hr pos pins s1 σ H1 _ I1 q1) fun us s2 ⟨xs,H2,I2,r2,q2⟩=>⟨x::xs,H2,I2,.cons r1 r2,q2⟩
variable {g:List Value->List Value->List Value}{gV:List V->List V->List V}
end
structure bZ (N P:List Str) (sc:Scope):Prop where
 kind:sc.kind=.function
 co:sc.isCoroutine=false
 gen:sc.isGenerator=false
 nd:N.Nodup
 pre:N.take P.length=P
 par:∀x∈P,sc.names.lookup x=some .local\/sc.names.lookup x=some .cell
 Mu:∀y∈sc.names,y.2≠.free
theorem qO{kindOf:Str->Option NameKind}{x:Str}:∀{binds:List (Str×Value)} {m:Str->Option Value},(∀v,(x,v) ∉ binds)->bindL kindOf binds m x=m x
 |[],_,_=>rfl
 | (n,v)::r,m,h=>by
  unfold bindL;rw[qO fun w hw=>h w (zV _ hw)];split
  ·have:x≠n:=by rintro rfl;exact h v zR
   simp[this]
  ·rfl
theorem qQ{kindOf:Str->Option NameKind}{x:Str}:∀{binds:List (Str×Value)} {m:Str->Option Value},(∀v,(x,v) ∉ binds)->bindC kindOf binds m x=m x
 |[],_,_=>rfl
 | (n,v)::r,m,h=>by
  unfold bindC;rw[qQ fun w hw=>h w (zV _ hw)];split
  ·rfl
  ·have:x≠n:=by rintro rfl;exact h v zR
   simp[this]
theorem qP{kindOf:Str->Option NameKind}{x:Str}{v:Value}:∀{P:List Str} {vs:List Value} {i:Nat} {m:Str->Option Value},P.Nodup->P[i]?=some x->vs[i]?=some v->kindOf x=some .local ->
  bindL kindOf (P.zip vs) m x=some v
 |[],_,_,_,_,h,_,_=>by simp at h
 |_::_,[],_,_,_,_,h,_=>by simp at h
 |p::P,w::vs,0,m,nd,h1,h2,hk=>by
  simp at h1 h2;subst h1;subst h2;show bindL kindOf ((p,w)::P.zip vs) m p=_;unfold bindL;rw[qO fun v hv=>(yA.mp nd).1 (xm hv).1,if_pos hk];simp
 |p::P,w::vs,i+1,m,nd,h1,h2,hk=>by
  show bindL kindOf ((p,w)::P.zip vs) m x=_;unfold bindL;exact qP (i:=i) (yA.mp nd).2 (by simpa using h1) (by simpa using h2) hk
theorem qR{kindOf:Str->Option NameKind}{x:Str}{v:Value}:∀{P:List Str} {vs:List Value} {i:Nat} {m:Str->Option Value},P.Nodup->P[i]?=some x->vs[i]?=some v->kindOf x≠some .local ->
  bindC kindOf (P.zip vs) m x=some v
 |[],_,_,_,_,h,_,_=>by simp at h
 |_::_,[],_,_,_,_,h,_=>by simp at h
 |p::P,w::vs,0,m,nd,h1,h2,hk=>by
  simp at h1 h2;subst h1;subst h2;show bindC kindOf ((p,w)::P.zip vs) m p=_;unfold bindC;rw[qQ fun v hv=>(yA.mp nd).1 (xm hv).1,if_neg hk];simp
 |p::P,w::vs,i+1,m,nd,h1,h2,hk=>by
  show bindC kindOf ((p,w)::P.zip vs) m x=_;unfold bindC;exact qR (i:=i) (yA.mp nd).2 (by simpa using h1) (by simpa using h2) hk
def start(N:List Str)(vs:List V):St:=vs.map some++zN (N.length-vs.length) none
def et(CX:kS)(P:Program)(w:World)(K:Q_)(mg:Str->Option Value)(base:Heap)(N:List Str)(qual:Str)(scope:Scope)(f:Addr)(cd:Value)(A:Around)(outer:List Env)(s:Shared)(H:Hp)(E:XK):Cx where
 prog:=P
 w:=w
 K:=K
 mg:=mg
 base:=base
 A:=A.deeper (envOfC qual scope s.heap.objs.size f cd)
 N:=N
 s₀:=s
 H₀:=H
 env:=envOfC qual scope s.heap.objs.size f cd
 outer:=outer
 stack:=envOfC qual scope s.heap.objs.size f cd::outer
 ex:=[]
 calm:=true
 fn:=fun _=>true
 pn:=[]
 xe:=fun e s'=>wpAny (model P w) (A.deeper (envOfC qual scope s.heap.objs.size f cd)) (leaving (envOfC qual scope s.heap.objs.size f cd) e) (fun _ s''=>CX outer H s E e s'') (fun e' s''=>CX outer H s E e' s'') s'
theorem uq{sc:Scope}{n:Nat}{x:Str}(h:sc.names.lookup x=some .cell):∃c,(cellsFrom n sc.names []).lookup x=some c:=by
 have q:=Y3 sc.names n [] (.inl h);exact xH.mp q
theorem qB{CX:kS}{P:Program}{w:World}{K:Q_}{mg:Str->Option Value}{base:Heap}{N ps:List Str}{qual:Str}{scope:Scope}{f:Addr}{cd:Value}{A:Around}{outer:List Env}{s s1:Shared}{H:Hp}{E:XK}{us:List Value}{vs:List V}
  (S:bZ N ps scope) (hd:A.handled=none) (e0:lR P w K mg base A outer s H) (hl:vs.length=ps.length) (r:Vals vs us)
  (x:InCallC s s.heap.objs.size (bindL (envOfC qual scope s.heap.objs.size f cd).kindOf (ps.zip us) fun _=>none) (cellsFrom (s.heap.objs.size+1) scope.names []) (bindC (envOfC qual scope s.heap.objs.size f cd).kindOf (ps.zip us) fun _=>none) s1) :
  Inv (et CX P w K mg base N qual scope f cd A outer s H E) [] (start N vs) H s1:=by
 have fN:ps.length<=N.length:=by have:=congrArg List.length S.pre;rw[zY]at this;omega
 obtain⟨h1,tk,rfl,hk⟩:=x.done;have noA:∀b:Addr,b ∉ (et CX P w K mg base N qual scope f cd A outer s H E).ex:=fun b z=>absurd (show b∈([]:List Addr) from z) (by simp);refine⟨⟨e0.mod,S.kind,rfl,rfl,zr _,fun y z c h1 h2=>?_,fun y hy=>?_,fun y c _ h=>?_,fun _=>hd,Around.frames_deeper e0.frames,.inr ⟨rfl,rfl⟩,fun b z=>absurd z (noA b),e0.bs,e0.kR,fun b _ _=>noA b,fun b z=>absurd z (noA b),e0.eL,e0.mJ⟩,
  rfl,e0.bare,Un.kept hk,⟨_,x.toInCall.ns,fun i y v h1 h2 h3=>?_⟩,fun y c h=>⟨_,x.cell y c h⟩,e0.av.fresh (zr _),fun y c h=>?_,fun p hp=>absurd (show p∈([]:List (Addr×Obj)) from hp) (by simp),e0.av.kept hk,?_⟩
 ·exact name_of_addr x.apart (PySem.mem_of_lookup h1) (PySem.mem_of_lookup h2)
 ·have hy:scope.names.lookup y=some .cell\/scope.names.lookup y=some .free:=hy
  rcases hy with hy|hy
  ·exact uq hy
  ·exact absurd rfl (S.Mu _ (PySem.mem_of_lookup hy))
 ·exact wg (x.above y c (PySem.mem_of_lookup h))
 ·have hi:i<vs.length:=by
   unfold start at h2;by_cases hi:i<vs.length
   ·exact hi
   ·rw[zd (by simpa using hi)]at h2
    rw[yX]at h2;split at h2 <;> cases h2
  have ha:vs[i]?=some v:=by
   unfold start at h2;rw[zD (by simpa using hi),ze]at h2;cases e:vs[i]? with
   |none=>rw[e]at h2;cases h2
   |some a=>rw[e]at h2;cases h2;rfl
  obtain⟨u,hu,rv⟩:=r.get ha;have hp:ps[i]?=some y:=by
   rw[<- S.pre,xI (by first|lia|omega)];exact h1
  have Pr:ps.Nodup:=by rw[<- S.pre];exact S.nd.sublist (we _ _)
  refine⟨u,rv,?_⟩;rcases S.par y (zF hp) with k|k
  ·exact .inl ⟨k,qP Pr hp hu k⟩
  ·obtain⟨c,e⟩:=uq (n:=s.heap.objs.size+1) k
   refine .inr ⟨.inl k,c,e,?_⟩;have q:=x.cell y c e;rw[qR Pr hp hu (by show scope.names.lookup y≠_;rw[k];decide)]at q;exact q
 ·exact e0.av.fresh (wg (x.above y c (PySem.mem_of_lookup h)))
 ·unfold start
  show _=N.length;rw[zf,zu,yw];first|lia|omega
theorem IX{CX:kS}{P:Program}{w:World}{K:Q_}{mg:Str->Option Value}{base:Heap}{k:Nat}{f:Addr}{name qual:Str}{params:Arguments}{body:List Stmt}{scope:Scope}{dV kV doc pm cdv ct oc:Value}{an od:Option Addr}
  {iL:Array (Option Value)} {N ps:List Str} {sp:Sp} (lk:K.lookup f=some ⟨oc,od,.func (Z0 name qual params body scope dV kV doc pm an cdv ct),iL⟩) (jV:Z7 K cdv qual=true) (S:bZ N ps scope)
  (len:∀vs H Q E,sp vs H Q E->vs.length=ps.length)
  (BM:∀(A:Around) (outer:List Env) (s:Shared) (H:Hp) (vs:List V) (Q:VK) (E:XK),bG k (A.deeper (envOfC qual scope s.heap.objs.size f cdv))->sp vs H Q E ->
   ∃t,dB (et CX P w K mg base N qual scope f cdv A outer s H E) body t/\t { nx:=fun _ H'=>Q .non H',rt:=Q } (start N vs) H) :
  cq P w K mg base CX (k+1) f (Z0 name qual params body scope dV kV doc pm an cdv ct) ps sp:=by
 refine⟨len,fun A outer s H args us vs Q E hr e0 hb r hsp=>?_⟩;have hl:=len _ _ _ _ hsp;have KX:K.In s.heap:=e0.mod.qz.keeps fun b o e=>(e0.bs b o e).1;have lim:s.heap.NoLimit:=e0.mod.nolimit.keeps fun b o e=>(e0.bs b o e).1;have BK:∀y∈ps.zip us,scope.names.lookup y.1=some .local\/(scope.names.lookup y.1=some .cell/\((cellsFrom (s.heap.objs.size+1) scope.names []).lookup y.1).isSome=true):=fun ⟨n,v⟩ hy=>by
  rcases S.par n (xm hy).1 with q|q
  ·exact .inl q
  ·exact .inr ⟨q,Y3 _ _ _ (.inl q)⟩
 refine codeAny_call_function hr.depth (KX _ _ lk) rfl S.co S.gen rfl (Y5 KX jV) (hb _ _ _ _ ?_);refine wpAny_newFunctionEnv_cells S.kind BK fun env he s1 x=>?_;subst he;refine⟨lim.keeps x.toInCall.keep,codeAny_func ?_⟩;obtain⟨t,ht,hq⟩:=BM A outer s H vs Q E (hr.deeper _) hsp;have I:Inv (et CX P w K mg base N qual scope f cdv A outer s H E) [] (start N vs) H s1:=qB S hr.hd e0 hl r x;refine wpAny_mono (ht [] s1 (start N vs) H _ I hq) (fun fl s' hs=>?_) fun e s' hs=>hs;have fin:∀{σ':St} {H':Hp} {v:V} {u:Value},Inv (et CX P w K mg base N qual scope f cdv A outer s H E) [] σ' H' s'->RelV v u->Q v H'->CE outer P w H s Q u s' :=
  fun {σ' H' v u} J rv q=>⟨v,H',J.os,J.bare,J.base,J.av,rv,q⟩
 cases fl with
 |ret u =>
  obtain⟨v,σ',H',J,rv,q⟩:=hs;exact fin J rv q
 |next =>
  obtain⟨σ',H',J,q⟩:=hs;exact fin (v:=V.non) (u:=Value.none) J rfl q
 |brk =>
  obtain⟨_,_,_,q⟩:=hs;exact False.elim q
 |cont =>
  obtain⟨_,_,_,q⟩:=hs;exact False.elim q
end L2
namespace L2
open PySem PySem.Spec PyProof.Rows
section
variable {X:Cx}{x:Str}{p pos:Pos}{e:Expr}{es:List Expr}{t:TA}{id T:String}{r:List V->Hp->VK->Prop}
def u6(r:List V->Hp->VK->Prop)(t:TA):TE:=fun σ H Q=>t σ H fun vs H1=>r vs H1 Q
theorem dH(hc:cD X (.builtin id) r)(hg:Gl X x)(hm:X.mg x=none)(hv:bootBuiltins x=some (.builtin id))(ha:PA X (e::es) t)(hn:x≠"__name__":=by decide)(oE:(x==("__debug__":Str))=false:=by decide)
  (he:starEach (e::es) X.env=(false,eval e X.env)::starEach es X.env:=by rfl) (fN:(backTo pos (starEach es X.env)).any (·.1)=false:=by rfl):PE X (.Call (.Name x p) (e::es) [] pos) (u6 r t):=by
 intro pins s σ H Q I h;refine wpAny_Call_Name_kw (fL I hg hm hv ?_ hn oE);exact PyProof.Rows.callWith_builtin1 (aF (ha pos pins s σ H _ I h) fun us s1 ⟨vs,H1,I1,r1,q1⟩=>hc pins s1 σ H1 vs us Q I1 r1 q1) he fN
theorem gY(hc:cD X (.type T) r)(hg:Gl X x)(hm:X.mg x=none)(hv:bootBuiltins x=some (.type T))(ha:PA X (e::es) t)(hn:x≠"__name__":=by decide)(oE:(x==("__debug__":Str))=false:=by decide)
  (he:starEach (e::es) X.env=(false,eval e X.env)::starEach es X.env:=by rfl) (fN:(backTo pos (starEach es X.env)).any (·.1)=false:=by rfl):PE X (.Call (.Name x p) (e::es) [] pos) (u6 r t):=by
 intro pins s σ H Q I h;refine wpAny_Call_Name_kw (fL I hg hm hv ?_ hn oE);exact W_ (aF (ha pos pins s σ H _ I h) fun us s1 ⟨vs,H1,I1,r1,q1⟩=>hc pins s1 σ H1 vs us Q I1 r1 q1) he fN
end
end L2
namespace HT
open PySem PyProof.Rows
section
open PySem.SeqAt
open PySem.AutoSeq1 (wpAny_loadPart')
open PySem.MeetsSeq PySem.MeetsSeq2 PySem.MeetsSeq3
end
section
variable {prog:Program}{w:World}{A:Around}{E:Value->Shared->Prop}{s:Shared}
theorem KH{t b:Addr}{vs ws:List Value}{Q:Value->Shared->Prop}(ht:IsTup s.heap t vs.toArray)(hb:IsTup s.heap b ws.toArray)(hv:vs≠[])
  (h1:ws=[]->Q (.ref t) s) (h2:ws≠[]->Q (.ref s.heap.objs.size) { s with heap:=s.heap.push { cls:=.type "tuple",data:=.seq (vs++ws).toArray } })
  (hsz:vs.length+ws.length<=zp):wpAny (model prog w) A (binaryOp .Add (.ref t) (.ref b)) Q E s:=by
 obtain⟨⟨cls,dd,data,sl⟩,ho,hc,n,hd⟩:=id ht;obtain⟨⟨RA,Jb,data2,Hy⟩,tX,Ee,n2,hd2⟩:=id hb;simp only at hc hd Ee hd2;subst hc hd Ee hd2;have e:vs.toArray++ws.toArray=(vs++ws).toArray:=by simp
 by_cases hw:ws=[]
 ·exact concat_meets ⟨_,ho,rfl⟩ ⟨_,tX,rfl⟩ noFill_tuple_add seq_tuple_add PySem.F.slot_tuple_add PySem.F.entry_tuple_add (PySem.F.args_tuple_add_2 _ _)
   (tuple_addW1 t b vs.toArray ws.toArray n n2 dd Jb sl Hy (by simpa using hv) (by simp[hw])) ⟨ho,tX,h1 hw⟩
 ·refine concat_meets ⟨_,ho,rfl⟩ ⟨_,tX,rfl⟩ noFill_tuple_add seq_tuple_add PySem.F.slot_tuple_add PySem.F.entry_tuple_add (PySem.F.args_tuple_add_2 _ _)
   (tuple_addW2 t b vs.toArray ws.toArray n n2 dd Jb sl Hy (by simpa using hv) (by simpa using hw) (by rw[zl,zl];exact hsz)) ⟨ho,tX,?_⟩
  rw[e];exact h2 hw
def bp(n d:Nat):Option Int->Nat
 |none=>d
 |some v=>if v<0 then (v+(n:Int)).toNat else min v.toNat n
theorem LD(n d:Nat)(hd:d<=n)(o:Option Int):bp n d o<=n:=by
 cases o with
 |none=>exact hd
 |some v =>
  show (if v<0 then (v+(n:Int)).toNat else min v.toNat n)<=n;by_cases hv:v<0
  ·rw[if_pos hv];omega
  ·rw[if_neg hv];exact Nat.min_le_right _ _
theorem v8(v:Int)(n d:Nat):(if v<0 then max (v+(n:Int)) 0 else min v (n:Int))=((bp n d (some v):Nat):Int):=by
 show (if v<0 then max (v+(n:Int)) 0 else min v (n:Int))=(((if v<0 then (v+(n:Int)).toNat else min v.toNat n):Nat):Int);by_cases hv:v<0
 ·simp only[if_pos hv];omega
 ·simp only[if_neg hv];omega
theorem Cg(lo hi:Option Int)(n:Nat):Builtin.Slice.sliceAdjust lo hi 1 (n:Int)=(((bp n 0 lo:Nat):Int),((bp n n hi:Nat):Int)):=by
 have h1:¬ ((1:Int)<0):=by first|lia|omega
 unfold Builtin.Slice.sliceAdjust;simp only[h1,if_false];refine Prod.ext ?_ ?_
 ·cases lo with
  |none=>rfl
  |some v=>exact v8 v n 0
 ·cases hi with
  |none=>rfl
  |some v=>exact v8 v n n
theorem Bi(i j:Nat):Builtin.Slice.slicePlaces (i:Int) (j:Int) 1=j-i:=by
 unfold Builtin.Slice.slicePlaces;have h1:(1:Int) > 0:=by first|lia|omega
 simp only[h1,if_true,Int.ediv_one];split <;> omega
theorem nV{v:Value}{o:Option Int}{Q:Option Int->Shared->Prop}(p:IsPart v o)(h:Q o s):wpAny (model prog w) A (Builtin.Slice.slicePartIndex v) Q E s:=by
 cases p with
 |none=>exact slicePart_none h
 |int i t=>exact slicePart_int h
theorem iI{sl:Addr}{vl vu:Value}{lo hi:Option Int}{n:Nat}{Q:Int×Int×Nat->Shared->Prop}(hs:s.heap.IsSliceOf sl vl vu .none)(pl:IsPart vl lo)(pu:IsPart vu hi)
  (h:Q (((bp n 0 lo:Nat):Int),1,bp n n hi-bp n 0 lo) s):wpAny (model prog w) A (Builtin.Slice.sliceApplied (.ref sl) (pure (n:Int))) Q E s:=by
 obtain⟨os,tV,IG,oC⟩:=id hs;unfold Builtin.Slice.sliceApplied Builtin.Slice.sliceFields;refine zz (zz (wpAny_field tV oC (x:=vl) rfl (zz (wpAny_field tV oC (x:=vu) rfl (zz (wpAny_field tV oC (x:=.none) rfl (zq ?_)))))));refine zz (slicePart_none ?_);show wpAny _ _ (if ((1:Int)==0)=true then _ else _) _ _ s;rw[if_neg (by decide)];refine zz (nV pl (zz (nV pu (zz (zq ?_)))));show wpAny _ _ (match Builtin.Slice.sliceAdjust lo hi 1 (n:Int) with|(lo,hi)=>pure (lo,(1:Int),Builtin.Slice.slicePlaces lo hi 1)) _ _ s;rw[Cg lo hi n];show wpAny _ _ (pure (((bp n 0 lo:Nat):Int),(1:Int),Builtin.Slice.slicePlaces ((bp n 0 lo:Nat):Int) ((bp n n hi:Nat):Int) 1)) _ _ s;rw[Bi];exact zq h
theorem FO(xs:Array Value)(i k:Nat):((List.range k).filterMap fun (m:Nat)=>xs[((i:Int)+(m:Int)*1).toNat]?).toArray=((xs.toList.drop i).take k).toArray:=by
 have e:(fun (m:Nat)=>xs[((i:Int)+(m:Int)*1).toNat]?)=fun m=>xs[i+m]?:=by
  funext m
  have:((i:Int)+(m:Int)*1).toNat=i+m:=by first|lia|omega
  rw[this]
 rw[e]
 have:=pick_run xs i k
 rw[xB]at this;have e2:((fun x=>xs[x]?) ∘ fun x=>i+x)=fun m=>xs[i+m]?:=rfl;rw[e2]at this;rw[this]
theorem mz{t sl:Addr}{items:Array Value}{vl vu:Value}{lo hi:Option Int}{Q:Value->Shared->Prop}(ht:IsTup s.heap t items)(hs:s.heap.IsSliceOf sl vl vu .none)(pl:IsPart vl lo)(pu:IsPart vu hi)
  (hw:¬ (bp items.size 0 lo=0/\bp items.size items.size hi=items.size))
  (h:Q (.ref s.heap.objs.size) { s with heap:=s.heap.push { cls:=.type "tuple",data:=.seq ((items.toList.drop (bp items.size 0 lo)).take (bp items.size items.size hi-bp items.size 0 lo)).toArray } })
  (hsz:items.size<=zp):wpAny (model prog w) A (getItem (.ref t) (.ref sl)) Q E s:=by
 have rE:sizeOk (.seq ((items.toList.drop (bp items.size 0 lo)).take (bp items.size items.size hi-bp items.size 0 lo)).toArray):=by
  show ((items.toList.drop (bp items.size 0 lo)).take (bp items.size items.size hi-bp items.size 0 lo)).toArray.size<=zp;rw[zl,zY,zZ,xh];first|lia|omega
 have hj:bp items.size items.size hi<=items.size:=LD _ _ (zr _) hi;obtain⟨os,tV,IG,oC⟩:=id hs;have Eh:s.TypeIs (.ref sl) "slice":=⟨os,tV,IG⟩;unfold getItem
 try with_reducible refine wpAny_holding ?_
 first|refine zz (zq ?_)|skip
 refine zz (wpAny_sequenceKey ht.typeIs (by decide) ?_);refine zz (wpAny_callSpecial?_slot (name:=Str.ofString "__getitem__") ht.typeIs q_
  (wpAny_call_entry q_ ht.typeIs entry_tuple_getitem ?_ (args_tuple_getitem _ _)))
 show wpAny _ _ (Builtin.Tuple.tupleItemsOf (.ref t) >>= _) _ _ s;refine zz (tupleItemsOf_ ht ?_);refine zz (wpAny_typeOf Eh ?_);rw[if_pos (by decide)];refine zz (iI hs pl pu ?_);have Nf:¬ ((((bp items.size 0 lo:Nat):Int)==0&&(1:Int)==1&&(bp items.size items.size hi-bp items.size 0 lo)==items.size)=true):=by
  intro q;rw[zx,zx]at q;have q1:((bp items.size 0 lo:Nat):Int)=0:=eq_of_beq q.1.1;have q2:bp items.size items.size hi-bp items.size 0 lo=items.size:=eq_of_beq q.2;exact hw ⟨by omega,by omega⟩
 show wpAny _ _ (if (((bp items.size 0 lo:Nat):Int)==0&&(1:Int)==1&&(bp items.size items.size hi-bp items.size 0 lo)==items.size)=true then _ else _) _ _ s;rw[if_neg Nf,FO]
 first
  |exact zz (m:=Builtin.Tuple.tupleExact _) (wpAny_newObj_type (zq ⟨_,rfl,zq h⟩) rE)
  |exact zz (m:=Builtin.Tuple.tupleExact _) (wpAny_newObj_type (zz (zq (zq ⟨_,rfl,zq h⟩))) rE)
  |exact zz (zz (m:=Builtin.Tuple.tupleExact _) (wpAny_newObj_type (zq (zq ⟨_,rfl,zq h⟩)) rE))
  |exact zz (zz (m:=Builtin.Tuple.tupleExact _) (wpAny_newObj_type (zq ⟨_,rfl,zq h⟩) rE))
end
end HT
namespace L2
open PySem PySem.Spec PyProof.Rows
abbrev TO:=St->Hp->(Option Int->Hp->Prop)->Prop
def PO(X:Cx)(e:Option Expr)(t:TO):Prop :=
 ∀(pins:List (Addr×Obj)) (s:Shared) (σ:St) (H:Hp) (Q:Option Int->Hp->Prop),Inv X pins σ H s->t σ H Q ->
  wpAny (model X.prog X.w) X.A (evalPart e X.env) (fun u s'=>∃o H',Inv X pins σ H' s'/\IsPart u o/\Q o H') X.xe s
def u5:TO:=fun _ H Q=>Q none H
def Ho(t:TE):TO:=fun σ H Q=>t σ H fun x H1=>∃i,x=.int i/\Q (some i) H1
section
variable {X:Cx}{e:Expr}{te:TE}{lo hi:Option Expr}{tl th:TO}{pos p2:Pos}
theorem J0:PO X none u5:=by
 intro pins s σ H Q I h;rw[evalPart_none];exact zq ⟨none,H,I,.none,h⟩
theorem JZ(h:PE X e te):PO X (some e) (Ho te):=by
 intro pins s σ H Q I hw;rw[evalPart_some];refine aF (h pins s σ H _ I hw) fun u s1 ⟨x,H1,I1,r1,q1⟩=>?_;obtain⟨i,rfl,q⟩:=q1;obtain⟨t,rfl⟩:=r1;exact⟨some i,H1,I1,.int i t,q⟩
def EY(X:Cx)(r:V->Option Int->Option Int->Hp->VK->Prop):Prop :=
 ∀(pins:List (Addr×Obj)) (s:Shared) (σ:St) (H:Hp) (x:V) (v vl vu:Value) (lo hi:Option Int) (sl:Addr) (Q:VK),Inv X pins σ H s->RelV x v->s.heap.IsSliceOf sl vl vu .none->IsPart vl lo->IsPart vu hi->r x lo hi H Q ->
  ∃T id,typeLookup (.type T) "__getitem__" = pure (some (.builtin id))/\s.TypeIs v T/\wpAny (model X.prog X.w) X.A (getItem v (.ref sl)) (EP X pins σ Q) X.xe s
def Pf(r:V->Option Int->Option Int->Hp->VK->Prop)(te:TE)(tl th:TO):TE:=fun σ H Q=>te σ H fun x H1=>tl σ H1 fun l H2=>th σ H2 fun u H3=>r x l u H3 Q
theorem FP{r:V->Option Int->Option Int->Hp->VK->Prop}(hr:EY X r)(he:PE X e te)(hl:PO X lo tl)(hu:PO X hi th):PE X (.Subscript e (.Slice lo hi none p2) pos) (Pf r te tl th):=by
 intro pins s σ H Q I h;refine Subscript_ (aF (he pins s σ H _ I h) fun v s1 ⟨x,H1,I1,r1,q1⟩=>?_);refine wpAny_Slice (aF (hl pins s1 σ H1 _ I1 q1) fun vl s2 ⟨l,H2,I2,pl,q2⟩=>aF (hu pins s2 σ H2 _ I2 q2) fun vu s3 ⟨u,H3,I3,pu,q3⟩=>?_);rw[evalPart_none];refine zq ?_;have I4:Inv X pins σ H3 { s3 with heap:=s3.heap.push { cls:=.type "slice",data:=.fields #[vl,vu,.none] } }:=I3.kept (t':=s3.toks) fun b ob q=>zy _ q;obtain⟨T,id,hT,ht,hg⟩:=hr pins { s3 with heap:=s3.heap.push { cls:=.type "slice",data:=.fields #[vl,vu,.none] } } σ H3 x v vl vu l u s3.heap.objs.size Q I4 r1 (Heap.IsSliceOf.new ..) pl pu q3;show wpAny (model X.prog X.w) X.A (subscriptTail e (.Slice lo hi none p2) v (.ref s3.heap.objs.size)) (EP X pins σ Q) X.xe { s3 with heap:=s3.heap.push { cls:=.type "slice",data:=.fields #[vl,vu,.none] } };exact tail_any (ops:=[.ref s3.heap.objs.size,v]) ht hT hg (by with_unfolding_all rfl)
def nC(xs:List V)(lo hi:Option Int):List V:=(xs.drop (HT.bp xs.length 0 lo)).take (HT.bp xs.length xs.length hi-HT.bp xs.length 0 lo)
theorem mK(xs:List V)(lo hi:Option Int):(nC xs lo hi).length<=xs.length:=by
 unfold nC;rw[zY,zZ];first|lia|omega
def QT(K:Q_):V->Option Int->Option Int->Hp->VK->Prop:=fun x lo hi H Q=>∃a xs,x=.ref a/\cz K H a xs /\
 ¬ (HT.bp xs.length 0 lo=0/\HT.bp xs.length xs.length hi=xs.length)/\∀p,H p=none->Q (.ref p) (upd H p (.tup (nC xs lo hi)))
theorem Lw:EY X (QT X.K):=by
 intro pins s σ H x v vl vu lo hi sl Q I rx hs pl pu h;obtain⟨a,xs,rfl,hx,hw,q⟩:=h;cases rx;obtain⟨its,r,ht,hz⟩:=I.tuple hx;have hlen:its.toArray.size=xs.length:=by rw[zl];exact r.length.symm
 refine⟨"tuple",_,PyProof.Rows.slot_tuple_getitem.lookup,ht.typeIs,?_⟩;refine HT.mz ht hs pl pu (by rw[hlen];exact hw) ?_ (by rw[hlen];exact hz);rw[hlen];refine⟨.ref s.heap.objs.size,_,I.laid (t':=s.toks) (o:=.tup (nC xs lo hi)) (fun b ob q=>zy _ q) (zr _) ?_,rfl,q _ (I.av.fresh (zr _))⟩;exact⟨zO (mK xs lo hi) hz,_,(r.drop (HT.bp xs.length 0 lo)).take (HT.bp xs.length xs.length hi-HT.bp xs.length 0 lo),nG.new _ _⟩
def Oz(K:Q_):R2:=fun x y H Q=>∃a b xs ys,x=.ref a/\y=.ref b/\cz K H a xs/\cz K H b ys/\xs≠[]/\xs.length+ys.length<=zp /\
 (ys=[]->Q (.ref a) H)/\(ys≠[]->∀p,H p=none->Q (.ref p) (upd H p (.tup (xs++ys))))
theorem Vals.pR{xs:List V}{us:List Value}(r:Vals xs us):us=[] ↔ xs=[]:=by
 cases r with
 |nil=>simp
 |cons _ _=>simp
theorem J7:cL X (binaryOp .Add) (Oz X.K):=by
 intro pins s σ H x y v u Q I rx ry h;obtain⟨a,b,xs,ys,rfl,rfl,ha,hb,hx,hz,q1,q2⟩:=h;cases rx;cases ry;obtain⟨its,r1,p1,_⟩:=I.tuple ha;obtain⟨bK,r2,p2,_⟩:=I.tuple hb;refine HT.KH p1 p2 (fun z=>hx (r1.pR.mp z)) (fun z=>⟨.ref a,H,I,rfl,q1 (r2.pR.mp z)⟩) (fun z=>?_) (by rw[<- r1.length,<- r2.length];exact hz);refine⟨.ref s.heap.objs.size,_,I.laid (t':=s.toks) (o:=.tup (xs++ys)) (fun b ob q=>zy _ q) (zr _) ?_,rfl,q2 (fun w=>z (r2.pR.mpr w)) _ (I.av.fresh (zr _))⟩;exact⟨by rw[zf];exact hz,_,r1.append r2,nG.new _ _⟩
end
end L2
namespace L2
open PySem PySem.Spec PyProof.Rows
def vN(n:Nat)(i:Int):Option Nat:=if 0<=i then (if i<n then some i.toNat else none) else if -(n:Int)<=i then some (i+n).toNat else none
def oY{α:Type}(xs:List α)(i:Int):Option α:=(vN xs.length i).bind fun j=>xs[j]?
theorem vM{n:Nat}{i:Int}{j:Nat}(h:vN n i=some j):seqIndex? i n=some j/\j<n/\-(n:Int)<=i/\i<n:=by
 unfold vN at h;by_cases h0:0<=i
 ·rw[if_pos h0]at h
  by_cases h1:i<n
  ·rw[if_pos h1]at h
   have e:i.toNat=j:=Option.some.inj h;exact⟨by rw[seqIndex_of h0 h1,e],by omega,by omega,h1⟩
  ·rw[if_neg h1]at h;cases h
 ·rw[if_neg h0]at h
  by_cases h1:-(n:Int)<=i
  ·rw[if_pos h1]at h
   have e:(i+n).toNat=j:=Option.some.inj h;exact⟨by rw[seqIndex_neg (by first|lia|omega) h1,e],by omega,h1,by omega⟩
  ·rw[if_neg h1]at h;cases h
theorem qd{α:Type}{xs:List α}{i:Int}{v:α}(h:oY xs i=some v):∃j,seqIndex? i xs.length=some j/\xs[j]?=some v/\j<xs.length/\-(xs.length:Int)<=i/\i<xs.length:=by
 unfold oY at h;cases e:vN xs.length i with
 |none=>rw[e]at h;cases h
 |some j =>
  rw[e]at h;obtain⟨h1,h2,h3,h4⟩:=vM e;exact⟨j,h1,h,h2,h3,h4⟩
def z0(b:Expr):Prop:=∀o i,subscripted b false o i=operate [o,i] (getItem o i)
def Aa(X:Cx)(r:R2):Prop :=
 ∀(value slice:Expr) (pins:List (Addr×Obj)) (s:Shared) (σ:St) (H:Hp) (x y:V) (v u:Value) (Q:VK),Inv X pins σ H s->RelV x v->RelV y u->r x y H Q ->
  subscripted slice false v u=operate [v,u] (getItem v u)->wpAny (model X.prog X.w) X.A (subscriptTail value slice v u) (EP X pins σ Q) X.xe s
def pe(X:Cx)(id:String)(r:V->List V->Hp->VK->Prop):Prop :=
 ∀(pins:List (Addr×Obj)) (s:Shared) (σ:St) (H:Hp) (x:V) (xs:List V) (v:Value) (us:List Value) (Q:VK),Inv X pins σ H s->RelV x v->Vals xs us->r x xs H Q ->
  wpAny (model X.prog X.w) X.A (call (.builtin id) (v::us)) (EP X pins σ Q) X.xe s
section
variable {X:Cx}{a b:Expr}{ta tb:TE}{pos:Pos}
theorem Bj{r:R2}(hr:Aa X r)(ha:PE X a ta)(hb:PE X b tb)(hs:z0 b):PE X (.Subscript a b pos) (lj r ta tb):=by
 intro pins s σ H Q I h;exact Subscript_ (G1 ha hb I h fun v u s2 x y H2 I2 rx ry q=>hr a b pins s2 σ H2 x y v u Q I2 rx ry q (hs _ _))
def kh(K:Q_):R2:=fun x y H Q=>∃p xs i v,x=.ref p/\y=.int i/\aJ K H p xs/\oY xs i=some v/\Q v H
def QV(K:Q_):R2:=fun x y H Q=>∃p xs i v,x=.ref p/\y=.int i/\cz K H p xs/\oY xs i=some v/\Q v H
def QW:R2:=fun x y H Q=>∃z i c,x=.str z/\y=.int i/\z.length<=zp/\oY z.cps.toList i=some c/\Q (.str ⟨#[c]⟩) H
theorem ml:Aa X (kh X.K):=by
 intro value slice pins s σ H x y v u Q I rx ry h hs;obtain⟨p,xs,i,z,rfl,rfl,hq,he,q⟩:=h;cases rx;obtain⟨t,rfl⟩:=ry;obtain⟨its,r,pl,hz⟩:=I.list hq;obtain⟨j,h1,h2,h3,h4,h5⟩:=qd he;obtain⟨w,ew,rw'⟩:=r.get h2;have hl:=r.length;have hn:=iO;have fin:EP X pins σ Q w s:=⟨z,H,I,rw',q⟩;by_cases h0:0<=i
 ·have hj:i.toNat=j:=by
   rw[seqIndex_of h0 h5]at h1;exact Option.some.inj h1
  exact item_listR pl.isList h0 (by first|lia|omega) (by rw[hj];simpa using ew) fin hs
 ·have hj:(i+(its.toArray.size:Int)).toNat=j:=by
   rw[seqIndex_neg (by first|lia|omega) h4]at h1
   rw[zl,<- hl];exact Option.some.inj h1
  exact subscriptTail_builtinR (x:=w) pl.isList.typeIs slot_list_getitem.lookup
   (wpAny_getItem_list_neg (Q:=fun r s'=>r=w/\EP X pins σ Q r s') pl.isList (by first|lia|omega) (by rw[zl] <;> omega) (by first|lia|omega) (by rw[hj];simpa using ew) ⟨rfl,fin⟩) hs
theorem ML:Aa X (QV X.K):=by
 intro value slice pins s σ H x y v u Q I rx ry h hs;obtain⟨p,xs,i,z,rfl,rfl,hq,he,q⟩:=h;cases rx;obtain⟨t,rfl⟩:=ry;obtain⟨its,r,pl,hz⟩:=I.tuple hq;obtain⟨j,h1,h2,h3,h4,h5⟩:=qd he;obtain⟨w,ew,rw'⟩:=r.get h2;have hl:=r.length;have hn:=iO;have fin:EP X pins σ Q w s:=⟨z,H,I,rw',q⟩;exact subscriptTail_builtinR (x:=w) pl.typeIs slot_tuple_getitem.lookup
  (getItem_tuple (j:=j) (Q:=fun r s'=>r=w/\EP X pins σ Q r s') pl (by first|lia|omega) (by first|lia|omega) (by rw[zl,<- hl];exact h1) (by simpa using ew) ⟨rfl,fin⟩) hs
theorem MM:Aa X QW:=by
 intro value slice pins s σ H x y v u Q I rx ry h hs;obtain⟨z,i,c,rfl,rfl,hz,he,q⟩:=h;obtain⟨t,rfl⟩:=rx;obtain⟨t',rfl⟩:=ry;obtain⟨j,h1,h2,h3,h4,h5⟩:=qd he;have hl:z.cps.toList.length=z.length:=by simp[Str.length]
 rw[hl]at h1 h4 h5;have hn:=iO;exact tail_any (typeIs_str s z t) slot_str_getitem.lookup (getItem_str (c:=c) (by
  have e1:decide (i < -(2 ^ 63:Int))=false:=decide_eq_false (by first|lia|omega)
  have e2:decide (i ≥ 2 ^ 63)=false:=decide_eq_false (by first|lia|omega)
  rw[e1,e2,ww]) (by rw[h1];simpa using h2) ⟨.str ⟨#[c]⟩,H,I.tok _,⟨_,rfl⟩,q⟩) hs
theorem Bw(its:List Value)(n j:Nat)(u:Value):Obj.mapSeq (·.setIfInBounds j u) { cls:=.type "list",data:=.seq its.toArray n }={ cls:=.type "list",data:=.seq (its.set j u).toArray n }:=by
 simp[Obj.mapSeq]
theorem Inv.lst{pins:List (Addr×Obj)}{σ:St}{H:Hp}{s:Shared}{p:Addr}{xs:List V}(I:Inv X pins σ H s)(h:H p=some (.lst xs)) :
  ∃(its:List Value) (n:Nat),Vals xs its/\s.heap.get? p=some { cls:=.type "list",data:=.seq its.toArray n }/\xs.length<=zp:=by
 obtain⟨z,its,n,r,e⟩:=I.av p _ h;exact⟨its,n,r,e,z⟩
theorem Inv.Mz{pins:List (Addr×Obj)}{σ:St}{H:Hp}{s:Shared}{p:Addr}{xs ys:List V}{its its':List Value}{n n':Nat}{f:Obj->Obj}(I:Inv X pins σ H s)(h:H p=some (.lst xs))
  (ho:s.heap.get? p=some { cls:=.type "list",data:=.seq its.toArray n }) (hf:f { cls:=.type "list",data:=.seq its.toArray n }={ cls:=.type "list",data:=.seq its'.toArray n' }) (r:Vals ys its') (hz:ys.length<=zp) (t:Nat) :
  Inv X pins σ (upd H p (.lst ys)) { s with heap:=s.heap.update p f,toks:=t }:=by
 have e:(s.heap.update p f).get? p=some { cls:=.type "list",data:=.seq its'.toArray n' }:=by
  rw[yv f ho (by rw[hf] <;> rfl),hf]
 refine I.write (x:=p) (e:=p) (by rw[h];trivial) (.inl rfl) (fun b u hb q=>(zQ _ _ (Ne.symm hb)).trans q) ⟨_,e⟩ ?_;exact⟨hz,its',n',r,e⟩
def Ox:V->V->V->Hp->(Hp->Prop)->Prop:=fun o i v H Q=>∃p xs k j,o=.ref p/\i=.int k/\H p=some (.lst xs)/\vN xs.length k=some j/\Q (upd H p (.lst (xs.set j v)))
theorem set_list:Hd X Ox:=by
 intro pins s σ H o i v ov iv u Q I ro ri rv h;obtain⟨p,xs,k,j,rfl,rfl,hp,hj,q⟩:=h;cases ro;obtain⟨t,rfl⟩:=ri;obtain⟨its,n,r,ho,hz⟩:=I.lst hp;obtain⟨h1,h2,h3,h4⟩:=vM hj;have hl:=r.length;have hn:=iO;have I':Inv X pins σ (upd H p (.lst (xs.set j v))) { s with heap:=s.heap.update p (Obj.mapSeq (·.setIfInBounds j u)) } :=
  I.Mz hp ho (Bw its n j u) (r.set rv j) (by rw[yt];exact hz) s.toks
 by_cases h0:0<=k
 ·have hk:k.toNat=j:=by
   rw[seqIndex_of h0 h4]at h1;exact Option.some.inj h1
  exact PySem.W.ki_setAt ho h0 (by first|lia|omega) (by rw[zl,<- hl];exact h4) (by rw[hk];exact⟨_,I',q⟩)
 ·have hk:(k+(its.toArray.size:Int)).toNat=j:=by
   rw[seqIndex_neg (by first|lia|omega) h3]at h1
   rw[zl,<- hl];exact Option.some.inj h1
  exact PySem.W.ki_setBack ho (by first|lia|omega) (by rw[zl,<- hl];exact h3) (by first|lia|omega) (by rw[hk];exact⟨_,I',q⟩)
theorem sy(lo hi:Option Int)(n:Nat):(sliceBounds lo hi none n).1=((HT.bp n 0 lo:Nat):Int)/\(sliceBounds lo hi none n).2.1=((HT.bp n n hi:Nat):Int)/\(sliceBounds lo hi none n).2.2=1:=by
 refine⟨?_,?_,rfl⟩
 ·cases lo with
  |none=>simp[sliceBounds,HT.bp]
  |some i =>
   simp only[sliceBounds,HT.bp,wA,show (1:Int) > 0 by decide,if_true];by_cases h:i<0
   ·simp only[h,if_true] <;> omega
   ·simp only[h,if_false] <;> omega
 ·cases hi with
  |none=>simp[sliceBounds,HT.bp]
  |some i =>
   simp only[sliceBounds,HT.bp,wA,show (1:Int) > 0 by decide,if_true];by_cases h:i<0
   ·simp only[h,if_true] <;> omega
   ·simp only[h,if_false] <;> omega
theorem qW(its:List Value)(lo hi:Option Int):slicePick its.toArray lo hi none=((its.drop (HT.bp its.length 0 lo)).take (HT.bp its.length its.length hi-HT.bp its.length 0 lo)).toArray:=by
 obtain⟨h1,h2,h3⟩:=sy lo hi its.toArray.size;unfold slicePick;rw[h1,h2,h3];simp only[sliceRange_one,pick_run,zl] <;> rfl
def QU(K:Q_):V->Option Int->Option Int->Hp->VK->Prop:=fun x lo hi H Q=>∃a xs,x=.ref a/\aJ K H a xs/\∀p,H p=none->Q (.ref p) (upd H p (.lst (nC xs lo hi)))
theorem vd:EY X (QU X.K):=by
 intro pins s σ H x v vl vu lo hi sl Q I rx hs pl pu h;obtain⟨a,xs,rfl,hx,q⟩:=h;cases rx;obtain⟨its,r,ht,hz⟩:=I.list hx;have hlen:=r.length;refine⟨"list",_,slot_list_getitem.lookup,ht.isList.typeIs,?_⟩;refine wpAny_getItem_list_slice ht.isList hs pl pu .none (by simp) ?_ (by rw[zl] <;> omega);rw[qW,<- hlen];refine⟨.ref s.heap.objs.size,_,I.laid (t':=s.toks) (o:=.lst (nC xs lo hi)) (fun b ob q=>zy _ q) (zr _) ?_,rfl,q _ (I.av.fresh (zr _))⟩;exact⟨zO (mK xs lo hi) hz,_,0,(r.drop (HT.bp xs.length 0 lo)).take (HT.bp xs.length xs.length hi-HT.bp xs.length 0 lo),zk _ rfl⟩
def fQ:V->Bool
 |.non=>true
 |.bl _=>true
 |.int _=>true
 |.str _=>true
 |_=>false
def kP:V->V->Bool
 |.non,.non=>true
 |.bl a,.bl b=>a==b
 |.bl a,.int b=>(if a then 1 else 0)==b
 |.int a,.bl b=>a==(if b then 1 else 0)
 |.int a,.int b=>a==b
 |.str a,.str b=>a==b
 |_,_=>false
theorem Ex{A:Around}{s:Shared}{y x:V}{u v:Value}(ry:RelV y u)(rx:RelV x v)(fy:fQ y=true)(fx:fQ x=true):SeqAt.EqAt A s u v (kP y x):=by
 cases y with
 |non =>
  cases ry;cases x with
  |non=>cases rx;exact SeqAt.EqAt.same _
  |bl b=>cases rx;exact SeqAt.EqAt.none_bool b
  |int b=>obtain⟨t,rfl⟩:=rx;exact SeqAt.EqAt.none_int b t
  |str b=>obtain⟨t,rfl⟩:=rx;exact SeqAt.EqAt.none_str b t
  |_=>exact absurd (show false=true from fx) zt
 |bl a =>
  cases ry;cases x with
  |non=>cases rx;exact SeqAt.EqAt.bool_none a
  |bl b=>cases rx;exact SeqAt.EqAt.bool_bool a b
  |int b=>obtain⟨t,rfl⟩:=rx;exact SeqAt.EqAt.bool_int a b t
  |str b=>obtain⟨t,rfl⟩:=rx;exact SeqAt.EqAt.bool_str a b t
  |_=>exact absurd (show false=true from fx) zt
 |int a =>
  obtain⟨t',rfl⟩:=ry;cases x with
  |non=>cases rx;exact SeqAt.EqAt.int_none a t'
  |bl b=>cases rx;exact SeqAt.EqAt.int_bool a t' b
  |int b=>obtain⟨t,rfl⟩:=rx;exact SeqAt.EqAt.int_int a t' b t
  |str b=>obtain⟨t,rfl⟩:=rx;exact SeqAt.EqAt.int_str a t' b t
  |_=>exact absurd (show false=true from fx) zt
 |str a =>
  obtain⟨t',rfl⟩:=ry;cases x with
  |non=>cases rx;exact SeqAt.EqAt.str_none a t'
  |bl b=>cases rx;exact SeqAt.EqAt.str_bool a t' b
  |int b=>obtain⟨t,rfl⟩:=rx;exact SeqAt.EqAt.str_int a t' b t
  |str b=>obtain⟨t,rfl⟩:=rx;exact SeqAt.EqAt.str_str a t' b t
  |_=>exact absurd (show false=true from fx) zt
 |_=>exact absurd (show false=true from fy) zt
def ue(x:V)(u:Value):Bool:=match u with
 |.none=>kP .non x
 |.bool b=>kP (.bl b) x
 |.int i _=>kP (.int i) x
 |.str z _=>kP (.str z) x
 |_=>false
theorem Ew{x y:V}{u:Value}(r:RelV y u)(f:fQ y=true):ue x u=kP y x:=by
 cases y with
 |non=>cases r;rfl
 |bl b=>cases r;rfl
 |int i=>obtain⟨t,rfl⟩:=r;rfl
 |str z=>obtain⟨t,rfl⟩:=r;rfl
 |_=>exact absurd (show false=true from f) zt
theorem nk{A:Around}{s:Shared}{x:V}{v:Value}(rx:RelV x v)(fx:fQ x=true):∀{xs:List V} {us:List Value},Vals xs us->xs.all fQ=true->∀u∈us,SeqAt.EqAt A s u v (ue x u)
 |_,_,.nil,_=>fun u hu=>by cases hu
 |y::xs,u::us,.cons r t,f=>fun u' hu=>by
  rw[zK,zx]at f;rcases zg.mp hu with rfl|hu
  ·rw[Ew r f.1];exact Ex r rx f.1 fx
  ·exact nk rx fx t f.2 u' hu
theorem iV:cD X (.builtin "len") (fun xs H Q=>∃p ys,xs=[.ref p]/\(aJ X.K H p ys\/cz X.K H p ys)/\Q (.int ys.length) H):=by
 intro pins s σ H xs us Q I r h;obtain⟨p,ys,rfl,hq,q⟩:=h;obtain⟨u,rfl,rx⟩:=vals1 r;cases rx;have hn:=iO;rcases hq with hq|hq
 ·obtain⟨its,r',pl,hz⟩:=I.list hq
  have hlen:=r'.length;exact Calls.call_len_list pl.isList (by simp only[zl] <;> omega) ⟨.int ys.length,H,I.tok _,⟨s.toks+1,by rw[zl,hlen]⟩,q⟩
 ·obtain⟨its,r',pl,hz⟩:=I.tuple hq
  have hlen:=r'.length;exact len_tuple pl (by simp only[zl] <;> omega) ⟨.int ys.length,H,I.tok _,⟨s.toks+1,by rw[zl,hlen]⟩,q⟩
theorem uv:cD X (.builtin "len") (fun xs H Q=>∃z,xs=[.str z]/\z.length<=zp/\Q (.int z.length) H):=by
 intro pins s σ H xs us Q I r h;obtain⟨z,rfl,hz,q⟩:=h;obtain⟨u,rfl,t,rfl⟩:=vals1 r;have hn:=iO;exact len_str (by first|lia|omega) ⟨.int z.length,H,I.tok _,⟨_,rfl⟩,q⟩
theorem ur:cD X (.type "list") (fun xs H Q=>∃p ys,xs=[.ref p]/\(aJ X.K H p ys\/cz X.K H p ys)/\∀l,H l=none->Q (.ref l) (upd H l (.lst ys))):=by
 intro pins s σ H xs us Q I r h;obtain⟨p,ys,rfl,hq,q⟩:=h;obtain⟨u,rfl,rx⟩:=vals1 r;cases rx;have fin:∀(its:List Value),Vals ys its->ys.length<=zp->∀(h':Heap) (c':Nat),(∀b o',s.heap.get? b=some o'->h'.get? b=some o') ->
   h'.get? s.heap.objs.size=some { cls:=.type "list",dict:=none,data:=.seq its.toArray c',slots:=#[] }->EP X pins σ Q (.ref s.heap.objs.size) { s with heap:=h' }:=fun its r' hz h' c' kp e =>
  ⟨.ref s.heap.objs.size,_,I.laid (t':=s.toks) kp (zr _) (show bJ X.prog X.w _ h' _ (.lst ys) from ⟨hz,its,c',r',e⟩),rfl,q _ (I.av.fresh (zr _))⟩
 rcases hq with hq|hq
 ·obtain⟨its,r',pl,hz⟩:=I.list hq
  have hlen:=r'.length;obtain⟨o,ho,hc,n,hd⟩:=pl.isList;exact call_list_seq p (.inl rfl) ho hc hd (fun h' c' kp e=>fin its r' hz h' c' kp e) (by simp only[zl] <;> omega)
 ·obtain⟨its,r',pl,hz⟩:=I.tuple hq
  have hlen:=r'.length;obtain⟨o,ho,hc,n,hd⟩:=pl;exact call_list_seq p (.inr rfl) ho hc hd (fun h' c' kp e=>fin its r' hz h' c' kp e) (by simp only[zl] <;> omega)
theorem ik:cD X (.type "tuple") (fun xs H Q=>∃p ys,xs=[.ref p]/\((aJ X.K H p ys/\∀l,H l=none->Q (.ref l) (upd H l (.tup ys)))\/(cz X.K H p ys/\Q (.ref p) H))):=by
 intro pins s σ H xs us Q I r h;obtain⟨p,ys,rfl,h⟩:=h;obtain⟨u,rfl,rx⟩:=vals1 r;cases rx;rcases h with ⟨hq,q⟩|⟨hq,q⟩
 ·obtain⟨its,r',pl,hz⟩:=I.list hq
  have hlen:=r'.length;refine call_tuple_list pl.isList (fun h' kp=>?_) (by simp only[zl] <;> omega);have I1:Inv X pins σ H { s with heap:=h' }:=I.kept (t':=s.toks) kp;have I2:Inv X pins σ (upd H h'.objs.size (.tup ys)) { s with heap:=h'.push { cls:=.type "tuple",data:=.seq its.toArray } } :=
   I1.laid (t':=s.toks) (fun b o e=>zy _ e) (zr _) (show bJ X.prog X.w _ _ _ (.tup ys) from ⟨hz,its,r',nG.new _ _⟩)
  exact⟨.ref h'.objs.size,_,I2,rfl,q _ (I1.av.fresh (zr _))⟩
 ·obtain⟨its,r',pl,hz⟩:=I.tuple hq
  exact call_tuple_same pl ⟨.ref p,H,I,rfl,q⟩
def K6(K:Q_)(T:String)(x:V)(H:Hp):Prop:=match x with
 |.str _=>T = "str"
 |.int _=>T = "int"
 |.ref p=>(T = "list"/\∃xs,aJ K H p xs)\/(T = "tuple"/\∃o,K.lookup p=some o/\o.cls=.type "tuple"/\o.dict=none) \/
   (T = "dict"/\((∃kvs,H p=some (.dK kvs))\/∃kvs,H p=some (.dT kvs)))\/(T = "set"/\∃S n,H p=some (.set S n))
 |_=>False
theorem jJ{pins:List (Addr×Obj)}{σ:St}{H:Hp}{s:Shared}{T:String}{x:V}{v:Value}(I:Inv X pins σ H s)(r:RelV x v)(ty:K6 X.K T x H) :
  s.TypeIs v T/\∀a,v=.ref a->∃ob,s.heap.get? a=some ob/\ob.dict=none:=by
 cases x with
 |str z =>
  obtain⟨t,rfl⟩:=r;cases (show T = "str" from ty);exact⟨typeIs_str s z t,fun _ e=>nomatch e⟩
 |int i =>
  obtain⟨t,rfl⟩:=r;cases (show T = "int" from ty);exact⟨typeIs_int s i t,fun _ e=>nomatch e⟩
 |ref p =>
  cases r;rcases ty with ⟨rfl,xs,hq⟩|⟨rfl,o,hk,hc,hd⟩|⟨rfl,hk⟩|⟨rfl,S,n,hk⟩
  ·obtain⟨its,_,pl,_⟩:=I.list hq
   refine⟨pl.isList.typeIs,fun a e=>?_⟩;cases e;obtain⟨o,n,e,c,hd,_⟩:=pl;exact⟨o,e,hd⟩
  ·refine⟨⟨o,I.dR p o hk,hc⟩,fun a e=>?_⟩
   cases e;exact⟨o,I.dR _ o hk,hd⟩
  ·have z:∃o,s.heap.get? p=some o/\o.ExactDict:=by
    rcases hk with ⟨kvs,hk⟩|⟨kvs,hk⟩
    ·obtain⟨_,_,_,_,o,_,_,e,ex,_⟩:=I.av p _ hk
     exact⟨o,e,ex⟩
    ·obtain⟨_,_,_,_,o,_,_,e,ex,_⟩:=I.av p _ hk
     exact⟨o,e,ex⟩
   obtain⟨o,e,ex⟩:=z;refine⟨⟨o,e,ex.1⟩,fun a e2=>?_⟩;cases e2;exact⟨o,e,ex.2.1⟩
  ·obtain⟨o,_,_,_,e,ex,_⟩:=I.av p _ hk
   refine⟨⟨o,e,ex.1⟩,fun a e2=>?_⟩;cases e2;exact⟨o,e,ex.2.1⟩
 |_=>exact False.elim ty
def QN(K:Q_)(T:String)(r:V->List V->Hp->VK->Prop)(to:TE):TE:=fun σ H Q=>to σ H fun x H1=>K6 K T x H1/\r x [] H1 Q
def TK(K:Q_)(T:String)(r:V->List V->Hp->VK->Prop)(to:TE)(t:TA):TE:=fun σ H Q=>to σ H fun x H1=>K6 K T x H1/\t σ H1 fun xs H2=>r x xs H2 Q
variable {o e:Expr}{es:List Expr}{to:TE}{t:TA}{name:Str}{apos cpos:Pos}{T id:String}{r:V->List V->Hp->VK->Prop}
theorem Ua(pa:PlainAttrs T)(slot:Slot T name id)(DW:typeOf (.builtin id)=pure (.type "method_descriptor"))(hm:pe X id r)(ho:PE X o to)
  (oG:attributeBase o name X.env (eval o X.env)=eval o X.env:=by rfl) (kz:(apos.endLine==cpos.line)=true:=by rfl):PE X (.Call (.Attribute o name apos) [] [] cpos) (QN X.K T r to):=by
 intro pins s σ H Q I h;refine wpAny_Call_method0_late oG kz (aF (ho pins s σ H _ I h) fun v s1 ⟨x,H1,I1,r1,ty,q1⟩=>?_);obtain⟨h1,h2⟩:=jJ I1 r1 ty;exact⟨T,id,pa,slot,DW,h1,h2,Calls.callWith_builtin rfl (PySem.evalArgs_none (hm pins s1 σ H1 x [] v [] Q I1 r1 .nil q1))⟩
theorem HH(pa:PlainAttrs T)(slot:Slot T name id)(DW:typeOf (.builtin id)=pure (.type "method_descriptor"))(hm:pe X id r)(ho:PE X o to)(ha:PA X (e::es) t)
  (oG:attributeBase o name X.env (eval o X.env)=eval o X.env:=by rfl)
  (Gw:((backTo cpos (starEach (e::es) X.env)).all (fun x=>!x.1)&&(backToKw cpos (keywordEach [] X.env)).all (fun x=>x.1.isSome)
  &&decide ((e::es).length+([]:List Keyword).length+(if ([]:List Keyword).isEmpty then 0 else 1)<30))=true:=by rfl)
  (kz:(apos.endLine==cpos.line)=true:=by rfl) (hs:starEach (e::es) X.env=(false,eval e X.env)::starEach es X.env:=by rfl) (tU:(backTo cpos (starEach es X.env)).any (·.1)=false:=by rfl) :
  PE X (.Call (.Attribute o name apos) (e::es) [] cpos) (TK X.K T r to t):=by
 intro pins s σ H Q I h;refine wpAny_Call_method_late oG Gw kz rfl (aF (ho pins s σ H _ I h) fun v s1 ⟨x,H1,I1,r1,ty,q1⟩=>?_);obtain⟨h1,h2⟩:=jJ I1 r1 ty;refine⟨T,id,pa,slot,DW,h1,h2,?_⟩;have hA:=ha cpos pins s1 σ H1 _ I1 q1;rw[hs]at hA ⊢;refine Calls.callWith_builtin (by show (false||(backTo cpos (starEach es X.env)).any (·.1))=false;rw[tU] <;> rfl) (Calls.evalArgs_plain ?_);exact aF hA fun us s2 ⟨vs,H2,I2,r2,q2⟩=>hm pins s2 σ H2 x vs v us Q I2 r1 r2 q2
end
end L2
namespace L2
open PySem PySem.Spec PyProof.Rows
def Qy(X:Cx)(id:String)(r:V->List V->Hp->VK->Prop):Prop :=
 ∀(pins:List (Addr×Obj)) (s:Shared) (σ:St) (H:Hp) (x:V) (xs:List V) (v:Value) (us:List Value) (Q:VK),Inv X pins σ H s->RelV x v->Vals xs us->r x xs H Q ->
  wpAny (model X.prog X.w) X.A (call (.builtin id) (v::us)) (EP X pins σ Q) X.xe s
theorem Vals.one:∀{x:V} {us:List Value},Vals [x] us->∃u,us=[u]/\RelV x u
 |_,_,.cons r .nil=>⟨_,rfl,r⟩
theorem Vals.dropLast{xs:List V}{us:List Value}(h:Vals xs us):Vals xs.dropLast us.dropLast:=by
 induction h with
 |nil=>exact .nil
 |cons r t ih =>
  cases t with
  |nil=>exact .nil
  |cons q t'=>exact .cons r ih
theorem Vals.reverse{xs:List V}{us:List Value}(h:Vals xs us):Vals xs.reverse us.reverse:=by
 induction h with
 |nil=>exact .nil
 |cons r t ih=>rw[yB,yB];exact Vals.append ih (.cons r .nil)
theorem O2{α:Type}(l:List α):l.eraseIdx (l.length-1)=l.dropLast:=by
 induction l with
 |nil=>rfl
 |cons a r ih =>
  cases r with
  |nil=>rfl
  |cons b r =>
   have e:(a::b::r).length-1=((b::r).length-1)+1:=by
    have h1:(a::b::r).length=r.length+2:=rfl;have h2:(b::r).length=r.length+1:=rfl;first|lia|omega
   rw[e,List.eraseIdx_cons_succ,ih]
   all_goals rfl
section
variable {X:Cx}{pins:List (Addr×Obj)}{σ:St}{H:Hp}{s:Shared}{l b:Addr}{xs ys zs:List V}
theorem Inv.Ga{its its':List Value}{n:Nat}{f:Array Value->Array Value}{t':Nat}(I:Inv X pins σ H s)(hH:H l=some (.lst xs))
  (e:s.heap.get? l=some { cls:=.type "list",data:=.seq its.toArray n }) (hf:f its.toArray=its'.toArray) (hv:Vals ys its') (hz:ys.length<=zp) :
  Inv X pins σ (upd H l (.lst ys)) { s with heap:=s.heap.update l (Obj.mapSeq f),toks:=t' }:=by
 have q:=PySem.IsL.update e f;rw[hf]at q;refine I.write (x:=l) (e:=l) (by rw[hH];exact trivial) (.inl rfl) (fun b' u hb hu=>(zQ s.heap (Obj.mapSeq f) (Ne.symm hb)).trans hu) ⟨_,q⟩ ?_;exact⟨hz,its',_,hv,q⟩
theorem Inv.Rb{its:List Value}{t':Nat}(I:Inv X pins σ H s)(hv:Vals ys its)(hz:ys.length<=zp) :
  Inv X pins σ (upd H s.heap.objs.size (.lst ys)) { s with heap:=s.heap.push { cls:=.type "list",data:=.seq its.toArray },toks:=t' } :=
 I.laid (fun _ _ q=>zy _ q) (zr _) ⟨hz,its,0,hv,zk _ rfl⟩
theorem Inv.fresh(I:Inv X pins σ H s):H s.heap.objs.size=none:=I.av.fresh (zr _)
theorem Inv.pU(I:Inv X pins σ H s)(hH:H l=some (.lst xs)):xs.length<=zp/\∃(its:List Value) (n:Nat),Vals xs its/\xs.length=its.length/\s.heap.get? l=some { cls:=.type "list",data:=.seq its.toArray n }:=by
 obtain⟨z,its,n,r,e⟩:=I.av l _ hH;exact⟨z,its,n,r,r.length,e⟩
theorem tG{n:Nat}(h:n<=zp):Builtin.List.listTooLong n=false:=by
 unfold Builtin.List.listTooLong;exact decide_eq_false (by first|lia|omega)
end
section
variable {X:Cx}
def JT:V->List V->Hp->VK->Prop:=fun x vs H Q=>∃l xs y,x=.ref l/\vs=[y]/\H l=some (.lst xs)/\xs.length<zp/\Q .non (upd H l (.lst (xs++[y])))
theorem lC:Qy X "list.append" JT:=by
 intro pins s σ H x vs v us Q I rx rv h;obtain⟨l,xs,y,rfl,rfl,hH,hz,q⟩:=h;cases rx;obtain⟨u,rfl,ru⟩:=rv.one;obtain⟨z,its,n,r,hl,e⟩:=I.pU hH;refine call_meets F.slot_list_append ⟨_,e,rfl⟩ F.entry_list_append (F.args_list_append_2 _ _) (PySem.list_append l its.toArray n u (by rw[zl];omega)) ⟨e,?_⟩;refine⟨.non,_,I.Ga (its':=its++[u]) hH e (by simp) (r.append (.cons ru .nil)) ?_,rfl,q⟩;rw[zf,List.length_singleton];first|lia|omega
def JS:V->List V->Hp->VK->Prop:=fun x vs H Q=>∃l b xs zs,x=.ref l/\vs=[.ref b]/\H l=some (.lst xs)/\H b=some (.lst zs)/\xs.length+zs.length<=zp/\Q .non (upd H l (.lst (xs++zs)))
theorem DB:Qy X "list.extend" JS:=by
 intro pins s σ H x vs v us Q I rx rv h;obtain⟨l,b,xs,zs,rfl,rfl,hH,hB,hz,q⟩:=h;cases rx;obtain⟨u,rfl,ru⟩:=rv.one;cases ru;obtain⟨z,its,n,r,hl,e⟩:=I.pU hH;obtain⟨z2,bK,n2,r2,qE,e2⟩:=I.pU hB;have hsz:its.toArray.size+bK.toArray.size<=zp:=by rw[zl,zl];omega
 have BJ:¬ (!its.toArray.isEmpty&&Builtin.List.listTooLong (its.toArray.size+bK.toArray.size))=true:=by
  rw[tG hsz,wN];exact zt
 refine call_meets F.slot_list_extend ⟨_,e,rfl⟩ F.entry_list_extend (F.args_list_extend_2 _ _)
  (AutoSeq1.list_extend_list_list_0 l its.toArray n b bK.toArray n2 BJ (by rw[zl];omega) (by first|lia|omega)) ⟨e,e2,?_⟩
 refine⟨.non,_,I.Ga (its':=its++bK) hH e (by simp) (r.append r2) ?_,rfl,q⟩;rw[zf];first|lia|omega
def QX:R2:=fun x y H Q=>∃l b xs zs,x=.ref l/\y=.ref b/\H l=some (.lst xs)/\H b=some (.lst zs)/\xs.length+zs.length<=zp/\∀p,H p=none->Q (.ref p) (upd H p (.lst (xs++zs)))
theorem Mj:cL X (binaryOp .Add) QX:=by
 intro pins s σ H x y v u Q I rx ry h;obtain⟨l,b,xs,zs,rfl,rfl,hH,hB,hz,q⟩:=h;cases rx;cases ry;obtain⟨z,its,n,r,hl,e⟩:=I.pU hH;obtain⟨z2,bK,n2,r2,qE,e2⟩:=I.pU hB;refine PySem.P.add_list e e2 ?_ (by rw[zl,zl];omega);have ea:its.toArray++bK.toArray=(its++bK).toArray:=by simp
 rw[ea];exact⟨.ref _,_,I.Rb (t':=s.toks) (r.append r2) (by rw[zf];omega),rfl,q _ I.fresh⟩
end
section
variable {prog:Program}{w:World}{A:Around}{E:Value->Shared->Prop}{s:Shared}
set_option maxRecDepth 100000 in
end
section
variable {X:Cx}
end
end L2
namespace L2
open PySem PySem.Spec PyProof.Rows
section
variable {κ:Type}[DecidableEq κ]
def fC(kvs:List (κ×V))(k:κ):Option V:=(kvs.find? fun kv=>decide (kv.1=k)).map (·.2)
def putK(kvs:List (κ×V))(k:κ)(v:V):List (κ×V) :=
 if (kvs.any fun kv=>decide (kv.1=k))=true then kvs.map (fun kv=>if kv.1=k then (kv.1,v) else kv) else kvs++[(k,v)]
theorem jZ{p:κ×V}{r:List (κ×V)}{k:κ}(e:p.1=k):fC (p::r) k=some p.2:=by simp[fC,ye,e]
theorem j0{p:κ×V}{r:List (κ×V)}{k:κ}(e:¬ p.1=k):fC (p::r) k=fC r k:=by simp[fC,ye,e]
theorem rZ(k:κ):∀kvs:List (κ×V),(kvs.any fun kv=>decide (kv.1=k))=(fC kvs k).isSome
 |[]=>rfl
 |p::r=>by
  rw[yJ];by_cases e:p.1=k
  ·simp only[jZ e,decide_eq_true e,Bool.true_or,Option.isSome_some]
  ·rw[j0 e,decide_eq_false e,wS];exact rZ k r
theorem jB(kvs:List (κ×V))(k:κ)(v:V):(putK kvs k v).length<=kvs.length+1:=by
 unfold putK;split
 ·rw[zu];omega
 ·rw[zf,zi,yT];omega
theorem eM.hX{o:Option V}{u:Option Value}(r:eM o u):o.isSome=u.isSome:=by
 cases o with
 |none=>cases u with
  |none=>rfl
  |some _=>exact(show False from r).elim
 |some _=>cases u with
  |none=>exact(show False from r).elim
  |some _=>rfl
theorem KV.val{kvs:List (κ×V)}{vs:List (κ×Value)}(r:KV kvs vs)(k:κ):eM (fC kvs k) (valueAt vs k):=by
 unfold KV at r;induction r with
 |nil=>exact True.intro
 |@cons p q ps qs h t ih =>
  obtain⟨h1,h2⟩:=h;by_cases e:p.1=k
  ·have e':q.1=k:=h1.symm.trans e
   have b:valueAt (q::qs) k=some q.2:=by simp[valueAt,ye,e']
   rw[jZ e,b];exact h2
  ·have e':¬ q.1=k:=fun z=>e (h1.trans z)
   have b:valueAt (q::qs) k=valueAt qs k:=by simp[valueAt,ye,e']
   rw[j0 e,b];exact ih
theorem KV.any{kvs:List (κ×V)}{vs:List (κ×Value)}(r:KV kvs vs)(k:κ):(kvs.any fun kv=>decide (kv.1=k))=vs.any fun kv=>decide (kv.1=k):=by
 unfold KV at r;induction r with
 |nil=>rfl
 |cons h t ih=>rw[yJ,yJ,ih,h.1]
theorem KV.sJ{kvs:List (κ×V)}{vs:List (κ×Value)}(r:KV kvs vs)(k:κ){y:V}{u:Value}(ry:RelV y u) :
  KV (kvs.map fun kv=>if kv.1=k then (kv.1,y) else kv) (vs.map fun kv=>if kv.1=k then (kv.1,u) else kv):=by
 unfold KV at r ⊢;induction r with
 |nil=>exact .nil
 |@cons p q ps qs h t ih =>
  rw[zH,zH];refine .cons ?_ ih;obtain⟨h1,h2⟩:=h;by_cases e:p.1=k
  ·rw[if_pos e,if_pos (h1.symm.trans e)];exact⟨h1,ry⟩
  ·rw[if_neg e,if_neg (fun z=>e (h1.trans z))];exact⟨h1,h2⟩
theorem KV.put{kvs:List (κ×V)}{vs:List (κ×Value)}(r:KV kvs vs)(k:κ){y:V}{u:Value}(ry:RelV y u):KV (putK kvs k y) (stored vs k u):=by
 unfold putK stored;rw[r.any k];by_cases e:(vs.any fun kv=>decide (kv.1=k))=true
 ·rw[if_pos e,if_pos e];exact r.sJ k ry
 ·rw[if_neg e,if_neg e];exact Paired.snoc r ⟨rfl,ry⟩
theorem KV.length{kvs:List (κ×V)}{vs:List (κ×Value)}(r:KV kvs vs):kvs.length=vs.length:=Paired.length r
end
theorem mj{P:Program}{w:World}{k:Key}{u:Value}(r:RelV (kV k) u):(bO P w).is k u=true:=by
 cases k with
 |inl i=>obtain⟨t,e⟩:=(show ∃t,u=Value.int i t from r);subst e;exact uV P w i t
 |inr x=>obtain⟨t,e⟩:=(show ∃t,u=Value.str x t from r);subst e;exact uU P w x t
theorem qA{P:Program}{w:World}:∀{ks:List Key} {us:List Value},Vals (ks.map kV) us->ItemsAre (bO P w) ks us
 |[],_,r=>by rw[xf]at r;cases r;exact .nil
 |k::ks,_,r=>by
  rw[zH]at r;cases r with
  |cons h t=>exact .cons (mj h) (qA t)
abbrev KT(H:Hp):List (List Key×V)->List (List Key×Addr×Value)->Prop:=Paired fun p q=>p.1=q.1/\H q.2.1=some (.tup (p.1.map kV))/\RelV p.2 q.2.2
theorem KT.val{H:Hp}{kvs:List (List Key×V)}{xs:List (List Key×Addr×Value)}(r:KT H kvs xs)(k:List Key):eM (fC kvs k) ((atKey xs k).map (·.2)):=by
 induction r with
 |nil=>exact True.intro
 |@cons p q ps qs h t ih =>
  obtain⟨h1,_,h2⟩:=h;by_cases e:p.1=k
  ·have e':q.1=k:=h1.symm.trans e
   have b:atKey (q::qs) k=some q.2:=by simp[atKey,ye,e']
   rw[jZ e,b];exact h2
  ·have e':¬ q.1=k:=fun z=>e (h1.trans z)
   have b:atKey (q::qs) k=atKey qs k:=by simp[atKey,ye,e']
   rw[j0 e,b];exact ih
theorem KT.sJ{H:Hp}{kvs:List (List Key×V)}{xs:List (List Key×Addr×Value)}(r:KT H kvs xs)(k:List Key){y:V}{u:Value}(ry:RelV y u) :
  KT H (kvs.map fun kv=>if kv.1=k then (kv.1,y) else kv) (xs.map (putAt k u)):=by
 induction r with
 |nil=>exact .nil
 |@cons p q ps qs h t ih =>
  rw[zH,zH];refine .cons ?_ ih;obtain⟨h1,h2,h3⟩:=h;unfold putAt;by_cases e:p.1=k
  ·rw[if_pos e,if_pos (h1.symm.trans e)];exact⟨h1,h2,ry⟩
  ·rw[if_neg e,if_neg (fun z=>e (h1.trans z))];exact⟨h1,h2,h3⟩
theorem KT.put{H:Hp}{kvs:List (List Key×V)}{xs:List (List Key×Addr×Value)}(r:KT H kvs xs)(k:List Key){b:Addr}{y:V}{u:Value}(hb:H b=some (.tup (k.map kV)))(ry:RelV y u) :
  KT H (putK kvs k y) (storedH xs k b u):=by
 have e:(kvs.any fun kv=>decide (kv.1=k))=(atKey xs k).isSome:=by
  rw[rZ,(r.val k).hX,xE]
 unfold putK storedH;rw[e];by_cases q:(atKey xs k).isSome=true
 ·rw[if_pos q,if_pos q];exact r.sJ k ry
 ·rw[if_neg q,if_neg q];exact Paired.snoc r ⟨rfl,hb,ry⟩
theorem KT.keeps{H H':Hp}{kvs:List (List Key×V)}{xs:List (List Key×Addr×Value)}(r:KT H kvs xs)(ht:∀b ys,H b=some (.tup ys)->H' b=some (.tup ys)):KT H' kvs xs :=
 Paired.pT r fun _ _ z=>⟨z.1,ht _ _ z.2.1,z.2.2⟩
section
variable {P:Program}{w:World}{H:Hp}{h:Heap}{a:Addr}
theorem HE{u:HO}(ok:bX P w H h)(e:Rd H a u):bJ P w H h a u:=e.ok ok
theorem jb{kvs:List (Key×V)}(ok:bX P w H h)(e:Rd H a (.dK kvs)):kvs.length<=zp/\(a==sysModules)=false/\∃vs,KV kvs vs/\h.DictOf (bO P w) a vs :=
 show bJ P w H h a (.dK kvs) from HE ok e
theorem Ja{kvs:List (Key×V)}(ok:bX P w H h)(e:H a=some (.dK kvs)):kvs.length<=zp/\(a==sysModules)=false/\∃vs,KV kvs vs/\h.DictOf (bO P w) a vs:=jb ok (.inl e)
theorem key_of{ks:List Key}(ok:bX P w H h)(e:H a=some (.tup (ks.map kV))):(tupleKind (bO P w)).is h ks a:=by
 obtain⟨_,its,r,⟨o,h1,h2,n,h3⟩,_⟩:=(show bJ P w H h a (.tup (ks.map kV)) from ok a _ e);exact⟨o,its.toArray,n,h1,h2,h3,by simpa using qA r⟩
theorem oN{kvs:List (List Key×V)}(ok:bX P w H h)(e:Rd H a (.dT kvs)):kvs.length<=zp/\(a==sysModules)=false /\
  ∃xs,KT H kvs xs/\h.DictOfH (tupleKind (bO P w)) a xs:=by
 obtain⟨z,y,xs,r,o,es,ep,h1,h2,h3,h4,h5⟩:=(show bJ P w H h a (.dT kvs) from HE ok e);refine⟨z,y,xs,r,o,es,ep,h1,h2,h3,h4,fun x hx=>?_,h5⟩;have all:∀{l:List (List Key×V)} {m:List (List Key×Addr×Value)},KT H l m->∀x∈m,(tupleKind (bO P w)).is h x.1 x.2.1:=by
  intro l m q;induction q with
  |nil=>intro x hx;exact nomatch hx
  |@cons p q ps qs hq t ih =>
   intro x hx;rcases zg.mp hx with e|hx
   ·subst e
    exact key_of ok (by rw[<- hq.1];exact hq.2.1)
   ·exact ih x hx
 exact all r x hx
theorem O3{kvs:List (List Key×V)}(ok:bX P w H h)(e:H a=some (.dT kvs)):kvs.length<=zp/\(a==sysModules)=false /\
  ∃xs,KT H kvs xs/\h.DictOfH (tupleKind (bO P w)) a xs:=oN ok (.inl e)
end
def iX(H:Hp)(a:Addr)(y:V)(r:Option V):Prop :=
 (∃kvs k,Rd H a (.dK kvs)/\y=kV k/\r=fC kvs k)\/∃kvs k b,Rd H a (.dT kvs)/\y=.ref b/\H b=some (.tup (k.map kV))/\r=fC kvs k
def Cr(H:Hp)(a:Addr)(y v:V)(H':Hp):Prop :=
 (∃kvs k,H a=some (.dK kvs)/\y=kV k/\kvs.length<zp/\H'=upd H a (.dK (putK kvs k v))) \/
 ∃kvs k b,H a=some (.dT kvs)/\y=.ref b/\H b=some (.tup (k.map kV))/\kvs.length<zp/\H'=upd H a (.dT (putK kvs k v))
theorem iX.k{H:Hp}{a:Addr}{kvs:List (Key×V)}{k:Key}(e:H a=some (.dK kvs)):iX H a (kV k) (fC kvs k):=.inl ⟨kvs,k,.inl e,rfl,rfl⟩
theorem Cr.k{H:Hp}{a:Addr}{kvs:List (Key×V)}{k:Key}{v:V}(e:H a=some (.dK kvs))(hl:kvs.length<zp):Cr H a (kV k) v (upd H a (.dK (putK kvs k v))):=.inl ⟨kvs,k,e,rfl,hl,rfl⟩
section
variable {X:Cx}{pins:List (Addr×Obj)}{σ:St}{H:Hp}{s:Shared}{a:Addr}{y v:V}{u r:Value}{o:Option V}{A:Around}{E:Value->Shared->Prop}
theorem Inv.big(I:Inv X pins σ H s):sysModules<s.heap.objs.size:=by
 have h:mainGlobals<s.heap.objs.size:=(I.mod.glob.keeps I.bk).lt;exact Nat.lt_trans (by decide) h
theorem EF{Q:Value->Shared->Prop}(hu:A.units+1<cLine)(I:Inv X pins σ H s)(g:iX H a y (some v))(ry:RelV y u)(h:∀w' s',Inv X pins σ H s'->RelV v w'->Q w' s') :
  wpAny (model X.prog X.w) A (getItem (.ref a) u) Q E s:=by
 rcases g with ⟨kvs,k,e,ey,l⟩|⟨kvs,k,b,e,ey,eb,l⟩
 ·subst ey
  obtain⟨z,hd,vs,rel,dd⟩:=jb I.av e;obtain⟨w',hw,rw'⟩:=eM.some_of (v:=v) (o:=valueAt vs k) (by rw[l];exact rel.val k);exact wpAny_getItem_of (mj ry) dd.mapOf hw (h w' _ (I.tok _) rw')
 ·subst ey
  cases (show u=Value.ref b from ry);obtain⟨z,hd,xs,rel,dd⟩:=oN I.av e;obtain⟨w',hw,rw'⟩:=eM.some_of (v:=v) (o:=(atKey xs k).map (·.2)) (by rw[l];exact rel.val k);obtain⟨p,hp,U4⟩:=zo.mp hw;refine wpAny_getItem_heap (tupleKind_room_in1 hu) (key_of I.av eb) dd hp ?_;rw[U4];exact h w' _ (I.tok _) rw'
theorem Rz{Q:Value->Shared->Prop}(hu:A.units+1<cLine)(I:Inv X pins σ H s)(g:iX H a y o)(ry:RelV y u)(h:∀s',Inv X pins σ H s'->Q (.bool o.isSome) s') :
  wpAny (model X.prog X.w) A (compareOp .In u (.ref a)) Q E s:=by
 rcases g with ⟨kvs,k,e,ey,l⟩|⟨kvs,k,b,e,ey,eb,l⟩
 ·subst ey
  obtain⟨z,hd,vs,rel,dd⟩:=jb I.av e;refine wpAny_in_of (mj ry) hd dd.mapOf ?_;rw[<- (rel.val k).hX,<- l];exact h _ (I.tok _)
 ·subst ey
  cases (show u=Value.ref b from ry);obtain⟨z,hd,xs,rel,dd⟩:=oN I.av e;refine wpAny_in_heap (tupleKind_room_in1 hu) (key_of I.av eb) hd dd ?_;have q:=(rel.val k).hX;rw[xE]at q;rw[<- q,<- l];exact h _ (I.tok _)
theorem Kx{Q:Value->Shared->Prop}(hu:A.units+1<cLine)(I:Inv X pins σ H s)(g:iX H a y o)(ry:RelV y u)(h:∀s',Inv X pins σ H s'->Q (.bool (!o.isSome)) s') :
  wpAny (model X.prog X.w) A (compareOp .NotIn u (.ref a)) Q E s:=by
 rcases g with ⟨kvs,k,e,ey,l⟩|⟨kvs,k,b,e,ey,eb,l⟩
 ·subst ey
  obtain⟨z,hd,vs,rel,dd⟩:=jb I.av e;refine wpAny_notIn_of (mj ry) hd dd.mapOf ?_;rw[<- (rel.val k).hX,<- l];exact h _ (I.tok _)
 ·subst ey
  cases (show u=Value.ref b from ry);obtain⟨z,hd,xs,rel,dd⟩:=oN I.av e;refine wpAny_notIn_heap (tupleKind_room_in1 hu) (key_of I.av eb) hd dd ?_;have q:=(rel.val k).hX;rw[xE]at q;rw[<- q,<- l];exact h _ (I.tok _)
theorem qa{h':Heap}{t':Nat}{ob:HO}(I:Inv X pins σ H s)(mu:E5 (H a))(hs:Heap.SameBut a s.heap h')(he:∃q,h'.get? a=some q)(new:bJ X.prog X.w (upd H a ob) h' a ob) :
  Inv X pins σ (upd H a ob) { s with heap:=h',toks:=t' } :=
 I.write (x:=a) (e:=a) mu (.inl rfl) (fun b q hb z=>(hs.2 b hb).trans z) he new
theorem EC{P:Program}{w:World}{H':Hp}{h':Heap}{kvs:List (Key×V)}{vs:List (Key×Value)}(z:kvs.length<=zp)(hd:(a==sysModules)=false)(rel:KV kvs vs)(dd:h'.DictOf (bO P w) a vs) :
  bJ P w H' h' a (.dK kvs):=⟨z,hd,vs,rel,dd⟩
theorem ED{H':Hp}{Q:Unit->Shared->Prop}(hu:A.units+1<cLine)(I:Inv X pins σ H s)(g:Cr H a y v H')(ry:RelV y u)(rv:RelV v r)(h:∀s',Inv X pins σ H' s'->Q () s') :
  wpAny (model X.prog X.w) A (setItem (.ref a) u r) Q E s:=by
 rcases g with ⟨kvs,k,e,ey,l,eH⟩|⟨kvs,k,b,e,ey,eb,l,eH⟩
 ·subst ey eH
  obtain⟨z,hd,vs,rel,dd⟩:=Ja I.av e;have hz:vs.length<=zp:=by rw[<- rel.length];exact z
  have hl:(putK kvs k v).length<=zp:=by have:=jB kvs k v;omega
  refine wpAny_setItem_pairs (hsz:=hz) (mj ry) dd fun h' dd' hs=>h _ ?_;have he:∃q,h'.get? a=some q:=let ⟨q,_,_,hq,_⟩:=dd';⟨q,hq⟩;exact qa I (by rw[e];exact True.intro) hs he (EC hl hd (rel.put k rv) dd')
 ·subst ey eH
  cases (show u=Value.ref b from ry);obtain⟨z,hd,xs,rel,dd⟩:=O3 I.av e;have hz:xs.length<=zp:=by rw[<- Paired.length rel];exact z
  have hl:(putK kvs k v).length<=zp:=by have:=jB kvs k v;omega
  refine wpAny_setItem_heap (hsz:=hz) (tupleKind_room_in1 hu) (key_of I.av eb) dd fun h' dd' hs=>h _ ?_;obtain⟨q,es,ep,hq,h2,h3,h4,_,h5⟩:=dd';refine qa I (by rw[e];exact True.intro) hs ⟨q,hq⟩ ⟨hl,hd,_,(rel.put k eb rv).keeps fun c ys ec=>?_,q,es,ep,hq,h2,h3,h4,h5⟩;rw[aB (Bq ec e (fun z=>nomatch z))];exact ec
end
section
variable {X:Cx}{pins:List (Addr×Obj)}{σ:St}{H:Hp}{s:Shared}{a:Addr}{kvs:List (Key×V)}{k:Key}{u:Value}{A:Around}{E:Value->Shared->Prop}
theorem O5{Q:Value->Shared->Prop}(I:Inv X pins σ H s)(e:Rd H a (.dK kvs))(h:∀t s',Inv X pins σ H s'->Q (.int kvs.length t) s'):wpAny (model X.prog X.w) A (call (.builtin "len") [.ref a]) Q E s:=by
 obtain⟨z,hd,vs,rel,dd⟩:=jb I.av e;refine call_len_dict hd dd (by rw[<- rel.length];rw[sizeLine_eq]at z;omega) ?_;rw[<- rel.length];exact h _ _ (I.tok _)
end
theorem uX{X:Cx}{pins:List (Addr×Obj)}{σ:St}{H:Hp}{s:Shared}{a:Addr}{y:V}{o:Option V}(I:Inv X pins σ H s)(g:iX H a y o):s.TypeIs (.ref a) "dict":=by
 rcases g with ⟨kvs,k,e,_,_⟩|⟨kvs,k,b,e,_,_,_⟩
 ·obtain⟨_,_,vs,_,dd⟩:=jb I.av e
  exact dd.typeIs
 ·obtain⟨_,_,xs,_,dd⟩:=oN I.av e
  exact dd.typeIs
section
variable {X:Cx}{o i e value:Expr}{pos pos' QM:Pos}{td ty tv:TE}
end
theorem uh{P:Program}{w:World}{H:Hp}(h:Heap)(hb:sysModules<h.objs.size):bJ P w H (h.push { cls:=.type "dict",data:=.dict #[] }) h.objs.size (.dK []) :=
 ⟨yq _,beq_eq_false_iff_ne.mpr (Ne.symm (zA hb)),[],.nil,Heap.DictOf.new h⟩
def CM:TE:=fun _ H Q=>∀p,H p=none->Q (.ref p) (upd H p (.dK []))
section
variable {X:Cx}{pos:Pos}
theorem FU:PE X (.Dict [] [] pos) CM:=fun pins s σ H Q I h =>
 wpAny_Dict_empty ⟨.ref s.heap.objs.size,_,I.laid (a:=s.heap.objs.size) (o:=.dK []) (t':=s.toks) (fun _ _ q=>zy _ q) (zr _) (uh s.heap I.big),rfl,h _ (I.av.fresh (zr _))⟩
end
def k9:List (TE×TE)->St->Hp->(List (V×V)->Hp->Prop)->Prop
 |[],_,H,Q=>Q [] H
 | (tk,tv)::r,σ,H,Q=>tk σ H fun x H1=>tv σ H1 fun y H2=>k9 r σ H2 fun ps H3=>Q ((x,y)::ps) H3
abbrev VV:List (V×V)->List (Value×Value)->Prop:=Paired fun p q=>RelV p.1 q.1/\RelV p.2 q.2
def E3(X:Cx)(pos:Pos)(keys:List (Option Expr))(values:List Expr)(gW:List (TE×TE)):Prop :=
 ∀(pins:List (Addr×Obj)) (s:Shared) (σ:St) (H:Hp) (Q:List (V×V)->Hp->Prop),Inv X pins σ H s->k9 gW σ H Q ->
  wpAny (model X.prog X.w) X.A (evalPairs (pairTrees keys values X.env pos)) (fun vs s'=>∃ps H',Inv X pins σ H' s'/\VV ps vs/\Q ps H') X.xe s
theorem JY{X:Cx}{pos:Pos}:E3 X pos [] [] []:=fun pins s σ H Q I h=>pairTrees_nil_walk ⟨[],H,I,.nil,h⟩
theorem FN{X:Cx}{pos:Pos}{k v:Expr}{ks:List (Option Expr)}{vs:List Expr}{tk tv:TE}{gW:List (TE×TE)}(hk:PE X k tk)(hv:PE X v tv)(hr:E3 X pos ks vs gW) :
  E3 X pos (some k::ks) (v::vs) ((tk,tv)::gW):=fun pins s σ H Q I h =>
 pairTrees_cons_walk (aF (hk pins s σ H _ I h) fun u s1 ⟨x,H1,I1,rx,q1⟩=>aF (hv pins s1 σ H1 _ I1 q1) fun w2 s2 ⟨y,H2,I2,ry,q2⟩ =>
  aF (hr pins s2 σ H2 _ I2 q2) fun ws s3 ⟨ps,H3,I3,rel,q3⟩=>⟨(x,y)::ps,H3,I3,.cons ⟨rx,ry⟩ rel,q3⟩)
def hV(kvs more:List (Key×V)):List (Key×V):=more.foldl (fun acc kv=>putK acc kv.1 kv.2) kvs
theorem KV.merge:∀{more:List (Key×V)} {rs:List (Key×Value)} {kvs:List (Key×V)} {vs:List (Key×Value)},KV more rs->KV kvs vs->KV (hV kvs more) (merged vs rs):=by
 intro more rs kvs vs r;unfold KV at r;induction r generalizing kvs vs with
 |nil=>intro q;exact q
 |@cons p q ps qs h t ih =>
  intro r0;have e:KV (putK kvs p.1 p.2) (stored vs q.1 q.2):=by
   have:=r0.put p.1 h.2
   rw[<- h.1];exact this
  exact ih e
theorem kL:∀(more kvs:List (Key×V)),(hV kvs more).length<=kvs.length+more.length
 |[],kvs=>by show kvs.length<=kvs.length+0;omega
 |p::r,kvs=>by
  have h1:=kL r (putK kvs p.1 p.2);have h2:=jB kvs p.1 p.2;show (hV (putK kvs p.1 p.2) r).length<=_;rw[zi];omega
theorem oU{P:Program}{w:World}:∀{kvs:List (Key×V)} {ws:List (Value×Value)},VV (kvs.map fun kv=>(kV kv.1,kv.2)) ws->∃rs,Carries (bO P w) ws rs/\KV kvs rs
 |[],_,r=>by rw[xf]at r;cases r;exact⟨[],True.intro,.nil⟩
 |p::kvs,_,r=>by
  rw[zH]at r;cases r with
  |@cons a b as bs h t =>
   obtain⟨rs,c,q⟩:=oU (P:=P) (w:=w) t;obtain⟨b1,b2⟩:=b;exact⟨(p.1,b2)::rs,⟨mj h.1,rfl,c⟩,.cons ⟨rfl,h.2⟩ q⟩
def Hu(gW:List (TE×TE)):TE:=fun σ H Q=>∀p,H p=none->k9 gW σ (upd H p (.dK [])) fun ps H2=>H2 p=some (.dK [])/\∃kvs:List (Key×V),ps=kvs.map (fun kv=>(kV kv.1,kv.2))/\kvs.length<=15/\Q (.ref p) (upd H2 p (.dK (hV [] kvs)))
theorem J4{X:Cx}{pos:Pos}{keys:List (Option Expr)}{values:List Expr}{gW:List (TE×TE)}(h:E3 X pos keys values gW)(GB:keys.all (·.isSome)=true)(hl:keys.length=values.length)(h0:keys≠[])
  (VC:keys.length<=15):PE X (.Dict keys values pos) (Hu gW):=by
 intro pins s σ H Q I q;have hn:=I.av.fresh (zr s.heap.objs.size);have I1:=I.laid (a:=s.heap.objs.size) (o:=.dK []) (h':=s.heap.push { cls:=.type "dict",data:=.dict #[] }) (t':=s.toks) (fun _ _ q=>zy _ q) (zr _) (uh s.heap I.big);refine wpAny_Dict_walk (knd:=bO X.prog X.w) GB hl h0 VC (aF (h pins _ σ _ _ I1 (q _ hn)) fun ws s2 ⟨ps,H2,I2,rel,e,kvs,ep,lk,q2⟩=>?_);subst ep;obtain⟨rs,c,rk⟩:=oU (P:=X.prog) (w:=X.w) rel;obtain⟨z,hd,Xx,r0,dd⟩:=Ja I2.av e;cases r0;refine⟨rs,c,dd,fun h' dd' hs=>⟨.ref s.heap.objs.size,_,?_,rfl,q2⟩⟩;have hz:(hV [] kvs).length<=zp:=by
  have h1:=kL kvs [];rw[yT]at h1;rw[sizeLine_eq];omega
 have he:∃q,h'.get? s.heap.objs.size=some q:=let ⟨q,_,_,hq,_⟩:=dd';⟨q,hq⟩;exact qa I2 (by rw[e];exact True.intro) hs he (EC hz hd (rk.merge .nil) dd')
section
variable {X:Cx}{pins:List (Addr×Obj)}{σ:St}{H:Hp}{s:Shared}{a:Addr}{y d:V}{u r:Value}{o:Option V}{A:Around}{E:Value->Shared->Prop}
end
section
variable {X:Cx}{o e f:Expr}{apos cpos:Pos}{td ty tx:TE}
end
section
variable {X:Cx}{pins:List (Addr×Obj)}{σ:St}{H:Hp}{s:Shared}{a:Addr}{kvs:List (Key×V)}{A:Around}{E:Value->Shared->Prop}
end
section
variable {X:Cx}{pins:List (Addr×Obj)}{σ:St}{H:Hp}{s:Shared}{a:Addr}{y:V}{u:Value}{A:Around}{E:Value->Shared->Prop}
end
end L2
namespace QE
open PySem PySem.W PySem.Calls PyProof.Rows
theorem oy{P:Params}{h:Heap}:∀(ns:List Int) (vs:List Value),WellAll P h vs (ns.map WData.int)->IntsAre vs ns:=by
 intro ns;induction ns with
 |nil =>
  intro vs w;rw[xf]at w;cases w;exact .nil
 |cons n ns ih =>
  intro vs w;rw[zH]at w;cases w with
  |cons a b =>
   cases a;exact .cons _ _ (ih _ b)
theorem CV{l:OpenLaw}{n:Nat}(hn:l.most=some n){P:Params}{h:Heap}{args:List WData}{vals:List Value}
  (BI:l.row.toRowW.claim.pre args=true) (MV:WellAll P h vals args) :
  ∃a vs ns,vals=[Value.ref a]/\args=[WData.list (ns.map WData.int)]/\h.get? a=some { cls:=.type "list",data:=.seq vs.toArray }/\IntsAre vs ns/\ns.length<=n:=by
 have UZ:WShape.hasAll [] args [.list .int]=true:=(pre_splitW BI).1;have hc:l.pre.holds [] { args:=args }=true:=(pre_splitW BI).2;obtain⟨d,r,rfl,h1,h2⟩:=hasAllW_cons UZ;obtain rfl:=hasAllW_nil h2;obtain⟨xs,rfl,h3⟩:=hasW_list h1;obtain⟨ns,rfl⟩:=items_int h3;have hlen:ns.length<=n:=by
  unfold OpenLaw.pre at hc;have h4:(WTm.not (.lt (.lit (.int (n:Int))) (.len (.arg 0)))).holds [] { args:=[.list (ns.map .int)] }=true:=by
   have h4:=(holds_andW hc).1;rw[hn]at h4;exact h4
  have h5:=condW_of h4 (w_not (w_lt w_lit (w_len_list (w_arg rfl))));rw[zu]at h5;refine wB fun q=>?_;have q':(n:Int)<((ns.length:Nat):Int):=by first|lia|omega
  first
   | (rw[decide_eq_true q']at h5;exact absurd h5 (by decide))
   | (simp at h5;omega)
 cases MV with
 |cons w1 w2 =>
  cases w2;cases w1 with
  |list ho GB=>exact⟨_,_,ns,rfl,rfl,ho,oy ns _ GB,hlen⟩
theorem Dh(l:OpenLaw)(args:List WData):l.row.toRowW.claim.post args (.bool true) args=true :=
 postW_of (r:=l.row.toRowW) (X:=(true==true))
  (show WShape.has [] (.bool true) .bool=true by first|rfl|decide|simp[WShape.has,WShape.arms,WShape.armsAll])
  (show (WTm.eq .res (.lit (.bool true))).value [] { args:=args,res:=some (.bool true),after:=args }=some (.bool (true==true)) from w_eq_bool (w_res rfl) w_lit) rfl
theorem u0{l:OpenLaw}{n:Nat}{q:Program}{loose:List Str}{XP:(Str->Option Value)->Heap->Prop}{YP:World->Heap->Prop}{d:DefRec}
  (hn:l.most=some n) (Np:d.params.defaults=[])
  (call:∀(w:World) (s₀ s₁:Shared) (mg mb:Str->Option Value) (fa:Addr) (o:Obj) (pm cd doc:Value) (a:Addr) (vs:List Value) (ns:List Int),
   Ground q loose [] XP w s₀ mg mb s₁.heap->YP w s₁.heap ->
   s₁.heap.get? fa=some o->o.data=.func (docDef d.name d.params d.body d.scope pm cd doc)->s₁.heap.CodeRec cd d.name->mg d.name=some (.ref fa) ->
   s₁.heap.get? a=some { cls:=.type "list",data:=.seq vs.toArray }->IntsAre vs ns->ns.length<=n->s₁.gens=#[] ->
   codeAny (model l.prog w) callerA (.call (.ref fa) ⟨[.ref a],[]⟩) (fun r s'=>r=.ok (.ret (.bool true))/\OldK s₁.heap s'.heap/\s'.os=s₁.os/\AllBare s'.gens) s₁) :
  WalkO q loose XP YP l.row.toRowW d [] (fun f vs=>PySem.call f vs):=by
 intro w s₀ s₁ mg mb G Y fa o pm cd doc dV kV ho hd jV hD qD hg args vals as BI Xo XM MV XQ;obtain rfl:dV=.none:=Dflts.none hD Np;obtain rfl:kV=.none:=Dflts.noKw hD;obtain⟨a,vs,ns,rfl,rfl,Gq,hints,hlen⟩:=CV hn BI MV;refine enter_call (codeAny_mono (call w s₀ s₁ mg mb fa o pm cd doc a vs ns G Y ho (fd_plain hd) jV qD Gq hints hlen hg) fun r s' hq=>?_);obtain⟨rfl,h2,h3,h4⟩:=hq;exact⟨.inl ⟨.bool true,.bool true,[],rfl,fun _=>rfl,.bool true,Dh l _,fun _=>⟨List.Pairwise.nil,fun _ hm=>(nomatch hm)⟩⟩,h2,h3,h4⟩
section
variable {prog:Program}{w:World}{A:Around}{E:Value->Shared->Prop}{s:Shared}{K:Frag}
end
end QE
namespace L2
open PySem PySem.Spec PyProof.Rows
theorem ql:∀{vs:List Value} {ns:List Int},IntsAre vs ns->Vals (ns.map V.int) vs
 |_,_,.nil=>.nil
 |_,_,.cons n t h=>.cons ⟨t,rfl⟩ (ql h)
def Cp(H:Hp):Prop:=∀b,H b=none\/∃o xs,H b=some (.frz o (.lst xs))
theorem Ge{P:Program}{w:World}{K:Q_}{mg mb:Str->Option Value}{CX:kS}{k:Nat}{fa a:Addr}{fd:FuncData}{x:Str}{sp:Sp}{s₁:Shared}{vs:List Value}{ns:List Int}
  (KX:K.In s₁.heap) (Iy:s₁.heap.Ns mainGlobals mg) (hb:s₁.heap.Ns builtinsNs mb) (hbb:∀x:Str,x≠"__name__"->mb x=bootBuiltins x) (Rm:s₁.heap.NoLimit) (hg:s₁.gens=#[])
  (ha:s₁.heap.get? a=some { cls:=.type "list",data:=.seq vs.toArray }) (hi:IntsAre vs ns) (hl:ns.length<=zp) (hr:bG k callerA)
  (F:∀base:Heap,K.In base->base.Ns mainGlobals mg->cq P w K mg base CX k fa fd [x] sp) (hbind:∀(s:Shared) (u:Value),BindsTo s fd ⟨[u],[]⟩ [(x,u)])
  (hsp:∀H:Hp,Cp H->aJ K H a (ns.map V.int)->sp [.ref a] H (fun v _=>v=.bl true) fun _ _ _=>False)
  (hCX:∀H e s',CX [] H s₁ (fun _ _ _=>False) e s'->False) :
  codeAny (model P w) callerA (.call (.ref fa) ⟨[.ref a],[]⟩) (fun r s'=>r=.ok (.ret (.bool true))/\OldK s₁.heap s'.heap/\s'.os=s₁.os/\AllBare s'.gens) s₁:=by
 have rv:=ql hi;have Rf:=hi.length;have core:∀H:Hp,Cp H->aJ K H a (ns.map V.int)->bX P w H s₁.heap->(∀b,H b≠none->b=a)->(H a≠none->K.lookup a=none) ->
   codeAny (model P w) callerA (.call (.ref fa) ⟨[.ref a],[]⟩) (fun r s'=>r=.ok (.ret (.bool true))/\OldK s₁.heap s'.heap/\s'.os=s₁.os/\AllBare s'.gens) s₁:=by
  intro H hO hS av hA hK;have mw:∀{b:Addr} {o:Obj},s₁.heap.get? b=some o->H b=none->(kA s₁.heap H).get? b=some o:=fun e n=>Gv e n;have noA:∀{b:Addr} {o:Obj} {es:Array DictEntry} {ep:Nat},s₁.heap.get? b=some o->o.data=.dict es ep->H b=none:=fun {b o es ep} e d=>by
   cases q:H b with
   |none=>rfl
   |some u =>
    have e':b=a:=hA b (by rw[q];simp);subst e';rw[ha]at e;cases e;have d':Data.seq vs.toArray _=Data.dict es ep:=d;cases d'
  have nsK:∀{b:Addr} {m:Str->Option Value},s₁.heap.Ns b m->(kA s₁.heap H).Ns b m:=fun {b m} ⟨o,es,ep,e,d,r⟩=>⟨o,es,ep,mw e (noA e d),d,r⟩;have Qh:K.In (kA s₁.heap H):=fun b o e=>mw (KX b o e) (by
   cases q:H b with
   |none=>rfl
   |some u =>
    have e':b=a:=hA b (by rw[q];simp);subst e';rw[hK (by rw[q];simp)]at e;cases e)
  have hM:Mod K mg (kA s₁.heap H):=⟨Qh,nsK Iy,⟨mb,nsK hb,hbb⟩,let ⟨mc,h1,h2⟩:=Rm;⟨mc,nsK h1,h2⟩⟩;have e0:lR P w K mg (kA s₁.heap H) callerA [] s₁ H:=⟨rfl,hM,fun b o e=>J9 e,yH (D9 _ _),trivial,fun b hb=>absurd (show b∈([]:List Addr) from hb) (by simp),av,.of_eq hg⟩;refine codeAny_mono ((F _ Qh (nsK Iy)).run callerA [] s₁ H ⟨[.ref a],[]⟩ [.ref a] [.ref a] _ _ hr e0 (hbind s₁ (.ref a)) (.cons rfl .nil) (hsp H hO hS)) fun r s' h=>?_;cases r with
  |error e=>exact(hCX H e s' h).elim
  |ok fl =>
   cases fl with
   |next=>exact False.elim h
   |brk=>exact False.elim h
   |cont=>exact False.elim h
   |ret u =>
    obtain⟨v,H',os,bare,un,hok',r',q⟩:=h;have q':v=.bl true:=q;subst q';obtain rfl:u=Value.bool true:=r';refine⟨rfl,OldK.of_keep fun b o e=>?_,os,bare⟩;cases q:H b with
    |none=>exact un.keep b o e q (by intro z;exact absurd (show b∈([]:List Addr) from z) (by simp)) (by simp)
    |some u =>
     rcases hO b with z|⟨ob,xs,z⟩
     ·rw[q]at z;cases z
     ·have z2:=un.gI b ob _ z
      obtain⟨e1,_⟩:=av b _ z;obtain⟨e2,_⟩:=hok' b _ z2;rw[e]at e1;cases e1;exact e2
 cases hk:K.lookup a with
 |some o =>
  have e:=KX a o hk;rw[ha]at e;cases e;refine core (fun _=>none) (fun _=>.inl rfl) (.inr ⟨_,vs.toArray,_,hk,rfl,rfl,rfl,by rw[zl,Rf];exact hl,by simpa using rv⟩) (fun b u z=>by have z':(none:Option HO)=some u:=z;cases z') (fun b z=>absurd rfl z) fun z=>absurd rfl z
 |none =>
  refine core (fun b=>if b=a then some (.frz { cls:=.type "list",data:=.seq vs.toArray } (.lst (ns.map V.int))) else none) (fun b=>?_) (.inl (.inr ⟨{ cls:=.type "list",data:=.seq vs.toArray },if_pos rfl⟩)) (fun b u z=>?_) (fun b z=>?_) fun _=>hk
  ·by_cases hb:b=a
   ·exact .inr ⟨_,_,if_pos hb⟩
   ·exact .inl (if_neg hb)
  ·by_cases hb:b=a
   ·have z':=(if_pos hb).symm.trans z
    cases z';subst hb;exact⟨ha,by rw[zu];exact hl,vs,_,rv,ha⟩
   ·have z':=(if_neg hb).symm.trans z
    cases z'
  ·by_cases hb:b=a
   ·exact hb
   ·exact absurd (if_neg hb) z
end L2
namespace L2
open PySem PySem.Spec PyProof.Rows
end L2
namespace L2
open PySem PySem.Spec PyProof.Rows
def bx(s:Stmt):Arguments:=match s with
 |.FunctionDef _ a _ _ _ _ _ _ _ _=>a
 |_=>{ posonlyargs:=[],args:=[],vararg:=none,kwonlyargs:=[],kw_defaults:=[],kwarg:=none,defaults:=[] }
def aN(s:Stmt):List Stmt:=match s with
 |.FunctionDef _ _ b _ _ _ _ _ _ _=>b
 |_=>[]
def aj(s:Stmt):Scope:=match s with
 |.FunctionDef _ _ _ _ _ _ sc _ _ _=>sc
 |_=>{ kind:=.function,names:=[],isGenerator:=false,isCoroutine:=false }
abbrev jA:kS:=fun _ _ _ _ _ _=>False
abbrev E0:XK:=fun _ _ _=>False
theorem oh{X:Cx}:Passes jA X E0:=fun _ _ _ _ _ _ _ h=>h.elim
structure eC (K:Q_) (x qual:Str) (st:Stmt) (f:Addr) (fd:FuncData):Prop where
 ex:∃(oc:Value) (od:Option Addr) (kV doc pm:Value) (an:Option Addr) (cdv ct:Value) (iL:Array (Option Value)),
  fd=Z0 x qual (bx st) (aN st) (aj st) .none kV doc pm an cdv ct/\K.lookup f=some ⟨oc,od,.func fd,iL⟩/\Z7 K cdv qual=true
 kp:Z1 K (.ref f)=true
section
variable {P:Program}{w:World}{K:Q_}{mg:Str->Option Value}{base:Heap}
theorem eC.ok{x qual:Str}{st:Stmt}{f:Addr}{fd:FuncData}{N ps:List Str}{k:Nat}{sp:Sp}(F:eC K x qual st f fd)(S:bZ N ps (aj st))(len:∀vs H Q E,sp vs H Q E->vs.length=ps.length)
  (BM:∀(cdv:Value) (A:Around) (outer:List Env) (s:Shared) (H:Hp) (vs:List V) (Q:VK) (E:XK),bG k (A.deeper (envOfC qual (aj st) s.heap.objs.size f cdv))->sp vs H Q E ->
   ∃t,dB (et jA P w K mg base N qual (aj st) f cdv A outer s H E).d9 (aN st) t/\t { nx:=fun _ H'=>Q .non H',rt:=Q } (start N vs) H):cq P w K mg base jA (k+1) f fd ps sp:=by
 obtain⟨oc,od,kV,doc,pm,an,cdv,ct,iL,rfl,lk,jV⟩:=F.ex;refine IX lk jV S len fun A outer s H vs Q E hr hsp=>?_;obtain⟨t,h,q⟩:=BM cdv A outer s H vs Q E hr hsp;exact⟨t,h.d9,q⟩
theorem eC.binds{x qual:Str}{st:Stmt}{f:Addr}{fd:FuncData}{ps:List Str}(F:eC K x qual st f fd)
  (h:∀(kV doc pm:Value) (an:Option Addr) (cdv ct:Value) (us:List Value),us.length=ps.length->bindArgs (Z0 x qual (bx st) (aN st) (aj st) .none kV doc pm an cdv ct) ⟨us,[]⟩=pure (ps.zip us)):Binds K fd ps []:=by
 obtain⟨oc,od,kV,doc,pm,an,cdv,ct,iL,rfl,lk,jV⟩:=F.ex;exact .all (h kV doc pm an cdv ct)
theorem oM{x qual:Str}{st:Stmt}{f:Addr}{oc:Value}{od an:Option Addr}{iL:Array (Option Value)}{kV doc pm cdv ct:Value}(l:K.lookup f=some ⟨oc,od,.func (Z0 x qual (bx st) (aN st) (aj st) .none kV doc pm an cdv ct),iL⟩)
  (c:Z7 K cdv qual=true) (k:Z1 K (.ref f)=true):eC K x qual st f (Z0 x qual (bx st) (aN st) (aj st) .none kV doc pm an cdv ct):=⟨⟨oc,od,kV,doc,pm,an,cdv,ct,iL,rfl,l,c⟩,k⟩
end
section
variable {X:Cx}
end
end L2
set_option maxHeartbeats 4000000
namespace L3
open PySem
noncomputable abbrev Ky:=Sum Int Str
inductive D where
 |non|bl (b:Bool)|int (i:Int)|str (x:Str)|tup (ds:List D)|fl (ds:List D)|ob (i:Nat)
inductive MO where
 |lst (ds:List D)
 |aY (kvs:List (Ky×D))
 |ins (C:Nat) (fs:List (Str×D))
noncomputable abbrev MH:=List MO
inductive Out (α:Type) where
 |ok (a:α)
 |ex (c:Str) (ds:List D)
noncomputable def Mo(α:Type):=MH->Option (Out α×MH)
noncomputable def Mo.ret{α:Type}(a:α):Mo α:=fun M=>some (.ok a,M)
noncomputable def Mo.bind{α β:Type}(m:Mo α)(k:α->Mo β):Mo β:=fun M=>match m M with
 |none=>none
 |some (.ok a,M')=>k a M'
 |some (.ex c ds,M')=>some (.ex c ds,M')
noncomputable def Mo.stop{α:Type}:Mo α:=fun _=>none
noncomputable instance:Monad Mo where
 pure:=Mo.ret
 bind:=Mo.bind
theorem So{α:Type}(a:α)(M:MH):(pure a:Mo α) M=some (.ok a,M):=rfl
theorem run_bind{α β:Type}(m:Mo α)(k:α->Mo β)(M:MH):(m >>= k) M=match m M with
 |none=>none
 |some (.ok a,M')=>k a M'
 |some (.ex c ds,M')=>some (.ex c ds,M'):=rfl
inductive Pa {α β:Type} (m:Mo α) (k:α->Mo β) (M M':MH) (b:β):Prop
 |mk (a:α) (M1:MH) (e:m M=some (.ok a,M1)) (h:k a M1=some (.ok b,M'))
theorem aa{α β:Type}{m:Mo α}{k:α->Mo β}{M M':MH}{b:β}(h:(m >>= k) M=some (.ok b,M')):Pa m k M M' b:=by
 rw[run_bind]at h;split at h
 ·cases h
 ·rename_i a M1 e
  exact⟨a,M1,e,h⟩
 ·cases h
theorem pO{α β:Type}{m:Mo α}{k:α->Mo β}{M M1:MH}{a:α}(h:m M=some (.ok a,M1)):(m >>= k) M=k a M1:=by
 rw[run_bind,h]
noncomputable abbrev Ev:=List (Option D)
noncomputable def getM(i:Nat):Mo MO:=fun M=>match M[i]? with
 |some o=>some (.ok o,M)
 |none=>none
noncomputable def bu(o:MO):Mo D:=fun M=>some (.ok (.ob M.length),M++[o])
noncomputable def du(i:Nat)(o:MO):Mo Unit:=fun M=>if i<M.length then some (.ok (),M.set i o) else none
noncomputable def need(p:Prop)[Decidable p]:Mo Unit:=if p then pure () else Mo.stop
noncomputable def lift{α:Type}(o:Option α):Mo α:=match o with
 |some a=>pure a
 |none=>Mo.stop
noncomputable def getL(i:Nat):Mo (List D):=fun M=>match M[i]? with
 |some (.lst ds)=>some (.ok ds,M)
 |_=>none
noncomputable def getD(i:Nat):Mo (List (Ky×D)):=fun M=>match M[i]? with
 |some (.aY ds)=>some (.ok ds,M)
 |_=>none
noncomputable def putD(f:Str)(v:D):List (Str×D)->List (Str×D)
 |[]=>[(f,v)]
 | (g,x)::r=>if g=f then (g,v)::r else (g,x)::putD f v r
noncomputable def iT(i:Nat):Mo (Nat×List (Str×D)):=fun M=>match M[i]? with
 |some (.ins C fs)=>some (.ok (C,fs),M)
 |_=>none
noncomputable def ua(C:Nat)(f:Str):D->Mo D
 |.ob k=>do let p<-iT k;need (p.1=C);lift (p.2.lookup f)
 |_=>Mo.stop
noncomputable def setF(C:Nat)(f:Str)(v:D):D->Mo Unit
 |.ob k=>do let p<-iT k;need (p.1=C/\p.2.length<100);du k (.ins C (putD f v p.2))
 |_=>Mo.stop
noncomputable def ssE:D->Mo D
 |.ob k=>do let ds<-getL k;need (ds.isEmpty=true);bu (.lst [])
 |_=>Mo.stop
noncomputable def srE:D->Mo D
 |.ob k=>do let kvs<-getD k;need (kvs.isEmpty=true);bu (.lst [])
 |_=>Mo.stop
noncomputable def mnE(y:D):D->Mo D
 |.ob k=>do let ds<-getL k;need (ds.isEmpty=true);pure y
 |_=>Mo.stop
noncomputable def hY(C:Nat)(m:Str):D->Mo Unit
 |.ob k=>do let p<-iT k;need (p.1=C/\(p.2.lookup m).isNone=true)
 |_=>Mo.stop
noncomputable def jU:D->Option Ky
 |.int i=>some (.inl i)
 |.str x=>some (.inr x)
 |_=>none
noncomputable def bC:D->Bool
 |.non=>true|.bl _=>true|.int _=>true|.str _=>true|_=>false
noncomputable def eP:D->D->Bool
 |.non,.non=>true
 |.bl a,.bl b=>a==b
 |.bl a,.int b=>(if a then 1 else 0)==b
 |.int a,.bl b=>a==(if b then 1 else 0)
 |.int a,.int b=>a==b
 |.str a,.str b=>a==b
 |_,_=>false
noncomputable def fR(f:D->D->Option Bool):List D->List D->Option Bool
 |[],[]=>some true
 |[],_::_=>some false
 |_::_,[]=>some false
 |x::xs,y::ys=>match f x y with
  |none=>none
  |some b=>match fR f xs ys with
   |none=>none
   |some c=>some (b&&c)
noncomputable def bP(M:MH):Nat->D->D->Option Bool
 |0,_,_=>none
 |n+1,x,y=>match x,y with
  |.tup xs,.tup ys=>fR (bP M n) xs ys
  |.ob i,.ob j=>(match M[i]?,M[j]? with
   |some (.lst xs),some (.lst ys)=>if xs.length=ys.length then fR (bP M n) xs ys else some false
   |_,_=>none)
  |.tup _,y=>if bC y=true then some false else none
  |x,.tup _=>if bC x=true then some false else none
  |x,y=>if (bC x&&bC y)=true then some (eP x y) else none
noncomputable def nB(x y:D):Mo Bool:=fun M=>match bP M 20 x y with
 |some b=>some (.ok b,M)
 |none=>none
noncomputable def ip(M:MH)(x:D):List D->Option Bool
 |[]=>some false
 |d::ds=>match bP M 8 d x with
  |none=>none
  |some b=>match ip M x ds with
   |none=>none
   |some c=>some (b||c)
noncomputable def ko(x:D)(ds:List D):Mo Bool:=fun M=>match ip M x ds with
 |some b=>some (.ok b,M)
 |none=>none
noncomputable def cV(kvs:List (Ky×D))(k:Ky):Option D:=(kvs.find? fun kv=>decide (kv.1=k)).map (·.2)
noncomputable def iy(kvs:List (Ky×D))(k:Ky)(v:D):List (Ky×D) :=
 if (kvs.any fun kv=>decide (kv.1=k))=true then kvs.map (fun kv=>if kv.1=k then (kv.1,v) else kv) else kvs++[(k,v)]
noncomputable def dK:Ky->D
 |.inl i=>.int i
 |.inr x=>.str x
noncomputable def sgn(c:Nat):D:=.str ⟨#[c]⟩
noncomputable def ow(n:Nat)(i:Int):Option Nat:=if 0<=i then (if i<n then some i.toNat else none) else if -(n:Int)<=i then some (i+n).toNat else none
noncomputable def dA{α:Type}(xs:List α)(i:Int):Option α:=(ow xs.length i).bind fun j=>xs[j]?
noncomputable def dh(n d:Nat):Option Int->Nat
 |none=>d
 |some v=>if v<0 then (v+(n:Int)).toNat else min v.toNat n
noncomputable def cutD{α:Type}(xs:List α)(lo hi:Option Int):List α:=(xs.drop (dh xs.length 0 lo)).take (dh xs.length xs.length hi-dh xs.length 0 lo)
noncomputable def CT(j i:Str):Bool:=!(Builtin.Str.occurrences j i 0 j.length 1).isEmpty
noncomputable def AK(a:Str)(n:Nat):Str:=⟨(zN n a.cps).foldl (·++·) #[]⟩
noncomputable def eK(op:Operator)(x y:D):Mo D:=match op,x,y with
 |.Add,.int i,.int j=>pure (.int (i+j))
 |.Add,.str a,.str b=>do need (a.length+b.length<=zp);pure (.str (a++b))
 |.Add,.ob i,.ob j=>do
  let xs<-getL i
  let ys<-getL j
  need (xs.length+ys.length<=zp)
  bu (.lst (xs++ys))
 |.Add,.tup xs,.tup ys=>do need (xs.length+ys.length<=zp);pure (.tup (xs++ys))
 |.Sub,.int i,.int j=>pure (.int (i-j))
 |.Mult,.int i,.int j=>do need ((-(2 ^ 64)<i/\i<2 ^ 64)\/(-(2 ^ 64)<j/\j<2 ^ 64));pure (.int (i*j))
 |.FloorDiv,.int i,.int j=>do need (0<j/\j<1073741824);pure (.int (i / j))
 |.Mod,.int i,.int j=>do need (0<j);pure (.int (i % j))
 |.Pow,.int i,.int j=>do need (0<=j/\j<=1000000/\i.natAbs<2 ^ 64);pure (.int (i ^ j.toNat))
 |.Mult,.str a,.int j=>do need (2<=j/\j<1000/\0<a.length/\a.length<1000);pure (.str (AK a j.toNat))
 |_,_,_=>Mo.stop
noncomputable def inD(x y:D):Mo Bool:=match y with
 |.str j=>(match x with
  |.str i=>pure (CT j i)
  |_=>Mo.stop)
 |.tup ds=>ko x ds
 |.fl ds=>ko x ds
 |.ob i=>do
  let o<-getM i
  (match o with
  |.lst ds=>ko x ds
  |.aY kvs=>do let k<-lift (jU x);pure (cV kvs k).isSome
  |.ins _ _=>Mo.stop
  )
 |_=>Mo.stop
noncomputable def Px(x y:D):Option Bool:=match x,y with
 |.int i,.int j=>some (decide (i<j))
 |.str a,.str b=>some (decide (a.cps.toList<b.cps.toList))
 |_,_=>none
noncomputable def PB(x y:D):Option Bool:=match x,y with
 |.int i,.int j=>some (decide (i<=j))
 |.str a,.str b=>some (!decide (b.cps.toList<a.cps.toList))
 |_,_=>none
noncomputable def gk:D->Bool
 |.non=>true
 |_=>false
noncomputable def bS(op:CmpOp)(x y:D):Mo Bool:=match op with
 |.Eq=>nB x y
 |.NotEq=>do let b<-nB x y;pure (!b)
 |.Lt=>lift (Px x y)
 |.LtE=>lift (PB x y)
 |.Gt=>(match x,y with
  |.int i,.int j=>pure (decide (j<i))
  |_,_=>Mo.stop)
 |.GtE=>(match x,y with
  |.int i,.int j=>pure (decide (j<=i))
  |_,_=>Mo.stop)
 |.In=>inD x y
 |.NotIn=>do let b<-inD x y;pure (!b)
 |.Is=>do need (gk y=true);pure (gk x)
 |.IsNot=>do need (gk y=true);pure (!gk x)
noncomputable def gM(x y:D):Mo D:=match x,y with
 |.tup ds,.int i=>lift (dA ds i)
 |.fl ds,.int i=>lift (dA ds i)
 |.str s,.int i=>do need (s.length<=zp);let c<-lift (dA s.cps.toList i);pure (sgn c)
 |.ob k,y=>do
  let o<-getM k
  (match o with
  |.lst ds=>(match y with
   |.int i=>lift (dA ds i)
   |_=>Mo.stop)
  |.aY kvs=>do let q<-lift (jU y);lift (cV kvs q)
  |.ins _ _=>Mo.stop
  )
 |_,_=>Mo.stop
noncomputable def setIx(x y v:D):Mo Unit:=match x with
 |.ob k=>do
  let o<-getM k
  (match o with
  |.lst ds=>(match y with
   |.int i=>do let j<-lift (ow ds.length i);du k (.lst (ds.set j v))
   |_=>Mo.stop)
  |.aY kvs=>do let q<-lift (jU y);need (kvs.length<zp);du k (.aY (iy kvs q v))
  |.ins _ _=>Mo.stop
  )
 |_=>Mo.stop
noncomputable def fF(x:D)(lo hi:Option Int):Mo D:=match x with
 |.str s=>do need (s.length<=zp);pure (.str ⟨(cutD s.cps.toList lo hi).toArray⟩)
 |.tup ds=>pure (.tup (cutD ds lo hi))
 |.ob k=>do let ds<-getL k;bu (.lst (cutD ds lo hi))
 |.fl ds=>bu (.lst (cutD ds lo hi))
 |_=>Mo.stop
noncomputable def ka(x:D):Mo Bool:=match x with
 |.non=>pure false
 |.bl b=>pure b
 |.int i=>pure (i != 0)
 |.str s=>do need (s.length<=zp);pure ((s.length:Int) != 0)
 |.tup ds=>pure (!ds.isEmpty)
 |.fl ds=>pure (!ds.isEmpty)
 |.ob k=>do
  let o<-getM k
  (match o with
  |.lst ds=>pure (!ds.isEmpty)
  |.aY kvs=>pure (!kvs.isEmpty)
  |.ins _ _=>Mo.stop
  )
noncomputable def iQ(x:D):Mo (List D):=match x with
 |.tup ds=>pure ds
 |.fl ds=>pure ds
 |.ob k=>getL k
 |_=>Mo.stop
noncomputable def km(x:D):Mo (List D):=match x with
 |.fl ds=>pure ds
 |.ob k=>getL k
 |_=>Mo.stop
noncomputable def bz:D->Option Bool
 |.bl b=>some b
 |_=>none
noncomputable def iP(kvs:List (Ky×D)):List (Ky×D)->List (Ky×D)
 |[]=>kvs
 |p::r=>iP (iy kvs p.1 p.2) r
inductive Bl where
 |len|tuple|list|repr|all|any|min2|max2|abs|dict1|minL
 deriving DecidableEq
noncomputable def eA(b:Bl)(xs:List D):Mo D:=match b,xs with
 |.len,[.str s]=>do need (s.length<=zp);pure (.int s.length)
 |.len,[.ob k]=>do
  let o<-getM k
  (match o with
  |.lst ds=>pure (.int ds.length)
  |.aY kvs=>pure (.int kvs.length)
  |.ins _ _=>Mo.stop
  )
 |.len,[.tup ds]=>pure (.int ds.length)
 |.len,[.fl ds]=>pure (.int ds.length)
 |.tuple,[.tup ds]=>pure (.tup ds)
 |.tuple,[.fl ds]=>pure (.tup ds)
 |.tuple,[.ob k]=>do let ds<-getL k;pure (.tup ds)
 |.list,[x]=>do let ds<-iQ x;bu (.lst ds)
 |.all,[.ob k]=>do let ds<-getL k;let bs<-lift (ds.mapM bz);pure (.bl (bs.all id))
 |.any,[.ob k]=>do let ds<-getL k;let bs<-lift (ds.mapM bz);pure (.bl (bs.any id))
 |.max2,[.int i,.int j]=>pure (.int (if j > i then j else i))
 |_,_=>Mo.stop
inductive Ty where
 |int|str|bool|list|tuple|dict
 deriving DecidableEq
noncomputable def c9(t:Ty)(x:D):Mo Bool:=match x with
 |.non=>pure false
 |.bl _=>pure (t==.bool||t==.int)
 |.int _=>pure (t==.int)
 |.str _=>pure (t==.str)
 |.tup _=>pure (t==.tuple)
 |.fl _=>pure (t==.list)
 |.ob k=>do
  let o<-getM k
  (match o with
  |.lst _=>pure (t==.list)
  |.aY _=>pure (t==.dict)
  |.ins _ _=>Mo.stop
  )
inductive Mt where
 |append|insert|join|get
 |index
 |extend
 |find
 deriving DecidableEq
noncomputable def iK(m:Mt)(x:D):Mo Unit:=match m,x with
 |.append,.ob k=>do let _<-getL k;pure ()
 |.insert,.ob k=>do let _<-getL k;pure ()
 |.extend,.ob k=>do let _<-getL k;pure ()
 |.index,.ob k=>do let _<-getL k;pure ()
 |.index,.tup _=>pure ()
 |.join,.str _=>pure ()
 |.find,.str _=>pure ()
 |.get,.ob k=>do let _<-getD k;pure ()
 |_,_=>Mo.stop
noncomputable def Ri:D->Nat->Bool
 |.ob j,k=>j==k
 |_,_=>false
noncomputable def sm:D->Option Str
 |.str x=>some x
 |_=>none
noncomputable def glue(sep:List Nat):List (List Nat)->List Nat
 |[]=>[]
 |[x]=>x
 |x::y::r=>x++sep++glue sep (y::r)
noncomputable def i5(sep:Str)(ys:List Str):Str:=⟨(glue sep.cps.toList (ys.map (·.cps.toList))).toArray⟩
noncomputable def Rx(x:D):Mo (List D):=match x with
 |.tup ds=>pure ds
 |.ob k=>getL k
 |_=>Mo.stop
noncomputable def findS(s t:Str):Int:=match Builtin.Str.occurrences s t 0 s.length 1 with
 |i::_=>(i:Int)
 |[]=>-1
noncomputable def hU(m:Mt)(x:D)(xs:List D):Mo D:=match m,x,xs with
 |.append,.ob k,[v]=>do let ds<-getL k;need (ds.length<zp);du k (.lst (ds++[v]));pure .non
 |.index,.tup ds,[v]=>do need (bC v=true/\ds.all bC=true);let j<-lift (ds.findIdx? fun d=>eP d v);pure (.int (j:Nat))
 |.index,.ob k,[v]=>do let ds<-getL k;need (bC v=true/\ds.all bC=true);let j<-lift (ds.findIdx? fun d=>eP d v);pure (.int (j:Nat))
 |.join,.str t,[.ob k]=>do let ds<-getL k;let ys<-lift (ds.mapM sm);need ((ys.map (·.length)).sum+ys.length*t.length<=16777216);pure (.str (i5 t ys))
 |.find,.str s,[.str t]=>pure (.int (findS s t))
 |.extend,.ob k,[y]=>do let es<-Rx y;let ds<-getL k;need (ds.length+es.length<=zp/\Ri y k=false);du k (.lst (ds++es));pure .non
 |_,_,_=>Mo.stop
set_option genSizeOf false
set_option genInjectivity false
mutual
inductive IE where
 |var (i:Nat)|cint (i:Int)|cbl (b:Bool)|cnon|cstr (x:Str)
 |glb (x:Str)
 |bin (op:Operator) (a b:IE)
 |cmp (op:CmpOp) (a b:IE)
 |cmp2 (op op':CmpOp) (a b c:IE)
 |and (a b:IE)|or (a b:IE)|not (a:IE)
 |ifE (c:IC) (a b:IE)
 |tup (es:cH)|lst (es:cH)|dic0
 |fld (a:IE) (f:Str)|mcl (a:IE) (m:Str) (es:cH)|new (es:cH)|ssE (a:IE)|srE (a:IE)|mnE (a b:IE)
 |idx (a b:IE)|slc (a:IE) (lo hi:lQ)
 |call (f:Str) (es:cH)|blt (b:Bl) (es:cH)
 |sortL (a:IE)
 |rfs (es:cH)
 |revL (a:IE)
 |intB (a:IE)
 |neg (a:IE)
 |isI (a:IE) (t:Ty)
 |isI2 (a:IE) (t u:Ty)
 |dicS (ks:List Str) (es:cH)
 |compZ (i j:Nat) (a b e:IE)
 |mth (m:Mt) (a:IE) (es:cH)
 |comp (j:Nat) (it:IT) (c:mP) (e:IE)
inductive cH where
 |nil|cons (e:IE) (es:cH)
inductive lQ where
 |none|some (e:IE)
inductive IT where
 |seq (e:IE)|rng1 (a:IE)|sG (a b:IE)
inductive IC where
 |cmp (e:IE)|tru (e:IE)|not (c:IC)|and (a b:IC)|or (a b:IC)
inductive mP where
 |none|some (c:IC)
end
inductive IP where
 |seq (e:IE)|enum (e:IE)
mutual
inductive IS where
 |setF (o:IE) (f:Str) (e:IE)
 |set (i:Nat) (e:IE)|setIx (o i e:IE)|expr (e:IE)|ret (e:IE)|retN|pass|brk|cnt
 |halt
 |rz
 |setP (i j:Nat) (e:IE)
 |forN (is:List Nat) (e:IE) (b:aI)
 |ifS (c:IC) (a b:aI)|forS (i:Nat) (it:IT) (b:aI)|forP (i j:Nat) (it:IP) (b:aI)
 |whileS (c:IC) (b:aI)
inductive aI where
 |nil|cons (s:IS) (r:aI)
end
set_option genSizeOf true
set_option genInjectivity true
end L3
namespace L3
open PySem
structure Ctx where
 fn:Str->List D->Mo D
 gl:Str->Option D
 srt:List D->Option (List D)
 wh:Nat
 rz:Str->List D->MH->Option MH
 rf:List D->MH->Option MH
 hc:Nat
inductive Fl where
 |nx (ρ:Ev)|rt (d:D)|bk (ρ:Ev)|ct (ρ:Ev)
structure Src where
 ck:Option (Nat×List D)
 ds:List D
noncomputable def fK(ck:Option (Nat×List D))(M:MH):Prop:=match ck with
 |none=>True
 |some (i,all)=>M[i]?=some (.lst all)
noncomputable def eX(x:D):Mo Src:=match x with
 |.tup ds=>pure ⟨none,ds⟩
 |.fl ds=>pure ⟨none,ds⟩
 |.str s=>do need (s.length<=zp);pure ⟨none,s.cps.toList.map sgn⟩
 |.ob k=>do let ds<-getL k;pure ⟨some (k,ds),ds⟩
 |_=>Mo.stop
noncomputable def small(i:Int):Prop:=-(2 ^ 62)<=i/\i<2 ^ 62
noncomputable instance (i:Int):Decidable (small i):=by unfold small;infer_instance
noncomputable def ff(lo hi:Int):List D:=(List.range (hi-lo).toNat).map fun (k:Nat)=>D.int (lo+k)
open Classical in
noncomputable def bH(ck:Option (Nat×List D)):Mo Unit:=fun M=>if fK ck M then some (.ok (),M) else none
noncomputable def dI(ck:Option (Nat×List D))(i:Nat)(body:Ev->Mo Fl):List D->Ev->Mo Fl
 |[],ρ=>do bH ck;pure (.nx ρ)
 |d::ds,ρ=>do
  bH ck
  let f<-body (ρ.set i (some d))
  (match f with
  |.nx ρ'=>dI ck i body ds ρ'
  |.ct ρ'=>dI ck i body ds ρ'
  |.bk ρ'=>pure (.nx ρ')
  |.rt v=>pure (.rt v))
noncomputable def kF(ds:List D):List D:=ds.mapIdx fun n d=>.tup [.int n,d]
noncomputable def rF(x:D):Mo Src:=match x with
 |.fl ds=>pure ⟨none,kF ds⟩
 |.ob k=>do let ds<-getL k;pure ⟨some (k,ds),kF ds⟩
 |_=>Mo.stop
noncomputable def pairD:D->Option (D×D)
 |.tup [x,y]=>some (x,y)
 |_=>none
noncomputable def eG(ck:Option (Nat×List D))(i j:Nat)(body:Ev->Mo Fl):List D->Ev->Mo Fl
 |[],ρ=>do bH ck;pure (.nx ρ)
 |d::ds,ρ=>do
  bH ck
  let p<-lift (pairD d)
  let f<-body ((ρ.set i (some p.1)).set j (some p.2))
  (match f with
  |.nx ρ'=>eG ck i j body ds ρ'
  |.ct ρ'=>eG ck i j body ds ρ'
  |.bk ρ'=>pure (.nx ρ')
  |.rt v=>pure (.rt v))
noncomputable def dO(c:Ev->Mo Bool)(body:Ev->Mo Fl):Nat->Ev->Mo Fl
 |0,_=>Mo.stop
 |n+1,ρ=>do
  let b<-c ρ
  if b=true then do
   let f<-body ρ
   (match f with
   |.nx ρ'=>dO c body n ρ'
   |.ct ρ'=>dO c body n ρ'
   |.bk ρ'=>pure (.nx ρ')
   |.rt v=>pure (.rt v))
  else pure (.nx ρ)
noncomputable def dJ(ck:Option (Nat×List D))(c:Ev->Mo Bool)(e:Ev->Mo D)(ρ:Ev):List D->Mo (List D)
 |[]=>do bH ck;pure []
 |d::ds=>do
  bH ck
  let b<-c (some d::ρ)
  if b=true then do
   let y<-e (some d::ρ)
   let ys<-dJ ck c e ρ ds
   pure (y::ys)
  else dJ ck c e ρ ds
structure G9 where
 c1:Option (Nat×List D)
 c2:Option (Nat×List D)
 ds:List (D×D)
noncomputable def mR(x y:D):Mo G9:=match x with
 |.tup xs=>(match y with
  |.tup ys=>do need (xs.length=ys.length);pure ⟨none,none,xs.zip ys⟩
  |_=>Mo.stop)
 |.ob i=>(match y with
  |.ob j=>do let xs<-getL i;let ys<-getL j;need (xs.length=ys.length);pure ⟨some (i,xs),some (j,ys),xs.zip ys⟩
  |_=>Mo.stop)
 |_=>Mo.stop
noncomputable def dW(c1 c2:Option (Nat×List D))(e:Ev->Mo D)(ρ:Ev):List (D×D)->Mo (List D)
 |[]=>do bH c1;bH c2;pure []
 |p::r=>do
  bH c1
  bH c2
  let y<-e (some p.1::some p.2::ρ)
  let ys<-dW c1 c2 e ρ r
  pure (y::ys)
noncomputable def MP:D->Option (List D)
 |.tup ds=>some ds
 |_=>none
noncomputable def gP:List Nat->List D->Ev->Option Ev
 |[],[],ρ=>some ρ
 |i::is,d::ds,ρ=>gP is ds (ρ.set i (some d))
 |_,_,_=>none
noncomputable def dg(ck:Option (Nat×List D))(is:List Nat)(body:Ev->Mo Fl):List D->Ev->Mo Fl
 |[],ρ=>do bH ck;pure (.nx ρ)
 |d::ds,ρ=>do
  bH ck
  let xs<-lift (MP d)
  let ρ1<-lift (gP is xs ρ)
  let f<-body ρ1
  (match f with
  |.nx ρ'=>dg ck is body ds ρ'
  |.ct ρ'=>dg ck is body ds ρ'
  |.bk ρ'=>pure (.nx ρ')
  |.rt v=>pure (.rt v))
noncomputable def oP(ks:List Str)(o:D)(xs:List D):Mo D:=match o with
 |.ob i=>do
  let kvs<-getD i
  need (kvs.isEmpty=true/\ks.length=xs.length/\ks.length<=15)
  du i (.aY (iP [] ((ks.map Sum.inr).zip xs)))
  pure (.ob i)
 |_=>Mo.stop
noncomputable def kW(ρ:Ev)(i:Nat):Mo D:=match ρ[i]? with
 |some (some d)=>pure d
 |_=>Mo.stop
noncomputable def vk(Γ:Ctx)(xs:List D):Mo D:=fun M=>match Γ.rf xs M with
 |some M'=>some (.ok (.bl true),M')
 |none=>none
noncomputable def aA(m:Str):Str:="House."++m
noncomputable def kC:List Str:=["tree","rotas","rules","top","turn","sayings","quietings","swaps","absences","answers","entries","last_states"]
noncomputable def kB:List Str:=["swap","away","now","records","states","on_duty","known_rota","reckoned_to","go_on"]
mutual
noncomputable def ae(Γ:Ctx):IE->Ev->Mo D
 |.var i,ρ=>kW ρ i
 |.cint i,_=>pure (.int i)
 |.cbl b,_=>pure (.bl b)
 |.cnon,_=>pure .non
 |.cstr x,_=>pure (.str x)
 |.glb x,_=>lift (Γ.gl x)
 |.bin op a b,ρ=>do let x<-ae Γ a ρ;let y<-ae Γ b ρ;eK op x y
 |.cmp op a b,ρ=>do let x<-ae Γ a ρ;let y<-ae Γ b ρ;let k<-bS op x y;pure (.bl k)
 |.cmp2 op op' a b c,ρ=>do
  let x<-ae Γ a ρ
  let y<-ae Γ b ρ
  let k<-bS op x y
  if k=true then do let z<-ae Γ c ρ;let k'<-bS op' y z;pure (.bl k') else pure (.bl false)
 |.and a b,ρ=>do let x<-ae Γ a ρ;let k<-lift (bz x);if k=true then ae Γ b ρ else pure (.bl false)
 |.or a b,ρ=>do let x<-ae Γ a ρ;let k<-lift (bz x);if k=true then pure (.bl true) else ae Γ b ρ
 |.not a,ρ=>do let x<-ae Γ a ρ;let k<-lift (bz x);pure (.bl (!k))
 |.ifE c a b,ρ=>do let k<-bg Γ c ρ;if k=true then ae Γ a ρ else ae Γ b ρ
 |.tup es,ρ=>do let xs<-aS Γ es ρ;need (xs.length<=zp);pure (.tup xs)
 |.lst es,ρ=>do let xs<-aS Γ es ρ;need (xs.length<=zp);bu (.lst xs)
 |.dic0,_=>bu (.aY [])
 |.fld a f,ρ=>do let x<-ae Γ a ρ;ua Γ.hc f x
 |.mcl a m es,ρ=>do let x<-ae Γ a ρ;hY Γ.hc m x;let xs<-aS Γ es ρ;Γ.fn (aA m) (x::xs)
 |.new es,ρ=>do let xs<-aS Γ es ρ;let o<-bu (.ins Γ.hc []);let r<-Γ.fn "House.__init__" (o::xs);need (gk r=true);pure o
 |.ssE a,ρ=>do let x<-ae Γ a ρ;ssE x
 |.srE a,ρ=>do let x<-ae Γ a ρ;srE x
 |.mnE a b,ρ=>do let x<-ae Γ a ρ;let y<-ae Γ b ρ;mnE y x
 |.idx a b,ρ=>do let x<-ae Γ a ρ;let y<-ae Γ b ρ;gM x y
 |.slc a lo hi,ρ=>do let x<-ae Γ a ρ;let l<-gF Γ lo ρ;let h<-gF Γ hi ρ;fF x l h
 |.call f es,ρ=>do let xs<-aS Γ es ρ;Γ.fn f xs
 |.blt b es,ρ=>do let xs<-aS Γ es ρ;eA b xs
 |.comp j it c e,ρ=>do
  let s<-eZ Γ it ρ
  need (s.ds.length<=zp)
  let ys<-dJ s.ck (ir Γ c) (ae Γ e) (ρ.set j none) s.ds
  bu (.lst ys)
 |.rfs es,ρ=>do let xs<-aS Γ es ρ;vk Γ xs
 |.sortL a,ρ=>do
  let x<-ae Γ a ρ
  let ds<-km x
  let ys<-lift (Γ.srt ds)
  bu (.lst ys)
 |.intB a,ρ=>do let x<-ae Γ a ρ;let b<-lift (bz x);pure (.int (if b then 1 else 0))
 |.revL a,ρ=>do
  let x<-ae Γ a ρ
  let ds<-km x
  bu (.lst ds.reverse)
 |.neg a,ρ=>do
  let x<-ae Γ a ρ
  (match x with
  |.int i=>pure (.int (-i))
  |_=>Mo.stop)
 |.isI a t,ρ=>do let x<-ae Γ a ρ;let k<-c9 t x;pure (.bl k)
 |.isI2 a t u,ρ=>do let x<-ae Γ a ρ;let k<-c9 t x;let l<-c9 u x;pure (.bl (k||l))
 |.dicS ks es,ρ=>do let o<-bu (.aY []);let xs<-aS Γ es ρ;oP ks o xs
 |.compZ i j a b e,ρ=>do
  let x<-ae Γ a ρ
  let y<-ae Γ b ρ
  let s<-mR x y
  need (s.ds.length<=zp)
  let ys<-dW s.c1 s.c2 (ae Γ e) ((ρ.set i none).set j none) s.ds
  bu (.lst ys)
 |.mth m a es,ρ=>do let x<-ae Γ a ρ;iK m x;let xs<-aS Γ es ρ;hU m x xs
noncomputable def aS(Γ:Ctx):cH->Ev->Mo (List D)
 |.nil,_=>pure []
 |.cons e es,ρ=>do let x<-ae Γ e ρ;let xs<-aS Γ es ρ;pure (x::xs)
noncomputable def gF(Γ:Ctx):lQ->Ev->Mo (Option Int)
 |.none,_=>pure none
 |.some e,ρ=>do
  let x<-ae Γ e ρ
  (match x with
  |.int i=>pure (some i)
  |_=>Mo.stop)
noncomputable def eZ(Γ:Ctx):IT->Ev->Mo Src
 |.seq e,ρ=>do let x<-ae Γ e ρ;eX x
 |.rng1 a,ρ=>do
  let x<-ae Γ a ρ
  (match x with
  |.int i=>do need (small i);pure ⟨none,ff 0 i⟩
  |_=>Mo.stop)
 |.sG a b,ρ=>do
  let x<-ae Γ a ρ
  let y<-ae Γ b ρ
  (match x,y with
  |.int i,.int j=>do need (small i/\small j);pure ⟨none,ff i j⟩
  |_,_=>Mo.stop)
noncomputable def bg(Γ:Ctx):IC->Ev->Mo Bool
 |.cmp e,ρ=>do let x<-ae Γ e ρ;lift (bz x)
 |.tru e,ρ=>do let x<-ae Γ e ρ;ka x
 |.not c,ρ=>do let k<-bg Γ c ρ;pure (!k)
 |.and a b,ρ=>do let k<-bg Γ a ρ;if k=true then bg Γ b ρ else pure false
 |.or a b,ρ=>do let k<-bg Γ a ρ;if k=true then pure true else bg Γ b ρ
noncomputable def ir(Γ:Ctx):mP->Ev->Mo Bool
 |.none,_=>pure true
 |.some c,ρ=>bg Γ c ρ
end
noncomputable def kc(Γ:Ctx):IP->Ev->Mo Src
 |.seq e,ρ=>do let x<-ae Γ e ρ;eX x
 |.enum e,ρ=>do let x<-ae Γ e ρ;rF x
mutual
noncomputable def bc(Γ:Ctx):IS->Ev->Mo Fl
 |.setF o f e,ρ=>do let v<-ae Γ e ρ;let x<-ae Γ o ρ;setF Γ.hc f v x;pure (.nx ρ)
 |.set i e,ρ=>do let x<-ae Γ e ρ;pure (.nx (ρ.set i (some x)))
 |.setP i j e,ρ=>do let x<-ae Γ e ρ;let p<-lift (pairD x);pure (.nx ((ρ.set i (some p.1)).set j (some p.2)))
 |.forN is e b,ρ=>do let x<-ae Γ e ρ;let s<-eX x;dg s.ck is (aq Γ b) s.ds ρ
 |.setIx o i e,ρ=>do let v<-ae Γ e ρ;let x<-ae Γ o ρ;let y<-ae Γ i ρ;setIx x y v;pure (.nx ρ)
 |.expr e,ρ=>do let _<-ae Γ e ρ;pure (.nx ρ)
 |.ret e,ρ=>do let x<-ae Γ e ρ;pure (.rt x)
 |.retN,_=>pure (.rt .non)
 |.pass,ρ=>pure (.nx ρ)
 |.brk,ρ=>pure (.bk ρ)
 |.cnt,ρ=>pure (.ct ρ)
 |.halt,_=>Mo.stop
 |.rz,_=>Mo.stop
 |.ifS c a b,ρ=>do let k<-bg Γ c ρ;if k=true then aq Γ a ρ else aq Γ b ρ
 |.forS i it b,ρ=>do let s<-eZ Γ it ρ;dI s.ck i (aq Γ b) s.ds ρ
 |.forP i j it b,ρ=>do let s<-kc Γ it ρ;eG s.ck i j (aq Γ b) s.ds ρ
 |.whileS c b,ρ=>dO (bg Γ c) (aq Γ b) Γ.wh ρ
noncomputable def aq(Γ:Ctx):aI->Ev->Mo Fl
 |.nil,ρ=>pure (.nx ρ)
 |.cons s r,ρ=>do
  let f<-bc Γ s ρ
  (match f with
  |.nx ρ'=>aq Γ r ρ'
  |.rt v=>pure (.rt v)
  |.bk ρ'=>pure (.bk ρ')
  |.ct ρ'=>pure (.ct ρ'))
end
noncomputable def tD:Option (Out Fl×MH)->Option (Ev×MH)
 |some (.ok (.nx ρ),M)=>some (ρ,M)
 |_=>none
noncomputable def pG(Γ:Ctx)(e:IE)(ρ:Ev)(M:MH):Option MH:=match e with
 |.mcl a m es=>if m==("known_rota":Str) then (match (do let x<-ae Γ a ρ;hY Γ.hc m x;let xs<-aS Γ es ρ;pure (x::xs):Mo (List D)) M with
  |some (.ok xs,M1)=>Γ.rz (aA m) xs M1
  |_=>none) else none
 |_=>none
mutual
noncomputable def qv(Γ:Ctx):IS->Ev->MH->Option MH
 |.rz,_,M=>some M
 |.ifS c a b,ρ,M=>match bg Γ c ρ M with
  |some (.ok k,M1)=>if k=true then dF Γ a ρ M1 else dF Γ b ρ M1
  |_=>none
 |.expr e,ρ,M=>pG Γ e ρ M
 |.set _ e,ρ,M=>pG Γ e ρ M
 |_,_,_=>none
noncomputable def dF(Γ:Ctx):aI->Ev->MH->Option MH
 |.nil,_,_=>none
 |.cons s r,ρ,M=>match tD (bc Γ s ρ M) with
  |some (ρ',M1)=>dF Γ r ρ' M1
  |none=>qv Γ s ρ M
end
noncomputable def HM:Option (Out Unit×MH)->Bool
 |some (.ok _,_)=>true
 |_=>false
noncomputable def nW(C:Nat)(rz:Str->List D->MH->Option MH)(xs:List D)(M:MH):Option MH:=match xs with
 |[o,x,t]=>if HM (hY C "on_duty" o M) then rz (aA "on_duty") [o,x,t] M else none
 |_=>none
noncomputable def mU(Γ:Ctx)(n:Nat)(b:aI)(xs:List D):Mo D:=do
 let f<-aq Γ b (xs.map some++zN (n-xs.length) none)
 (match f with
 |.nx _=>pure .non
 |.rt v=>pure v
 |.bk _=>Mo.stop
 |.ct _=>Mo.stop)
structure Fd where
 n:Nat
 p:Nat
 b:aI
noncomputable abbrev Wh:=Nat×Nat
noncomputable def iY(tab:List (Str×Fd))(gl:Str->Option D)(srt:List D->Option (List D))(wh:Nat×Nat):Nat->Ctx
 |0=>⟨fun _ _=>Mo.stop,gl,srt,wh.1,fun _ _ _=>none,fun _ _=>none,wh.2⟩
 |k+1=>⟨fun f xs=>match tab.lookup f with
  |some d=>do need (xs.length=d.p);mU (iY tab gl srt wh k) d.n d.b xs
  |none=>Mo.stop,gl,srt,wh.1,fun f xs M=>match tab.lookup f with
  |some d=>if xs.length=d.p then dF (iY tab gl srt wh k) d.b (xs.map some++zN (d.n-xs.length) none) M else none
  |none=>none,nW wh.2 (iY tab gl srt wh k).rz,wh.2⟩
structure Sc where
 sc:Scope
 N:List Str
 fns:List Str
 gls:List Str
 bo:List Str
noncomputable def Sc.kind(S:Sc)(x:Str):Option NameKind:=S.sc.names.lookup x
noncomputable def Sc.qk(S:Sc)(x:Str):Bool:=S.kind x==some .local||S.kind x==some .cell||S.kind x==some .free
noncomputable def Sc.loc(S:Sc)(x:Str):Bool:=S.kind x==some .local||S.kind x==some .cell
noncomputable def Sc.bA(S:Sc)(x:Str):Bool:=S.kind x==some .globalImplicit
noncomputable def slot(N:List Str)(x:Str):Option Nat:=N.findIdx? (·==x)
noncomputable def GZ(x:Str)(n:Nat):Option Bl :=
 if x==("len":Str)&&n==1 then some .len else if x==("tuple":Str)&&n==1 then some .tuple else if x==("list":Str)&&n==1 then some .list
 else if x==("repr":Str)&&n==1 then some .repr else if x==("all":Str)&&n==1 then some .all else if x==("any":Str)&&n==1 then some .any
 else if x==("min":Str)&&n==2 then some .min2 else if x==("max":Str)&&n==2 then some .max2 else if x==("abs":Str)&&n==1 then some .abs else if x==("dict":Str)&&n==1 then some .dict1 else if x==("min":Str)&&n==1 then some .minL else none
noncomputable def aU:Expr->Bool
 |.Starred _ _=>false
 |_=>true
noncomputable def bM(x:Str):Bool:=x != ("__debug__":Str)&&x != ("__classdict__":Str)&&x != ("__name__":Str)
noncomputable def HV:Expr->Bool
 |.Name _ _=>true|.Constant _ _ _=>true|.BinOp _ _ _ _=>true|.Compare _ _ _ _=>true|.BoolOp _ _ _=>true|.UnaryOp _ _ _=>true|.IfExp _ _ _ _=>true
 |.List _ _=>true|.Subscript _ _ _=>true|.Call _ _ _ _=>true|_=>false
noncomputable def Qr:Expr->Bool
 |.Attribute _ _ _=>true
 |.Name _ _=>true|.Constant _ _ _=>true|.BinOp _ _ _ _=>true|.Subscript _ _ _=>true|.List _ _=>true|.Tuple _ _ _=>true|.Call _ (_::_) _ _=>true|_=>false
noncomputable def gZ:Expr->Bool
 |.ListComp _ _ _ _=>false
 |.SetComp _ _ _ _=>false
 |.DictComp _ _ _ _ _=>false
 |_=>true
noncomputable def blank(N:List Str)(xs:List Str):List Str:=N.map fun y=>if xs.contains y then "" else y
noncomputable def cX(S:Sc)(sc:Scope)(xs:List Str):Bool :=
 sc.kind==.function&&(xs.all fun x=>sc.names.lookup x==some .local&&(x != (".0":Str))&&(x != ("":Str))) &&
 sc.names.all (fun p=>p.2 != .cell&&(p.2 != .local||(xs.contains p.1||p.1==(".0":Str)))) &&
 sc.names.all (fun p=>p.2 != .free||(S.kind p.1==some .cell||S.kind p.1==some .free)) &&
 sc.names.all (fun p=>sc.names.lookup p.1==some p.2&&p.1 != ("":Str))&&(S.N.all fun y=>y != (".0":Str))&&decide (xs++blank S.N xs).Nodup
noncomputable def Sc.comp(S:Sc)(sc:Scope)(xs:List Str):Sc:={ S with sc:=sc,N:=xs++blank S.N xs }
noncomputable def vO(op:Operator):Bool:=op==.Add||op==.Sub||op==.Mult||op==.FloorDiv||op==.Mod||op==.Pow
noncomputable def B8(S:Sc)(f:Str)(len:Nat)(xs:Option cH):Option IE:=if bM f&&S.bA f then
 (if S.fns.contains f then xs.map (.call f)
 else if S.bo.contains f then (match GZ f len with
  |some b=>xs.map (.blt b)
  |none=>none)
 else none) else none
noncomputable def kY(t:Str):Option Ty :=
 if t==("int":Str) then some .int else if t==("str":Str) then some .str else if t==("bool":Str) then some .bool
 else if t==("list":Str) then some .list else if t==("tuple":Str) then some .tuple else if t==("dict":Str) then some .dict else none
noncomputable def F6(m:Str)(n:Nat):Option Mt :=
 if m==("append":Str)&&n==1 then some .append else if m==("insert":Str)&&n==2 then some .insert else
 if m==("index":Str)&&n==1 then some .index else
 if m==("extend":Str)&&n==1 then some .extend else
 if m==("find":Str)&&n==1 then some .find else
 if m==("join":Str)&&n==1 then some .join else if m==("get":Str)&&n==2 then some .get else none
noncomputable def i6(S:Sc)(f t:Str):Bool:=f==("isinstance":Str)&&bM f&&S.bA f&&S.bo.contains f&&bM t&&S.bA t&&S.bo.contains t
noncomputable def Bs(S:Sc)(x:Str):Option IE:=if bM x then (if S.qk x then (slot S.N x).map .var else if S.bA x&&S.gls.contains x then some (.glb x) else none) else none
noncomputable def EG:Const->Option IE
 |.int i=>some (.cint i)
 |.bool b=>some (.cbl b)
 |.none=>some .cnon
 |.str x=>some (.cstr x)
 |_=>none
noncomputable def HZ:Expr->Bool
 |.Call (.Name f _) _ _ _=>f==("range":Str)
 |_=>false
noncomputable def BZ(r:Expr->Option IE)(a:Expr)(ops:List CmpOp)(bs:List Expr):Option IE:=match ops,bs with
 |[op],[b]=>if behindInMarks op b then none else do let x<-r a;let y<-r b;some (.cmp op x y)
 |[op,op'],[b,c]=>if behindInMarks op' c then none else do let x<-r a;let y<-r b;let z<-r c;some (.cmp2 op op' x y z)
 |_,_=>none
noncomputable def Jg:BoolOp->IE->IE->IE
 |.And=>.and
 |.Or=>.or
noncomputable def Cb(r:Expr->Option IE)(op:BoolOp)(es:List Expr)(p:Pos):Option IE:=match es with
 |[a,b]=>do let x<-r a;let y<-r b;some (Jg op x y)
 |a::b::c::l=>do let x<-r a;let y<-r (.BoolOp op (b::c::l) p);some (Jg op x y)
 |_=>none
noncomputable def Pc(r:Expr->Option IE)(op:UnaryOp)(a:Expr):Option IE:=match op with
 |.Not=>do let x<-r a;some (.not x)
 |.USub=>do let x<-r a;some (.neg x)
 |_=>none
noncomputable def Lj:Const->Option Str
 |.str x=>some x
 |_=>none
noncomputable def Fs:Expr->Option Str
 |.Constant c _ _=>Lj c
 |_=>none
noncomputable def ou(r:Expr->Option IE):List (Option Expr)->List Expr->Option (List Str×cH)
 |[],[]=>some ([],.nil)
 |k::ks,v::vs=>(match k with
  |some k=>do let x<-Fs k;let e<-r v;let p<-ou r ks vs;some (x::p.1,.cons e p.2)
  |none=>none)
 |_,_=>none
noncomputable def O4(r:Expr->Option IE)(ks:List (Option Expr))(vs:List Expr):Option IE:=match ks with
 |[]=>(match vs with
  |[]=>some .dic0
  |_::_=>none)
 |k::ks=>if decide ((k::ks).length<=15) then do let p<-ou r (k::ks) vs;some (.dicS p.1 p.2) else none
noncomputable def Fq(r:Expr->Option IE)(ro:Option Expr->Option lQ)(a b:Expr):Option IE:=match b with
 |.Slice lo hi none _=>do let x<-r a;let l<-ro lo;let h<-ro hi;some (.slc x l h)
 |b=>if HV b then do let x<-r a;let y<-r b;some (.idx x y) else none
noncomputable def MQ:Expr->Option (Expr×Str×Pos×Pos)
 |.Call (.Attribute o m p2) [] [] p3=>some (o,m,p2,p3)
 |_=>none
noncomputable def de:Expr->Option (Str×Pos)
 |.Name t p=>some (t,p)
 |_=>none
noncomputable def Ay(S:Sc)(r:Expr->Option IE)(f:Str)(as:List Expr):Option IE:=match as with
 |[a]=>(match MQ a with
  |some _=>none
  |none=>(
    if aU a&&(f==("sorted":Str)&&bM f&&S.bA f&&S.bo.contains f) then do let x<-r a;some (.sortL x) else none))
 |_=>none
noncomputable def ij:Expr->Option (Str×Pos×List Expr×Pos)
 |.Call (.Name f p) as [] q=>some (f,p,as,q)
 |_=>none
noncomputable def HC(S:Sc)(f:Str)(as:List Expr):Bool:=f==("range":Str)&&bM f&&S.bA f&&S.bo.contains f&&as.all aU
noncomputable def FD:Expr->Option (Str×Pos×Expr×Pos)
 |.Call (.Name g p) [a] [] q=>some (g,p,a,q)
 |_=>none
noncomputable def AI(S:Sc)(f g:Str):Bool:=f==("list":Str)&&g==("reversed":Str)&&bM f&&bM g&&S.bA f&&S.bA g&&S.bo.contains f&&S.bo.contains g
noncomputable def FC(S:Sc)(r:Expr->Option IE)(f:Str)(as:List Expr)(k:Option IE):Option IE:=match as with
 |[e]=>(match FD e with
  |some (g,_,a,_)=>if AI S f g then (if aU a then do let x<-r a;some (.revL x) else none) else k
  |none=>k)
 |_=>k
noncomputable def Gk(S:Sc)(r:Expr->Option IE)(f:Str)(as:List Expr)(k:Option IE):Option IE:=match as with
 |[a]=>if (f==("int":Str)&&bM f&&S.bA f&&S.bo.contains f) then (if aU a then do let x<-r a;some (.intB x) else none) else k
 |_=>k
noncomputable def Hm:Expr->Option (Expr×Expr×Nat×Pos)
 |.Tuple es k p=>(match es with
  |[a,b]=>some (a,b,k,p)
  |_=>none)
 |_=>none
noncomputable def HY(S:Sc)(r:Expr->Option IE)(f:Str)(a t:Expr):Option IE:=match Hm t with
 |some (t1,t2,_,_)=>(match de t1,de t2 with
  |some (u1,_),some (u2,_)=>if i6 S f u1&&i6 S f u2&&aU a then do let k1<-kY u1;let k2<-kY u2;let x<-r a;some (.isI2 x k1 k2) else none
  |_,_=>none)
 |none=>none
noncomputable def GL(r:Expr->Option IE)(o:Expr)(f:Str):Option IE:=match de o with
 |some _=>if kC.contains f then (r o).map fun x=>.fld x f else none
 |none=>none
noncomputable def tK(r:Expr->Option IE)(rs:List Expr->Option cH)(o:Expr)(m:Str)(p2 p3:Pos)(as:List Expr):Option IE:=match de o with
 |some _=>if p2.endLine==p3.line&&decide (as.length<29) then do let x<-r o;let xs<-(match as with|[]=>some .nil|a::l=>rs (a::l));some (.mcl x m xs) else none
 |none=>none
noncomputable def newOk(S:Sc)(f:Str):Bool:=f==("House":Str)&&bM f&&S.bA f
noncomputable def F4(S:Sc)(f:Str)(xs:Option cH)(k:Option IE):Option IE:=if newOk S f then xs.map .new else k
noncomputable def Ls:Expr->Bool
 |.Name x _=>x==("numbers":Str)
 |_=>false
noncomputable def HB(S:Sc)(f:Str):Bool:=f==("sorted":Str)&&bM f&&S.bA f&&S.bo.contains f
noncomputable def Lq(S:Sc)(r:Expr->Option IE)(f:Str)(as:List Expr)(k:Option IE):Option IE:=match as with
 |[a]=>(match ij a with
  |some (g,_,bs,_)=>(match bs with
   |[b]=>if g==("set":Str) then (if aU b&&(HB S f&&(S.bA g&&S.bo.contains g)) then (r b).map .ssE else none) else k
   |_=>k)
  |none=>if Ls a then (if aU a&&HB S f then (r a).map .srE else none) else k)
 |_=>k
noncomputable def Qo:List Keyword->Option (Expr×Pos)
 |[⟨some x,e,p⟩]=>if x==("default":Str) then some (e,p) else none
 |_=>none
noncomputable def HR(S:Sc)(r:Expr->Option IE)(f:Expr)(as:List Expr)(ks:List Keyword):Option IE:=match de f with
 |some (g,_)=>(match as with
  |[a]=>(match Qo ks with
   |some (b,_)=>if g==("min":Str)&&(bM g&&(S.bA g&&(S.bo.contains g&&aU a))) then do let x<-r a;let y<-r b;some (.mnE x y) else none
   |none=>none)
  |_=>none)
 |none=>none
noncomputable def HD(S:Sc)(f:Str):Bool:=f==("_law_unknown":Str)&&bM f&&S.bA f
noncomputable def FA(S:Sc)(f:Str)(xs:Option cH)(k:Option IE):Option IE:=if HD S f then xs.map .rfs else k
noncomputable def Gh(S:Sc)(r:Expr->Option IE)(f:Str)(as:List Expr):Option IE:=match as with
 |[a,t]=>(match de t with
  |some (t',_)=>if i6 S f t'&&aU a then (match kY t' with
   |some k=>do let x<-r a;some (.isI x k)
   |none=>none) else none
  |none=>HY S r f a t)
 |_=>none
noncomputable def Ce(r:Expr->Option IE)(rs:List Expr->Option cH)(o:Expr)(m:Str)(p2 p3:Pos)(as:List Expr):Option IE:=match as with
 |e::es=>if Qr o&&(p2.endLine==p3.line&&decide ((e::es).length<29)) then (match
   F6 m (e::es).length with
   |some k=>do let x<-r o;let xs<-rs (e::es);some (.mth k x xs)
   |none=>none) else none
 |_=>none
noncomputable def NA(S:Sc)(r:Expr->Option IE)(rs:List Expr->Option cH)(f:Str)(as:List Expr):Option IE:=match as with
 |e::es=>if f==("sorted":Str) then
  Lq S r f (e::es) <|
  Ay S r f (e::es) else if f==("isinstance":Str) then Gh S r f (e::es) else
  F4 S f (rs (e::es)) <|
  FC S r f (e::es) <|
  Gk S r f (e::es) <|
  FA S f (rs (e::es)) <|
  B8 S f (e::es).length (rs (e::es))
 |_=>none
noncomputable def rJ(S:Sc)(r:Expr->Option IE)(rs:List Expr->Option cH)(f:Expr)(as:List Expr)(p:Pos):Option IE:=match f with
 |.Name g _=>NA S r rs g as
 |.Attribute o m p2=>if kB.contains m then tK r rs o m p2 p as else Ce r rs o m p2 p as
 |_=>none
noncomputable def AF(S:Sc)(r:Expr->Option IE)(f:Str)(as:List Expr):Option IT:=if HC S f as then (match as with
 |[a]=>do let x<-r a;some (.rng1 x)
 |[a,b]=>do let x<-r a;let y<-r b;some (.sG x y)
 |_=>none) else none
noncomputable def DQ:Expr->Bool
 |.Attribute _ _ _=>true
 |.Name _ _=>true|.Subscript _ _ _=>true|.BinOp _ _ _ _=>true|.Call _ _ _ _=>true|.List _ _=>true|.ListComp _ _ _ _=>true|_=>false
noncomputable def uy:BoolOp->IC->IC->IC
 |.And=>.and
 |.Or=>.or
noncomputable def BW(r:Expr->Option IC)(op:BoolOp)(es:List Expr):Option IC:=match es with
 |[a,b]=>do let k<-r a;let j<-r b;some (uy op k j)
 |[a,b,c]=>do let k<-r a;let j<-r b;let l<-r c;some (uy op k (uy op j l))
 |_=>none
noncomputable def uk(S:Sc)(r:Expr->Option IE)(a:Expr)(ops:List CmpOp)(bs:List Expr):Option IE:=match ops,bs with
 |[op],[b]=>if HZ b then
  none
  else BZ r a [op] [b]
 |ops,bs=>BZ r a ops bs
noncomputable def Ae(S:Sc):Bool:=S.bA "zip"&&S.bo.contains "zip"
noncomputable def rM(e:Expr):Option (Pos×Expr×Expr×Pos):=match ij e with
 |some (f,p,as,q)=>if f==("zip":Str) then (match as with
  |[a,b]=>if aU a&&aU b then some (p,a,b,q) else none
  |_=>none) else none
 |none=>none
noncomputable def HJ:Expr->Option (Str×Pos×Str×Pos×Nat×Pos)
 |.Tuple es k p=>(match es with
  |[a,b]=>(match de a,de b with
   |some (x,px),some (y,py)=>some (x,px,y,py,k,p)
   |_,_=>none)
  |_=>none)
 |_=>none
noncomputable def ub:List Comprehension->Option (Expr×Expr)
 |[⟨t,iter,[],0⟩]=>some (t,iter)
 |_=>none
noncomputable def uj(S:Sc)(r:Expr->Option IE)(r2:Sc->Option IE)(gs:List Comprehension)(sc:Scope):Option IE:=match ub gs with
 |some (t,iter)=>(match HJ t,rM iter with
  |some (x,_,y,_,_,_),some (_,a,b,_)=>if Ae S&&cX S sc [x,y] then do
    let u<-r a
    let v<-r b
    let e<-r2 (S.comp sc [x,y])
    some (.compZ ((slot S.N x).getD S.N.length) ((slot S.N y).getD S.N.length) u v e) else none
  |_,_=>none)
 |none=>none
noncomputable def mm:List Comprehension->Option (Str×Pos×Expr×List Expr)
 |[⟨.Name x p,iter,ifs,0⟩]=>some (x,p,iter,ifs)
 |_=>none
mutual
noncomputable def cE(S:Sc):Nat->Expr->Option IE
 |0,_=>none
 |n+1,e=>match e with
  |.Name x _=>Bs S x
  |.Constant c _ _=>EG c
  |.BinOp a op b _=>if vO op then do let x<-cE S n a;let y<-cE S n b;some (.bin op x y) else none
  |.Compare a ops bs _=>uk S (cE S n) a ops bs
  |.BoolOp op es p=>Cb (cE S n) op es p
  |.UnaryOp op a _=>Pc (cE S n) op a
  |.IfExp c a b _=>do let k<-cC S n c;let x<-cE S n a;let y<-cE S n b;some (.ifE k x y)
  |.Tuple es _ _=>do let xs<-mL S n es;some (.tup xs)
  |.List es _=>do let xs<-mL S n es;some (.lst xs)
  |.Dict ks vs _=>O4 (cE S n) ks vs
  |.Subscript a b _=>Fq (cE S n) (cO S n) a b
  |.Call f as ks p=>if ks.isEmpty then rJ S (cE S n) (mL S n) f as p else HR S (cE S n) f as ks
  |.Attribute o f _=>GL (cE S n) o f
  |.ListComp elt gs sc _=>(match mm gs with
   |some (x,_,iter,ifs)=>if cX S sc [x] then do
     let it<-cT S n iter
     let c<-EO (S.comp sc [x]) n ifs
     let e<-cE (S.comp sc [x]) n elt
     some (.comp ((slot S.N x).getD S.N.length) it c e) else none
   |none=>uj S (cE S n) (fun S'=>cE S' n elt) gs sc)
  |_=>none
noncomputable def mL(S:Sc):Nat->List Expr->Option cH
 |0,_=>none
 |_+1,[]=>some .nil
 |n+1,e::es=>if aU e then do let x<-cE S n e;let xs<-mL S n es;some (.cons x xs) else none
noncomputable def cO(S:Sc):Nat->Option Expr->Option lQ
 |0,_=>none
 |_+1,none=>some .none
 |n+1,some e=>do let x<-cE S n e;some (.some x)
noncomputable def cT(S:Sc):Nat->Expr->Option IT
 |0,_=>none
 |n+1,e=>match ij e with
  |some (f,_,as,_)=>if f==("range":Str) then AF S (cE S n) f as else (cE S n e).map .seq
  |none=>if DQ e then (cE S n e).map .seq else none
noncomputable def cC(S:Sc):Nat->Expr->Option IC
 |0,_=>none
 |n+1,e=>match e with
  |.UnaryOp op a _=>if op==.Not then (cC S n a).map .not else none
  |.BoolOp op es _=>BW (cC S n) op es
  |.Compare a ops bs _=>(uk S (cE S n) a ops bs).map .cmp
  |.Name x p=>(cE S n (.Name x p)).map .tru
  |.Call f as ks p=>(cE S n (.Call f as ks p)).map .tru
  |.Subscript a b p=>(cE S n (.Subscript a b p)).map .tru
  |_=>none
noncomputable def EO(S:Sc):Nat->List Expr->Option mP
 |0,_=>none
 |_+1,[]=>some .none
 |n+1,[c]=>do let k<-cC S n c;some (.some k)
 |_,_=>none
end
noncomputable def BY:Expr->Option (Expr×List Comprehension×Scope)
 |.ListComp elt gs sc _=>some (elt,gs,sc)
 |_=>none
noncomputable def G6(S:Sc)(n:Nat)(x:Str)(v:Expr):Option IS:=match BY v with
 |some (elt,gs,sc)=>(match mm gs with
  |some (y,_,iter,ifs)=>if S.loc x&&cX S sc [y] then do
   let i<-slot S.N x
   let it<-cT S n iter
   let c<-EO (S.comp sc [y]) n ifs
   let e<-cE (S.comp sc [y]) n elt
   some (.set i (.comp ((slot S.N y).getD S.N.length) it c e)) else none
  |none=>none)
 |none=>if S.loc x&&gZ v then do let i<-slot S.N x;let y<-cE S n v;some (.set i y) else none
noncomputable def QO:Expr->Bool
 |.Subscript _ _ _=>true
 |.Call _ _ _ _=>true
 |_=>false
noncomputable def G7(S:Sc)(n:Nat)(es:List Expr)(v:Expr):Option IS:=match es with
 |[a,b]=>(match de a,de b with
  |some (x,_),some (y,_)=>if S.loc x&&S.loc y&&QO v then do let i<-slot S.N x;let j<-slot S.N y;let e<-cE S n v;some (.setP i j e) else none
  |_,_=>none)
 |_=>none
noncomputable def G5(S:Sc)(n:Nat)(t:Expr)(v:Expr):Option IS:=match t with
 |.Name x _=>G6 S n x v
 |.Subscript o i _=>if HV i then do let y<-cE S n v;let a<-cE S n o;let b<-cE S n i;some (.setIx a b y) else none
 |.Attribute o f _=>(match de o with
  |some _=>if kC.contains f&&gZ v then do let y<-cE S n v;let a<-cE S n o;some (.setF a f y) else none
  |none=>none)
 |.Tuple es _ _=>G7 S n es v
 |_=>none
noncomputable def NQ(S:Sc)(n:Nat)(ts:List Expr)(v:Expr):Option IS:=match ts with
 |[]=>none
 |t::r=>(match r with
  |[]=>G5 S n t v
  |_::_=>none)
noncomputable def I0(S:Sc)(r:Expr->Option IE)(f:Str)(as:List Expr):Option IP:=match as with
 |[]=>none
 |a::l=>(match l with
  |[]=>if bM f&&S.bA f&&S.bo.contains f&&aU a then (r a).map .enum else none
  |_::_=>none)
noncomputable def cP(S:Sc)(n:Nat)(e:Expr):Option IP:=match ij e with
 |some (f,_,as,_)=>if f==("enumerate":Str) then I0 S (cE S n) f as else (cE S n e).map .seq
 |none=>if DQ e then (cE S n e).map .seq else none
noncomputable def rB(S:Sc)(n:Nat)(a b iter:Expr)(r:Option aI):Option IS:=match de a with
 |none=>none
 |some (x,_)=>(match de b with
  |none=>none
  |some (y,_)=>if S.loc x&&S.loc y then do
   let i<-slot S.N x;let j<-slot S.N y;let it<-cP S n iter;let z<-r;some (.forP i j it z) else none)
noncomputable def nU(S:Sc):List Expr->Option (List Nat)
 |[]=>some []
 |e::r=>(match de e with
  |some (x,_)=>if S.loc x then do let i<-slot S.N x;let is<-nU S r;some (i::is) else none
  |none=>none)
noncomputable def Aq(S:Sc)(n:Nat)(ts:List Expr)(iter:Expr)(r:Option aI):Option IS :=
 if DQ iter&&!HZ iter then do let is<-nU S ts;let e<-cE S n iter;let z<-r;some (.forN is e z) else none
noncomputable def HI(S:Sc)(n:Nat)(ts:List Expr)(iter:Expr)(r:Option aI):Option IS:=match ts with
 |[]=>none
 |a::l=>(match l with
  |[]=>none
  |b::l2=>(match l2 with
   |[]=>rB S n a b iter r
   |c::l3=>Aq S n (a::b::c::l3) iter r))
noncomputable def GJ(S:Sc)(n:Nat)(t iter:Expr)(r:Option aI):Option IS:=match t with
 |.Name x _=>if S.loc x then do let i<-slot S.N x;let it<-cT S n iter;let y<-r;some (.forS i it y) else none
 |.Tuple ts _ _=>HI S n ts iter r
 |_=>none
noncomputable def Bo(o:List Stmt)(r:Option IS):Option IS:=match o with
 |[]=>r
 |_::_=>none
noncomputable def QP:Expr->Bool
 |.Constant c _ _=>(match c with
  |.str _=>true
  |_=>false)
 |_=>false
noncomputable def Mp(as:List Expr):Bool:=match as with
 |[a]=>QP a
 |_=>false
noncomputable def Pl(S:Sc)(e:Expr):Bool:=match ij e with
 |some (f,_,as,_)=>f==("Unknown":Str)&&S.bA f&&Mp as
 |none=>false
noncomputable def CZ(S:Sc)(a b:Option Expr):IS:=match a with
 |some e=>(match b with
  |none=>if Pl S e then .rz else .halt
  |some _=>.halt)
 |none=>.halt
mutual
noncomputable def cS(S:Sc):Nat->Stmt->Option IS
 |0,_=>none
 |n+1,s=>match s with
  |.Assign ts v _=>NQ S n ts v
  |.Expr e _=>if gZ e then do let y<-cE S n e;some (.expr y) else none
  |.Return o _=>(match o with
   |some e=>do let y<-cE S n e;some (.ret y)
   |none=>some .retN)
  |.Raise a b _=>some (CZ S a b)
  |.Pass _=>some .pass
  |.Break _=>some .brk
  |.Continue _=>some .cnt
  |.If c a b _=>do let k<-cC S n c;let x<-dD S n a;let y<-dD S n b;some (.ifS k x y)
  |.For t iter b o _=>Bo o (GJ S n t iter (dD S n b))
  |.While c b o _=>Bo o (do let k<-cC S n c;let y<-dD S n b;some (.whileS k y))
  |_=>none
noncomputable def dD(S:Sc):Nat->List Stmt->Option aI
 |0,_=>none
 |_+1,[]=>some .nil
 |n+1,s::r=>do let y<-dD S n r;some (.cons ((cS S n s).getD .halt) y)
end
end L3
namespace L2
open PySem PySem.Spec PyProof.Rows
theorem kH{prog:Program}{w:World}{A:Around}{R:Result->Shared->Prop}{s:Shared}{elt target iter:Expr}{ifs:List Expr}{scope:Scope}{pos:Pos}{it acc:Value}{env:Env}(I:Nat->Shared->Prop)
  (turn:∀n s,I n s->wpAny (model prog w) A (pyNext it) (fun r s₁=>match r with
   |none=>R (.ok .next) s₁
   |some v=>wpAny (model prog w) A (letOwnedTupleGo target it v) (fun _ s₁'=>wpAny (model prog w) A (assign target env v) (fun _ s₂ =>
     wpAny (model prog w) A (forIn ifs true fun c r=>if r=true then do let ok<-isTrue c env (eval c env);pure (ForInStep.yield ok) else pure (ForInStep.yield r)) (fun ok s₃ =>
      if ok=true then wpAny (model prog w) A (eval elt env) (fun x s₄ =>
       wpAny (model prog w) A (call (.builtin "list.append") [acc,x]) (fun _ s₅=>∃m,m<n/\I m s₅) (fun _ _=>False) s₄) (fun _ _=>False) s₃
      else ∃m,m<n/\I m s₃) (fun _ _=>False) s₂) (fun _ _=>False) s₁') (fun _ _=>False) s₁) (fun _ _=>False) s)
  (n:Nat) (h:I n s) :
  codeAny (model prog w) A (.compLoop (.ListComp elt [⟨target,iter,ifs,0⟩] scope pos) 0 it acc env) R s:=by
 refine codeAny_loop rfl I (fun n s hI=>?_) n h;show wpAny _ A ((compTurn (.ListComp elt [⟨target,iter,ifs,0⟩] scope pos) 0 it acc env).onRaise (fun x=>do noteFrame x env;theTreesLotGoes x)) _ _ s;refine wpAny_noted ?_;rw[compTurn_list];refine zz (wpAny_standAt (zz (wpAny_mono (turn n s hI) (fun r s₁ h₁=>?_) fun _ _ h'=>h'.elim)));cases r with
 |none=>exact zq h₁
 |some v =>
  refine zz (wpAny_mono h₁ (fun _ s₁' h₁'=>?_) fun _ _ h'=>h'.elim);refine zz (wpAny_mono h₁' (fun _ s₂ h₂=>zz (wpAny_mono h₂ (fun ok s₃ h₃=>?_) fun _ _ h'=>h'.elim)) fun _ _ h'=>h'.elim);cases ok with
  |false=>exact zq ⟨rfl,h₃⟩
  |true =>
   exact zz (zz (wpAny_mono h₃ (fun x s₄ h₄=>zz (wpAny_mono h₄ (fun _ s₅ h₅=>zq (zq ⟨rfl,h₅⟩)) fun _ _ h'=>h'.elim)) fun _ _ h'=>h'.elim))
theorem jR{env:Env}{y:Str}:∀{names:List (Str×NameKind)},
  (names.map fun (n,k)=>if (k==NameKind.free&&env.scope.kind==.function&&env.kindOf n==some .cell) then (n,NameKind.cell) else (n,k)).lookup y =
   (names.lookup y).map fun k=>if (k==NameKind.free&&env.scope.kind==.function&&env.kindOf y==some .cell) then NameKind.cell else k
 |[]=>rfl
 | (n,k)::r=>by
  have ih:=@jR env y r;rw[zH];by_cases hx:y=n
  ·subst hx
   dsimp only;split <;> simp_all [yr]
  ·have hb:(y==n)=false:=beq_eq_false_iff_ne.mpr hx
   dsimp only;split <;> simp only[yr,hb] <;> exact ih
noncomputable def bj(X:Cx)(scope:Scope)(cl:List (Str×Addr))(C:Addr)(N':List Str)(s:Shared)(H:Hp)(fp:List Addr):Cx where
 prog:=X.prog
 w:=X.w
 K:=X.K
 mg:=X.mg
 base:=X.base
 A:=X.A
 N:=N'
 s₀:=s
 H₀:=H
 env:=compEnvC scope cl C X.env
 outer:=X.stack
 stack:=X.stack
 ex:=fp
 fn:=fun _=>false
 calm:=X.calm
 pn:=[]
 xe:=fun _ _=>False
structure dX (X:Cx) (scope:Scope) (cl:List (Str×Addr)) (xs:List Str) (N':List Str):Prop where
 kind:scope.kind=.function
 tH:∀y∈scope.names,y.2≠.cell
 loc:∀x∈xs,scope.names.lookup x=some .local
 names:∀y∈scope.names,y.2=.local->scope.names.lookup y.1=some .local
 only:∀y,scope.names.lookup y=some .local->y∈xs\/y=(".0":Str)
 GW:closureFor scope X.env=pure cl
 cls:∀y c,cl.lookup y=some c->X.env.cells.lookup y=some c
 has:∀y,scope.names.lookup y=some .free->∃c,cl.lookup y=some c
 out:∀y,scope.names.lookup y=some .free->X.env.kindOf y=some .cell\/X.env.kindOf y=some .free
 nd:N'.Nodup
 n0:∀(i:Nat) (y:Str),xs[i]?=some y->N'[i]?=some y
 ns:∀(i:Nat) (y:Str),N'[i+xs.length]?=some y->y ∉ xs/\y≠(".0":Str)/\(X.N[i]?=some y\/¬ uz scope y)
 len:N'.length=X.N.length+xs.length
theorem fM{scope:Scope}{env:Env}{y:Str}:(relabel scope env).names.lookup y=(scope.names.lookup y).map fun k=>if (k==NameKind.free&&env.scope.kind==.function&&env.kindOf y==some .cell) then NameKind.cell else k:=jR
theorem lookup_mem{y:Str}{k:NameKind}:∀{names:List (Str×NameKind)},names.lookup y=some k->(y,k)∈names:=fun h=>PySem.mem_of_lookup h
section
variable {X:Cx}{scope:Scope}{cl:List (Str×Addr)}{xs:List Str}{N':List Str}{pins:List (Addr×Obj)}{σ:St}{H:Hp}{s:Shared}{fp:List Addr}
theorem dX.cellAt(S:dX X scope cl xs N'){C:Addr}{y:Str}(h:(compEnvC scope cl C X.env).kindOf y=some .cell\/(compEnvC scope cl C X.env).kindOf y=some .free):scope.names.lookup y=some .free:=by
 have e:(compEnvC scope cl C X.env).kindOf y=(scope.names.lookup y).map fun k=>if (k==NameKind.free&&X.env.scope.kind==.function&&X.env.kindOf y==some .cell) then NameKind.cell else k:=fM;rw[e]at h;cases q:scope.names.lookup y with
 |none=>rw[q]at h;simp at h
 |some k =>
  rw[q]at h;cases k with
  |free=>rfl
  |cell=>exact absurd rfl (S.tH _ (lookup_mem q))
  |_=>simp at h
theorem Kz(I:Inv X pins σ H s)(S:dX X scope cl xs N')(hf:∀b∈fp,eD X pins H b){C:Addr}(hC:s.heap.objs.size<=C)(hfs:∀b∈fp,b<s.heap.objs.size) :
  (bj X scope cl C N' s H fp).Ok where
 mod:=I.ok.mod
 kind:=S.kind
 glob:=I.ok.glob
 blt:=I.ok.blt
 above:=hC
 inj:=fun y z c h1 h2=>I.ok.inj y z c (S.cls _ _ h1) (S.cls _ _ h2)
 has:=fun y h=>S.has y (S.cellAt h)
 uw:=fun y c h=>by cases h
 hd:=I.ok.hd
 frames:=I.ok.frames
 vb:=.inl rfl
 IY:=fun b hb=>⟨zA (zj (hfs b hb) hC),fun y c e=>(hf b hb).2.2.2.2.1 y c (S.cls _ _ e)⟩
 bs:=I.bs
 kR:=zO I.ok.kR I.sz
 mZ:=fun b o e hb=>by
  rcases (hf b hb).2.2.2.1 with z|z
  ·exact I.ok.mZ b o e z
  ·exact absurd (zj (zn e) (zO I.ok.kR z)) (yx _)
 p9:=fun b hb z=>by
  rcases zg.mp (I.fD b z) with e|e
  ·exact(hf b hb).2.1 e
  ·exact(hf b hb).2.2.1 e
 eL:=I.stack
 mJ:=I.pE
theorem BX(I:Inv X pins σ H s)(S:dX X scope cl xs N')(hf:∀b∈fp,eD X pins H b){C:Addr}{h₁:Heap}{tk:Nat}{m:Str->Option Value}(hC:s.heap.objs.size<=C)(hfs:∀b∈fp,b<s.heap.objs.size)
  (old:∀b o,s.heap.get? b=some o->h₁.get? b=some o) (Iy:h₁.Ns C m):Inv (bj X scope cl C N' s H fp) (X.pn++pins) (zN xs.length none++σ) H { s with heap:=h₁,toks:=tk }:=by
 refine⟨Kz I S hf hC hfs,rfl,I.bare,Un.kept old,⟨m,Iy,fun i y v e1 e2 e3=>?_⟩,fun y c e=>?_,I.av.fresh hC,fun y c e=>I.cW y c (S.cls _ _ e),fun p hp=>?_,I.av.kept old,?_⟩
 ·by_cases hi:i<xs.length
  ·rw[zD (by rw[yw];exact hi),yX,if_pos hi]at e2
   cases e2
  ·obtain⟨j,rfl⟩:∃j,i=j+xs.length:=⟨i-xs.length,by omega⟩
   obtain⟨n1,n2,n3⟩:=S.ns j y e1;have e2':σ[j]?=some (some v):=by
    rw[zd (by rw[yw];omega),yw,wq]at e2;exact e2
   have e:(relabel scope X.env).names.lookup y=(scope.names.lookup y).map fun k=>if (k==NameKind.free&&X.env.scope.kind==.function&&X.env.kindOf y==some .cell) then NameKind.cell else k:=fM;have e3':(relabel scope X.env).names.lookup y=some .local\/(relabel scope X.env).names.lookup y=some .cell\/(relabel scope X.env).names.lookup y=some .free:=e3;have q:scope.names.lookup y=some .free:=by
    cases q:scope.names.lookup y with
    |none=>rw[e,q]at e3';simp at e3'
    |some k =>
     rw[e,q]at e3';cases k with
     |free=>rfl
     |cell=>exact absurd rfl (S.tH _ (lookup_mem q))
     |«local» =>
      rcases S.only y q with z|z
      ·exact absurd z n1
      ·exact absurd z n2
     |_=>simp at e3'
   have hN:X.N[j]?=some y:=by
    rcases n3 with z|z
    ·exact z
    ·exact absurd (Or.inr (Or.inr q)) z
   obtain⟨m',hn',hl'⟩:=I.loc;have vx:uz X.env.scope y:=by
    rcases S.out y q with z|z
    ·exact .inr (.inl z)
    ·exact .inr (.inr z)
   obtain⟨u,ru,lk⟩:=hl' j y v hN e2' vx;refine⟨u,ru,?_⟩;rcases lk with ⟨k1,_⟩|⟨_,c,hc,o,ho,hd⟩
   ·rcases S.out y q with z|z
    ·rw[z]at k1;cases k1
    ·rw[z]at k1;cases k1
   ·obtain⟨c',hc'⟩:=S.has y q
    have:=S.cls y c' hc'
    rw[hc]at this;cases this;refine .inr ⟨?_,c,hc',o,old _ _ ho,hd⟩;rw[e,q]at e3';show (relabel scope X.env).names.lookup y=some .cell\/(relabel scope X.env).names.lookup y=some .free;rw[e,q];rcases e3' with z|z
    ·simp only[yU,Option.some.injEq]at z
     split at z <;> cases z
    ·exact z
 ·obtain⟨v,o,ho,hd⟩:=I.cell y c (S.cls _ _ e)
  exact⟨v,o,old _ _ ho,hd⟩
 ·have hp':p∈X.pn++pins:=hp
  obtain⟨e,n,ne,nf,d⟩:=I.pin p hp';refine⟨old _ _ e,n,zA (zj (zn e) hC),fun z=>?_,d⟩;rcases zg.mp (I.fD _ z) with q|q
  ·exact ne q
  ·exact nf q
 ·show (zN xs.length none++σ).length=N'.length
  rw[S.len,zf,yw,I.len,wY]
end
theorem Un.adopt{fs ex:List Addr}{H H':Hp}{h h':Heap}{D:Addr}{o:HO}(u:Un fs ex H H' h h')(hD:h.get? D=none)(hn:H' D=none):Un fs ex H (upd H' D o) h h' where
 keep:=u.keep
 slot:=u.slot
 free:=fun b ob q n hx=>by
  have:b≠D:=fun z=>by rw[z,hD]at q;cases q
  rw[aB this];exact u.free b ob q n hx
 there:=u.there
 ic:=fun b xs q=>by
  have q':=u.ic b xs q;rw[aB (aP q' hn)];exact q'
 gI:=fun b ob v q=>by
  have q':=u.gI b ob v q;rw[aB (aP q' hn)];exact q'
 ig:=fun b ps q=>by
  obtain⟨more,q'⟩:=u.ig b ps q;exact⟨more,by rw[aB (aP q' hn)];exact q'⟩
theorem bX.adopt{P:Program}{w:World}{H:Hp}{h:Heap}{D:Addr}{o:HO}(x:bX P w H h)(hn:H D=none)(new:bJ P w (upd H D o) h D o):bX P w (upd H D o) h:=fun b u e=>by
 by_cases hb:b=D
 ·subst hb;rw[aT]at e;cases e;exact new
 ·rw[aB hb]at e
  exact(x b u e).iH (fun _ _ _ q=>q) (fun c q=>by rw[aB (aP q hn)];exact q) fun c xs q=>by rw[aB (aP q hn)];exact q
noncomputable def jz(X:Cx)(ifs:List Expr)(tc:TT):Prop :=
 ∀(pins:List (Addr×Obj)) (s:Shared) (σ:St) (H:Hp) (Q:Bool->Hp->Prop),Inv X pins σ H s->tc σ H Q ->
  wpAny (model X.prog X.w) X.A (forIn ifs true fun c r=>if r=true then do let ok<-isTrue c X.env (eval c X.env);pure (ForInStep.yield ok) else pure (ForInStep.yield r)) (TP X pins σ Q) X.xe s
noncomputable def Fi:TT:=fun _ H Q=>Q true H
theorem vp{X:Cx}:jz X [] Fi:=fun _ _ _ H _ I h=>wpAny_tests_nil ⟨H,I,h⟩
theorem vo{X:Cx}{c:Expr}{tc:TT}(hc:PT X c tc):jz X [c] tc:=fun pins s σ H Q I h=>wpAny_tests_one (hc pins s σ H Q I h)
noncomputable abbrev lobj(its:List Value) (n:Nat):Obj:={ cls:=.type "list",data:=.seq its.toArray n }
noncomputable def pk(J:It)(g:TG)(kk:Nat)(tc:TT)(te:TE)(σ:St)(Fin:List V->Hp->Prop)(W:Nat->Nat->List V->Hp->Prop):Prop:=∀i m ys H,W i m ys H ->
 (J.stop i H/\ys.length<=zp/\Fin ys H) \/
 (J.go i H/\ys.length<zp/\∀v H' (os:St),os.length=kk->J.iZ i H v H'->g v (os++σ) H' fun σ1 H1=>∃Pn:St,Pn.length=kk/\σ1=Pn++σ/\tc σ1 H1 fun b H2=>if b=true then te σ1 H2 fun y H3=>∃m',m'<m/\W (i+1) m' (ys++[y]) H3 else ∃m',m'<m/\W (i+1) m' ys H2)
structure Cj (ok:Cx->Prop) (P:Program) (w:World) (K:Q_) (tg:Expr) (J:It) (fp:List Addr) (it:Addr) (tn:Nat->Heap->Prop):Prop where
 obj:∀i h,tn i h->∀b∈fp,∃o,h.get? b=some o/\∀v,o.data≠.cell v
 keep:∀i h h',tn i h->(∀b∈fp,∀o,h.get? b=some o->h'.get? b=some o)->tn i h'
 item:∀(X:Cx),X.prog=P->X.w=w->X.K=K->ok X->∀(i:Nat) (pins:List (Addr×Obj)) (s:Shared) (σ:St) (H:Hp) (E:Value->Shared->Prop),Inv X pins σ H s->(∀b∈fp,eD X pins H b)->tn i s.heap->J.go i H ->
  wpAny (model P w) X.A (pyNext (.ref it)) (fun r s1=>∃u,r=some u /\
   wpAny (model P w) X.A (letOwnedTupleGo tg (.ref it) u) (fun _ s2=>∃x H',Inv X pins σ H' s2/\RelV x u/\J.iZ i H x H'/\tn (i+1) s2.heap/\∀b∈fp,H' b=none) E s1) E s
 done:∀(X:Cx),X.prog=P->X.w=w->X.K=K->ok X->∀(i:Nat) (pins:List (Addr×Obj)) (s:Shared) (σ:St) (H:Hp) (E:Value->Shared->Prop),Inv X pins σ H s->(∀b∈fp,eD X pins H b)->tn i s.heap->J.stop i H ->
  wpAny (model P w) X.A (pyNext (.ref it)) (fun r s1=>r=none/\Inv X pins σ H s1) E s
 self:∀(A:Around) (i:Nat) (s:Shared) (Q:Value->Shared->Prop) (E:Value->Shared->Prop),tn i s.heap->Q (.ref it) s->wpAny (model P w) A (pyIter (.ref it)) Q E s
theorem Turn.toC{P:Program}{w:World}{K:Q_}{tg:Expr}{J:It}{fp:List Addr}{it:Addr}{tn:Nat->Heap->Prop}(T:Turn P w K tg J fp it tn):Cj (fun X=>X.calm=true) P w K tg J fp it tn:=⟨T.obj,T.keep,T.item,T.done,T.self⟩
section
variable {X:Cx}{scope:Scope}{cl:List (Str×Addr)}{xs:List Str}{tg:Expr}{g:TG}{N':List Str}{pins:List (Addr×Obj)}{σ:St}{H:Hp}{s:Shared}{fp:List Addr}{it:Addr}{J:It}{tn:Nat->Heap->Prop}
 {elt iter:Expr} {ifs:List Expr} {pos:Pos} {tc:TT} {te:TE}
theorem kG
  {ok:Cx->Prop} (hc:∀C,ok (bj X scope cl C N' s H fp))
  (S:dX X scope cl xs N') (hg:∀C s H fp,PG (bj X scope cl C N' s H fp) tg g) (htc:∀C s H fp,jz (bj X scope cl C N' s H fp) ifs tc) (hte:∀C s H fp,PE (bj X scope cl C N' s H fp) elt te)
  (I:Inv X pins σ H s)
  (T:Cj ok X.prog X.w X.K tg J fp it tn)
  (st:tn 0 s.heap) (hf:∀b∈fp,eD X pins H b)
  {Fin:List V->Hp->Prop} {W:Nat->Nat->List V->Hp->Prop} (hW:pk J g xs.length tc te σ Fin W) {m0:Nat} (w0:W 0 m0 [] H) {E:Value->Shared->Prop} {RR:Value->Addr->Result->Shared->Prop}
  (fin:∀(D C:Addr) (s':Shared) (ys:List V) (H':Hp),Inv X pins σ (upd H' D (.lst ys)) s'->H' D=none->upd H' D (.lst ys) C=none->C≠X.env.locals->X.s₀.heap.objs.size<=C->(∀y c,X.env.cells.lookup y=some c->c≠C)->(∀p∈X.pn++pins,p.1≠C) ->
   (∃m,s'.heap.Ns C m)->Fin ys H'->RR (.ref D) C (.ok .next) s') :
  wpAny (model X.prog X.w) X.A (newList []) (fun acc s₃=>wpAny (model X.prog X.w) X.A (newFunctionEnv scope X.env.globals cl [] X.env.qual none .none (some X.env)) (fun NN s₄ =>
   codeAny (model X.prog X.w) X.A (.compStart (.ListComp elt [⟨tg,iter,ifs,0⟩] scope pos) 0 (.ref it) acc { NN with scope:=relabel scope X.env }) (RR acc NN.locals) s₄) E s₃) E s:=by
 have hfs:∀b∈fp,b<s.heap.objs.size:=fun b hb=>by
  obtain⟨o,e,_⟩:=T.obj _ _ st b hb;exact zn e
 refine wpAny_newObj_type (wpAny_newFunctionEnv S.tH (by intro y hy;simp at hy) (fun h₁ tY oz=>?_) S.kind);dsimp only at tY oz ⊢;generalize hH2:s.heap.push { cls:=.type "list",dict:=none,data:=.seq ([]:List Value).toArray }=H2 at tY oz ⊢;generalize hDe:s.heap.objs.size=D at *;generalize Vz:H2.objs.size=C at *;have hC:C=D+1:=by rw[<- Vz,<- hH2,zX,hDe]
 have IU:D≠C:=by rw[hC];exact zA (xu _)
 have nz:D<=C:=by rw[hC];exact yh _
 have old:∀b o,s.heap.get? b=some o->h₁.get? b=some o:=fun b o e=>by
  have hb:b<D:=hDe▸zn e;exact oz.extBut b o (zA (zj hb nz)) (zy _ (hH2▸zy _ e))
 have iR:h₁.get? D=some (lobj [] 0):=oz.extBut _ _ IU (zy _ (hH2▸hDe▸zk _ rfl));have U0:s.heap.get? D=none:=yi (yH hDe);have ptD:∀p∈X.pn++pins,p.1<D:=fun p hp=>hDe▸zn (I.pin p hp).1;have clD:∀y c,X.env.cells.lookup y=some c->c<D:=fun y c e=>by
  obtain⟨v,o,ho,_⟩:=I.cell y c e;exact hDe▸zn ho
 have fsD:∀b∈dS X.stack,b<D:=fun b hb=>by
  obtain⟨_,o,ho,_⟩:=I.stack.mem hb;exact hDe▸zn ho
 have loop:∀s₃:Shared,s₃={ s with heap:=h₁,toks:=s.toks+([]:List (Str×Value)).length } ->
   codeAny (model X.prog X.w) X.A (.compLoop (.ListComp elt [⟨tg,iter,ifs,0⟩] scope pos) 0 (.ref it) (.ref D) (compEnvC scope cl C X.env)) (RR (.ref D) C) s₃:=by
  rintro s₃ rfl;have I₁:Inv (bj X scope cl C N' s H fp) (X.pn++pins) (zN xs.length none++σ) H { s with heap:=h₁,toks:=s.toks+([]:List (Str×Value)).length } :=
   BX I S hf (by rw[hDe];exact nz) (fun b hb=>by rw[hDe];exact hfs b hb) old tY
  have LZ:∀{its:List Value} {n:Nat} {σ':St} {H':Hp} {s':Shared},Inv (bj X scope cl C N' s H fp) (X.pn++pins) σ' H' s'->s'.heap.get? D=some (lobj its n)->H' D=none ->
    Inv (bj X scope cl C N' s H fp) ((X.pn++pins)++[(D,lobj its n)]) σ' H' s':=fun {its n σ' H' s'} J' e n=>J'.pM fun p hp=>by
   rcases zT.mp hp with hp|hp
   ·exact J'.pin p (zC _ hp)
   ·rw[zG.mp hp]
    exact⟨e,n,IU,fun z=>yx _ (fsD D z),fun v z=>by cases z⟩
  refine kH (fun k s'=>∃(i:Nat) (ys:List V) (its:List Value) (n:Nat) (os:St) (H':Hp),os.length=xs.length/\Inv (bj X scope cl C N' s H fp) ((X.pn++pins)++[(D,lobj its n)]) (os++σ) H' s'/\Vals ys its/\tn i s'.heap/\(∀b∈fp,H' b=none)/\W i k ys H') ?_ m0
   ⟨0,[],[],0,zN xs.length none,H,yw ..,LZ I₁ iR (I.av.fresh (yH hDe)),.nil,T.keep _ _ _ st fun b _ o e=>old b o e,fun b hb=>(hf b hb).1,w0⟩
  rintro k s4 ⟨i,ys,its,n,os,H4,D3,I4,rv,Pj,Qj,w4⟩;have pD:∀{its:List Value} {n:Nat} {pl:List (Addr×Obj)} {σ':St} {H':Hp} {s':Shared},Inv (bj X scope cl C N' s H fp) (((X.pn++pins)++[(D,lobj its n)])++pl) σ' H' s'->s'.heap.get? D=some (lobj its n)/\H' D=none:=fun J' =>
   let q:=J'.pin (D,lobj _ _) (zC _ (zW _ (zC _ zR)))
   ⟨q.1,q.2.1⟩
  have stat:∀{its:List Value} {n:Nat} {H':Hp},(∀b∈fp,H' b=none)->∀b∈fp,eD (bj X scope cl C N' s H fp) ((X.pn++pins)++[(D,lobj its n)]) H' b:=fun {its n H'} hn b hb=>by
   obtain⟨f0,f1,f2,f3,f4,f5⟩:=hf b hb;refine⟨hn b hb,zA (zj (hfs b hb) nz),fun z=>?_,.inl hb,fun y c e=>f4 y c (S.cls _ _ e),fun p hp=>?_⟩
   ·rcases zg.mp (I.fD b z) with q|q
    ·exact f1 q
    ·exact f2 q
   ·have hp:p∈(X.pn++pins)++[(D,lobj its n)]:=hp
    rcases zT.mp hp with hp|hp
    ·exact f5 p hp
    ·rw[zG.mp hp]
     exact Ne.symm (zA (hfs b hb))
  rcases hW i k ys H4 w4 with ⟨stop,hz,q⟩|⟨go,hz,step⟩
  ·refine aF (T.done (bj X scope cl C N' s H fp) rfl rfl rfl
    (hc C)
    i _ s4 _ H4 _ I4 (stat Qj) Pj stop) fun r s5 ⟨hr,I5⟩=>?_
   subst hr;obtain⟨gD,nD⟩:=pD (pl:=[]) (by rw[zJ];exact I5);have un:Un (dS X.stack) fp H (upd H4 D (.lst ys)) s.heap s5.heap:=Un.adopt I5.base U0 nD;have av:bX X.prog X.w (upd H4 D (.lst ys)) s5.heap:=bX.adopt I5.av nD ⟨hz,its,n,rv,gD⟩;have I6:Inv X pins σ (upd H4 D (.lst ys)) s5:=I.call' (ch:=fp) I5.os un av I5.bare fun b hb=>by
    obtain⟨f0,f1,f2,f3,f4,f5⟩:=hf b hb;exact⟨f3,f1,f4,f5⟩
   have cn:H4 C=none:=I5.free;have lo:X.s₀.heap.objs.size<=C:=zO I.sz (by rw[hDe];exact nz);exact fin D C s5 ys H4 I6 nD (by rw[aB (Ne.symm IU)];exact cn) (zI (zj (hDe▸I.lt) nz)) lo (fun y c e=>zA (zj (clD y c e) nz)) (fun p hp=>zA (zj (ptD p hp) nz))
    (let ⟨m,hm,_⟩:=I5.loc;⟨m,hm⟩) q
  ·refine aF (T.item (bj X scope cl C N' s H fp) rfl rfl rfl
    (hc C)
    i _ s4 _ H4 _ I4 (stat Qj) Pj go) fun r s5 ⟨u,hr,h5⟩=>?_
   subst hr;refine aF h5 fun _ s6 ⟨v,H6,I6,r6,y6,Lk,VD⟩=>?_;have I6':=I6.pinned (stat VD) (T.obj _ _ Lk);refine aF (hg C s H fp _ s6 _ H6 v u _ I6' r6 (step v H6 os D3 y6)) fun _ s7 ⟨σ7,H7,I7,os7,D0,e7,q7⟩=>?_;subst e7;have Ql:∀{σ':St} {H':Hp} {s':Shared},Inv (bj X scope cl C N' s H fp) (((X.pn++pins)++[(D,lobj its n)])++lu fp s6.heap) σ' H' s'->tn (i+1) s'.heap/\∀b∈fp,H' b=none:=fun {σ' H' s'} J' =>
    ⟨T.keep _ _ _ Lk fun b hb ob e=>(J'.pin (b,ob) (zC _ (zC _ (iu hb e)))).1,fun b hb=>by
     obtain⟨ob,e,d⟩:=T.obj _ _ Lk b hb;exact(J'.pin (b,ob) (zC _ (zC _ (iu hb e)))).2.1⟩
   refine aF (htc C s H fp _ s7 _ H7 _ I7 q7) fun b s8 ⟨H8,I8,q8⟩=>?_;cases b with
   |false =>
    rw[if_neg zt]at q8 ⊢;obtain⟨m',hm,w8⟩:=q8;obtain⟨t8,f8⟩:=Ql I8;exact⟨m',hm,i+1,ys,its,n,os7,H8,D0,I8.gB,rv,t8,f8,w8⟩
   |true =>
    rw[if_pos rfl]at q8 ⊢;refine aF (hte C s H fp _ s8 _ H8 _ I8 q8) fun u9 s9 ⟨y,H9,I9,r9,m',hm,w9⟩=>?_;obtain⟨gD,nD⟩:=pD I9;obtain⟨t9,f9⟩:=Ql I9;refine append_at (its:=its.toArray) (n:=n) gD (fun h' sb hD'=>?_) (by have:=rv.length;simp;omega);have NZ:Inv (bj X scope cl C N' s H fp) (X.pn++pins) (os7++σ) H9 s9:=I9.gB.gB;have V5:Inv (bj X scope cl C N' s H fp) (X.pn++pins) (os7++σ) H9 { s9 with heap:=h' }:=NZ.turned (t':=s9.toks) (it:=D) (fun b ob hb e=>sb.extBut b ob hb e) nD IU (.inr (yH hDe))
     (fun z c e=>zA (clD z c (S.cls _ _ e))) fun p hp=>zA (ptD p hp)
    refine⟨m',hm,i+1,ys++[y],its++[u9],n+1,os7,H9,D0,LZ V5 (by rw[hD'];simp) nD,rv.append (.cons r9 .nil),T.keep _ _ _ t9 fun b hb ob e=>sb.extBut b ob (zA (hfs b hb)) e,f9,w9⟩
 exact codeAny_compStart_list (loop _ rfl) (T.self X.A 0 _ _ _ (T.keep _ _ _ st fun b _ o e=>old b o e) (loop _ rfl))
end
noncomputable def rA(wi:TI)(g:TG)(kk:Nat)(tc:TT)(te:TE):TE:=fun σ H Q=>wi σ H fun J H1=>∃W:Nat->Nat->List V->Hp->Prop,(∃m,W 0 m [] H1) /\
 pk J g kk tc te σ (fun ys H'=>∀p,H' p=none->Q (.ref p) (upd H' p (.lst ys))) W
section
variable {X:Cx}{scope:Scope}{cl:List (Str×Addr)}{xs:List Str}{tg:Expr}{g:TG}{N':List Str}{elt iter:Expr}{ifs:List Expr}{pos:Pos}{tc:TT}{te:TE}{wi:TI}
theorem pP{pins:List (Addr×Obj)}{σ:St}{H:Hp}{s:Shared}{C:Addr}{h':Heap}(I:Inv X pins σ H s)(sb:Heap.SameBut C s.heap h')(h0:H C=none)(h1:C≠X.env.locals)(h2:X.s₀.heap.objs.size<=C)(h3:∀y c,X.env.cells.lookup y=some c->c≠C)(h4:∀p∈X.pn++pins,p.1≠C) :
  Inv X pins σ H { s with heap:=h' }:=I.turned (t':=s.toks) (it:=C) (fun b ob hb e=>sb.extBut b ob hb e) h0 h1 (.inr h2) h3 h4
theorem pN(hc:X.calm=true)(S:dX X scope cl xs N')(hg:∀C s H fp,PG (bj X scope cl C N' s H fp) tg g)(hi:PI X tg iter wi)(htc:∀C s H fp,jz (bj X scope cl C N' s H fp) ifs tc)(hte:∀C s H fp,PE (bj X scope cl C N' s H fp) elt te)
  (hs:∀x,foldedSetIterable iter X.env x=pure x):PE X (.ListComp elt [⟨tg,iter,ifs,0⟩] scope pos) (rA wi g xs.length tc te):=by
 intro pins s σ H Q I h;rw[eval_ListComp];refine wpAny_comprehension_free (use:=none) rfl hs S.GW S.kind S.names (aF (hi pins s σ H _ I h) fun v s1 h1=>aF h1 fun HW s2 h2=>?_);obtain⟨it,fp,tn,J,H2,e,I2,T,st2,f2,W,⟨m0,w0⟩,hW⟩:=h2;subst e;refine kG (RR:=fun acc C=>compPost (model X.prog X.w) X.A X.xe none (EP X pins σ Q) acc C)
  (fun _=>hc)
  S hg htc hte I2
  T.toC
  st2 f2 hW w0 ?_
 intro D C s' ys H' I' nD cn c1 c2 c3 c4 ns q;obtain⟨m,hm⟩:=ns;exact⟨m,hm,fun h' sb=>⟨.ref D,_,pP I' sb cn c1 c2 c3 c4,rfl,q D nD⟩⟩
theorem JX{x:Str}{px:Pos}{i:Nat}{y:Str}{py Aw:Pos}(hc:X.calm=true)(S:dX X scope cl xs N')(hg:∀C s H fp,PG (bj X scope cl C N' s H fp) (.Name x px) g)(hi:PI X (.Name x px) iter wi)(htc:∀C s H fp,jz (bj X scope cl C N' s H fp) ifs tc)(hte:∀C s H fp,PE (bj X scope cl C N' s H fp) elt te)
  (hs:∀x,foldedSetIterable iter X.env x=pure x) (hN:X.N.Nodup) (hy:X.N[i]?=some y) (hx:Loc X.env.scope y) (hf:X.fn y=true\/X.env.scope.names.lookup y=some .local) :
  PS X (.Assign [.Name y py] (.ListComp elt [⟨.Name x px,iter,ifs,0⟩] scope pos) Aw) (pC (rA wi g xs.length tc te) (cN i)):=by
 have Iq:∃b:Bool,swapsWith (.ListComp elt [⟨.Name x px,iter,ifs,0⟩] scope pos) (some (.Name y py)) Aw.line X.env=pure b:=⟨_,rfl⟩;obtain⟨b,Iq⟩:=Iq;cases b with
 |false=>exact jN hN hy hx (pN hc S hg hi htc hte hs) Iq hf
 |true =>
  intro pins s σ H D I h;rw[exec_Assign_Name_used _ _ _ _ Iq];refine zz (wpAny_standAt (zz ?_));show wpAny _ X.A (do let _<-comprehension (.ListComp elt [⟨.Name x px,iter,ifs,0⟩] scope pos) scope X.env _ (newList []) false (eval iter X.env) (some (assign (.Name y py) X.env))) _ _ s;refine zz (aF (wpAny_comprehension_free (use:=some (assign (.Name y py) X.env)) (Q:=fun _ s'=>SP X pins D .next s') rfl hs S.GW S.kind S.names
   (aF (hi pins s σ H _ I h) fun v s1 h1=>aF h1 fun HW s2 h2=>?_)) fun _ s' hq=>zq (zq hq))
  obtain⟨it,fp,tn,J,H2,e,I2,T,st2,f2,W,⟨m0,w0⟩,hW⟩:=h2;subst e;refine kG (RR:=fun acc C=>compPost (model X.prog X.w) X.A X.xe (some (assign (.Name y py) X.env)) (fun _ s'=>SP X pins D .next s') acc C)
   (fun _=>hc)
   S hg htc hte I2
   T.toC
   st2 f2 hW w0 ?_
  intro Dl C s' ys H' I' nD cn c1 c2 c3 c4 ns q;obtain⟨m,hm⟩:=ns;show wpAny _ X.A (assign (.Name y py) X.env (.ref Dl)) _ _ _;refine wpAny_assign_Name (qp I' hN hy hx (v:=.ref Dl) rfl (fun s2 I2' ⟨a,sb,ha⟩=>?_) hf);have VA:C≠a:=by
   rcases ha with z|z
   ·rw[z];exact c1
   ·exact fun e=>c3 _ _ z e.symm
  refine⟨m,hm.sameBut sb VA,fun h' sb'=>?_⟩;exact⟨_,_,pP I2' sb' cn c1 c2 c3 c4,q Dl nD⟩
end
end L2
namespace L3
open PySem PySem.Spec PyProof.Rows L2
noncomputable abbrev St:=L2.St
noncomputable def Ac(K:Q_)(H:Hp)(a:Addr)(xs:List V):Prop :=
 (∃o,H a=some (.frz o (.lst xs))) \/
  ∃(o:Obj) (its:Array Value) (n:Nat),K.lookup a=some o/\o.cls=.type "list"/\o.dict=none/\o.data=.seq its n/\its.size<=zp/\Vals xs its.toList
theorem Ac.seq{K:Q_}{H:Hp}{a:Addr}{xs:List V}(h:Ac K H a xs):aJ K H a xs:=by
 rcases h with ⟨o,h⟩|h
 ·exact .inl (.inr ⟨o,h⟩)
 ·exact .inr h
mutual
inductive Rep (K:Q_) (ι:List Addr) (H:Hp):D->V->Prop where
 |non:Rep K ι H .non .non
 |bl (b:Bool):Rep K ι H (.bl b) (.bl b)
 |int (i:Int):Rep K ι H (.int i) (.int i)
 |str (x:Str):Rep K ι H (.str x) (.str x)
 |tup {a:Addr} {vs:List V} {ds:List D}:H a=some (.tup vs)->aC K ι H ds vs->Rep K ι H (.tup ds) (.ref a)
 |fl {a:Addr} {vs:List V} {ds:List D}:Ac K H a vs->aC K ι H ds vs->Rep K ι H (.fl ds) (.ref a)
 |ob {i:Nat} {a:Addr}:ι[i]?=some a->Rep K ι H (.ob i) (.ref a)
inductive aC (K:Q_) (ι:List Addr) (H:Hp):List D->List V->Prop where
 |nil:aC K ι H [] []
 |cons {d:D} {v:V} {ds:List D} {vs:List V}:Rep K ι H d v->aC K ι H ds vs->aC K ι H (d::ds) (v::vs)
end
structure Ext (K:Q_) (ι:List Addr) (H:Hp) (ι':List Addr) (H':Hp):Prop where
 pre:∀(i:Nat) (a:Addr),ι[i]?=some a->ι'[i]?=some a
 tup:∀a xs,H a=some (.tup xs)->H' a=some (.tup xs)
 fz:∀a xs,Ac K H a xs->Ac K H' a xs
section
variable {K:Q_}{ι ι' ι'':List Addr}{H H' H'':Hp}
theorem Ext.refl:Ext K ι H ι H where
 pre:=fun _ _ e=>e
 tup:=fun _ _ e=>e
 fz:=fun _ _ e=>e
theorem Ext.trans(a:Ext K ι H ι' H')(b:Ext K ι' H' ι'' H''):Ext K ι H ι'' H'' where
 pre:=fun i c e=>b.pre i c (a.pre i c e)
 tup:=fun c xs e=>b.tup c xs (a.tup c xs e)
 fz:=fun c xs e=>b.fz c xs (a.fz c xs e)
mutual
theorem Rep.mono(x:Ext K ι H ι' H'):∀{d:D} {v:V},Rep K ι H d v->Rep K ι' H' d v
 |_,_,.non=>.non
 |_,_,.bl b=>.bl b
 |_,_,.int i=>.int i
 |_,_,.str y=>.str y
 |_,_,.tup a r=>.tup (x.tup _ _ a) (aC.mono x r)
 |_,_,.fl a r=>.fl (x.fz _ _ a) (aC.mono x r)
 |_,_,.ob e=>.ob (x.pre _ _ e)
theorem aC.mono(x:Ext K ι H ι' H'):∀{ds:List D} {vs:List V},aC K ι H ds vs->aC K ι' H' ds vs
 |_,_,.nil=>.nil
 |_,_,.cons r t=>.cons (Rep.mono x r) (aC.mono x t)
end
theorem aC.length:∀{ds:List D} {vs:List V},aC K ι H ds vs->ds.length=vs.length
 |_,_,.nil=>rfl
 |_,_,.cons _ t=>by rw[zi,zi,aC.length t]
theorem aC.get:∀{ds:List D} {vs:List V} {i:Nat} {d:D},aC K ι H ds vs->ds[i]?=some d->∃v,vs[i]?=some v/\Rep K ι H d v
 |_,_,_,_,.nil,e=>by simp at e
 |_,_,0,_,.cons r _,e=>by simp at e;subst e;exact⟨_,rfl,r⟩
 |_,_,i+1,d,.cons _ t,e=>by
  obtain⟨v,h1,h2⟩:=aC.get (i:=i) (d:=d) t (by simpa using e);exact⟨v,by simpa using h1,h2⟩
theorem aC.append:∀{ds es:List D} {vs us:List V},aC K ι H ds vs->aC K ι H es us->aC K ι H (ds++es) (vs++us)
 |_,_,_,_,.nil,s=>s
 |_,_,_,_,.cons r t,s=>.cons r (aC.append t s)
theorem aC.take:∀{ds:List D} {vs:List V} (n:Nat),aC K ι H ds vs->aC K ι H (ds.take n) (vs.take n)
 |_,_,0,_=>.nil
 |_,_,_+1,.nil=>.nil
 |_,_,n+1,.cons r t=>.cons r (aC.take n t)
theorem aC.drop:∀{ds:List D} {vs:List V} (n:Nat),aC K ι H ds vs->aC K ι H (ds.drop n) (vs.drop n)
 |_,_,0,r=>r
 |_,_,_+1,.nil=>.nil
 |_,_,n+1,.cons _ t=>aC.drop n t
theorem aC.set{d:D}{v:V}(r:Rep K ι H d v):∀{ds:List D} {vs:List V} (i:Nat),aC K ι H ds vs->aC K ι H (ds.set i d) (vs.set i v)
 |_,_,_,.nil=>.nil
 |_,_,0,.cons _ t=>.cons r t
 |_,_,i+1,.cons q t=>.cons q (aC.set r i t)
noncomputable def KR(K:Q_)(ι:List Addr)(H:Hp):List (Ky×D)->List (Key×V)->Prop:=Paired fun p q=>p.1=q.1/\Rep K ι H p.2 q.2
noncomputable def FR(K:Q_)(ι:List Addr)(H:Hp):List (Str×D)->List (Str×V)->Prop:=Paired fun p q=>p.1=q.1/\Rep K ι H p.2 q.2
noncomputable def lP(K:Q_)(ι:List Addr)(H:Hp):MO->Option HO->Prop
 |.lst ds,x=>∃vs,x=some (.lst vs)/\aC K ι H ds vs
 |.aY kvs,x=>∃ws,x=some (.dK ws)/\KR K ι H kvs ws
 |.ins C fs,x=>∃dx ws,x=some (.ins C dx ws)/\FR K ι H fs ws
theorem KR.mono(x:Ext K ι H ι' H'){a:List (Ky×D)}{b:List (Key×V)}(r:KR K ι H a b):KR K ι' H' a b:=Paired.pT r fun _ _ z=>⟨z.1,z.2.mono x⟩
theorem lP.mono(x:Ext K ι H ι' H'){o:MO}{h:Option HO}(r:lP K ι H o h):lP K ι' H' o h:=by
 cases o with
 |lst ds=>obtain⟨vs,e,q⟩:=r;exact⟨vs,e,q.mono x⟩
 |aY kvs=>obtain⟨ws,e,q⟩:=r;exact⟨ws,e,q.mono x⟩
 |ins C fs=>obtain⟨dx,ws,e,q⟩:=r;exact⟨dx,ws,e,Paired.pT q fun _ _ z=>⟨z.1,z.2.mono x⟩⟩
noncomputable def qf(u:HO):Prop:=(∀xs,u≠.tup xs)/\∀o v,u≠.frz o v
theorem Bt(vs:List V):qf (.lst vs):=⟨fun _ z=>(nomatch z),fun _ _ z=>(nomatch z)⟩
theorem Bu(vs:List (Key×V)):qf (.dK vs):=⟨fun _ z=>(nomatch z),fun _ _ z=>(nomatch z)⟩
theorem HQ(C dx:Addr)(vs:List (Str×V)):qf (.ins C dx vs):=⟨fun _ z=>(nomatch z),fun _ _ z=>(nomatch z)⟩
theorem lP.some{o:MO}{h:Option HO}(r:lP K ι H o h):∃u,h=.some u/\qf u:=by
 cases o with
 |lst ds=>obtain⟨vs,e,q⟩:=r;exact⟨_,e,Bt _⟩
 |aY kvs=>obtain⟨ws,e,q⟩:=r;exact⟨_,e,Bu _⟩
 |ins C fs=>obtain⟨dx,ws,e,q⟩:=r;exact⟨_,e,HQ _ _ _⟩
structure aK (K:Q_) (ι:List Addr) (M:MH) (H:Hp):Prop where
 len:ι.length=M.length
 inj:∀(i j:Nat) (a:Addr),ι[i]?=some a->ι[j]?=some a->i=j
 obj:∀(i:Nat) (a:Addr) (o:MO),ι[i]?=some a->M[i]?=some o->lP K ι H o (H a)
theorem bT{a:Addr}{xs:List V}(h:H a=some (.tup xs)):cz K H a xs:=.inl (.inl h)
theorem Ext.new{p:Addr}{ho:HO}(hp:H p=none):Ext K ι H (ι++[p]) (upd H p ho) where
 pre:=fun i a e=>by
  have hi:i<ι.length:=(zv.mp e).1;rw[zD hi];exact e
 tup:=fun a xs h=>by rw[aB (aP h hp)];exact h
 fz:=fun a xs h=>by
  rcases h with ⟨o,h⟩|h
  ·exact .inl ⟨o,by rw[aB (aP h hp)];exact h⟩
  ·exact .inr h
theorem Ext.dn{p:Addr}{ho:HO}(hp:H p=none):Ext K ι H ι (upd H p ho) where
 pre:=fun i a e=>e
 tup:=fun a xs h=>by rw[aB (aP h hp)];exact h
 fz:=fun a xs h=>by
  rcases h with ⟨o,h⟩|h
  ·exact .inl ⟨o,by rw[aB (aP h hp)];exact h⟩
  ·exact .inr h
theorem Ext.write{p:Addr}{u ho:HO}(hp:H p=some u)(hu:qf u):Ext K ι H ι (upd H p ho) where
 pre:=fun i a e=>e
 tup:=fun a xs h=>by rw[aB (Bq h hp fun z=>hu.1 _ z.symm)];exact h
 fz:=fun a xs h=>by
  rcases h with ⟨o,h⟩|h
  ·exact .inl ⟨o,by rw[aB (Bq h hp fun z=>hu.2 _ _ z.symm)];exact h⟩
  ·exact .inr h
variable {M M':MH}
theorem aK.tracked(S:aK K ι M H){i:Nat}{a:Addr}(e:ι[i]?=some a):∃u,H a=some u/\qf u:=by
 have hi:i<M.length:=by rw[<- S.len];exact(zv.mp e).1
 exact(S.obj i a _ e (zw hi)).some
theorem aK.new(S:aK K ι M H){p:Addr}{o:MO}{ho:HO}(hp:H p=none)(r:lP K (ι++[p]) (upd H p ho) o (some ho)):aK K (ι++[p]) (M++[o]) (upd H p ho) where
 len:=by rw[zf,zf,S.len];rfl
 inj:=fun i j a h1 h2=>by
  have np:∀(k:Nat),ι[k]?=some p->False:=fun k e=>by
   obtain⟨u,hu,_⟩:=S.tracked e;rw[hp]at hu;cases hu
  by_cases hi:i<ι.length
  ·rw[zD hi]at h1
   by_cases hj:j<ι.length
   ·rw[zD hj]at h2
    exact S.inj i j a h1 h2
   ·rw[zd (by first|lia|omega)]at h2
    have e:a=p:=by
     have:=zF h2
     simpa using this
    subst e;exact(np i h1).elim
  ·rw[zd (by first|lia|omega)]at h1
   have e:a=p:=by
    have:=zF h1
    simpa using this
   subst e;by_cases hj:j<ι.length
   ·rw[zD hj]at h2
    exact(np j h2).elim
   ·have l1:=(zv.mp h1).1
    rw[zd (by first|lia|omega)]at h2
    have l2:=(zv.mp h2).1;simp at l1 l2;first|lia|omega
 obj:=fun i a q h1 h2=>by
  by_cases hi:i<ι.length
  ·rw[zD hi]at h1
   rw[zD (by rw[<- S.len];exact hi)]at h2;have z:=S.obj i a q h1 h2;obtain⟨u,hu,_⟩:=S.tracked h1;rw[aB (aP hu hp)];exact z.mono (Ext.new hp)
  ·rw[zd (by first|lia|omega)]at h1
   rw[zd (by rw[<- S.len];omega)]at h2;have e:a=p:=by
    have:=zF h1
    simpa using this
   have e':q=o:=by
    have:=zF h2
    simpa using this
   subst e e';rw[aT];exact r
theorem aK.dn(S:aK K ι M H){p:Addr}{ho:HO}(hp:H p=none):aK K ι M (upd H p ho) where
 len:=S.len
 inj:=S.inj
 obj:=fun i a o h1 h2=>by
  obtain⟨u,hu,_⟩:=S.tracked h1;rw[aB (aP hu hp)];exact(S.obj i a o h1 h2).mono (Ext.dn hp)
theorem aK.put(S:aK K ι M H){i:Nat}{a:Addr}{o:MO}{ho:HO}(e:ι[i]?=some a)(r:lP K ι (upd H a ho) o (some ho)):aK K ι (M.set i o) (upd H a ho):=by
 obtain⟨u,hu,mu⟩:=S.tracked e;refine⟨by rw[yt];exact S.len,S.inj,fun j b q h1 h2=>?_⟩;by_cases kN:j=i
 ·subst kN
  rw[e]at h1;cases h1;have hj:j<M.length:=by rw[<- S.len];exact(zv.mp e).1
  rw[zP hj]at h2;cases h2;rw[aT];exact r
 ·rw[zc (Ne.symm kN)]at h2
  have hb:b≠a:=fun z=>by subst z;exact kN (S.inj j i b h1 e)
  rw[aB hb];exact(S.obj j b q h1 h2).mono (Ext.write hu mu)
structure bE (K:Q_) (ι:List Addr) (H:Hp) (ρ:Ev) (σ:St):Prop where
 len:ρ.length=σ.length
 val:∀(i:Nat) (d:D),ρ[i]?=some (some d)->∃v,σ[i]?=some (some v)/\Rep K ι H d v
theorem bE.mono(x:Ext K ι H ι' H'){ρ:Ev}{σ:St}(r:bE K ι H ρ σ):bE K ι' H' ρ σ:=⟨r.len,fun i d e=>let ⟨v,h1,h2⟩:=r.val i d e;⟨v,h1,h2.mono x⟩⟩
theorem bE.set{ρ:Ev}{σ:St}{d:D}{v:V}(r:bE K ι H ρ σ)(q:Rep K ι H d v)(i:Nat):bE K ι H (ρ.set i (some d)) (σ.set i (some v)) where
 len:=by rw[yt,yt];exact r.len
 val:=fun j c e=>by
  by_cases kN:j=i
  ·subst kN
   by_cases hj:j<ρ.length
   ·rw[zP hj]at e
    cases e;exact⟨v,by rw[zP (by rw[<- r.len];exact hj)],q⟩
   ·rw[xW (by rw[yt];omega)]at e;cases e
  ·rw[zc (Ne.symm kN)]at e
   obtain⟨u,h1,h2⟩:=r.val j c e;exact⟨u,by rw[zc (Ne.symm kN)];exact h1,h2⟩
theorem bE.comp{ρ:Ev}{σ:St}{d:D}{v:V}(r:bE K ι H ρ σ)(q:Rep K ι H d v)(j:Nat):bE K ι H (some d::ρ.set j none) (some v::σ) where
 len:=by rw[zi,zi,yt,r.len]
 val:=fun i c e=>by
  cases i with
  |zero=>simp at e;subst e;exact⟨v,rfl,q⟩
  |succ i =>
   rw[xL]at e;by_cases kN:i=j
   ·subst kN
    by_cases hj:i<ρ.length
    ·rw[zP hj]at e;cases e
    ·rw[xW (by rw[yt];omega)]at e;cases e
   ·rw[zc (Ne.symm kN)]at e
    obtain⟨u,h1,h2⟩:=r.val i c e;exact⟨u,by rw[xL];exact h1,h2⟩
end
noncomputable abbrev DE:=Ev->Mo D
inductive LE (K:Q_) (f:DE) (σ:St) (H:Hp) (Q:VK):Prop
 |mk (ι:List Addr) (ρ:Ev) (M:MH) (d:D) (M':MH) (S0:aK K ι M H) (R0:bE K ι H ρ σ) (e:f ρ M=some (.ok d,M')) (k:∀v H' ι',Rep K ι' H' d v->aK K ι' M' H'->Ext K ι H ι' H'->Q v H')
inductive LT (K:Q_) (f:Ev->Mo Bool) (σ:St) (H:Hp) (Q:Bool->Hp->Prop):Prop
 |mk (ι:List Addr) (ρ:Ev) (M:MH) (b:Bool) (M':MH) (S0:aK K ι M H) (R0:bE K ι H ρ σ) (e:f ρ M=some (.ok b,M')) (k:∀H' ι',aK K ι' M' H'->Ext K ι H ι' H'->Q b H')
inductive LA (K:Q_) (f:Ev->Mo (List D)) (σ:St) (H:Hp) (Q:List V->Hp->Prop):Prop
 |mk (ι:List Addr) (ρ:Ev) (M:MH) (ds:List D) (M':MH) (S0:aK K ι M H) (R0:bE K ι H ρ σ) (e:f ρ M=some (.ok ds,M')) (k:∀vs H' ι',aC K ι' H' ds vs->aK K ι' M' H'->Ext K ι H ι' H'->Q vs H')
inductive LO (K:Q_) (f:Ev->Mo (Option Int)) (σ:St) (H:Hp) (Q:Option Int->Hp->Prop):Prop
 |mk (ι:List Addr) (ρ:Ev) (M:MH) (o:Option Int) (M':MH) (S0:aK K ι M H) (R0:bE K ι H ρ σ) (e:f ρ M=some (.ok o,M')) (k:∀H' ι',aK K ι' M' H'->Ext K ι H ι' H'->Q o H')
noncomputable def QD(K:Q_)(D:Ends)(ι:List Addr)(H:Hp):Fl->Prop
 |.nx ρ=>∀σ,bE K ι H ρ σ->D.nx σ H
 |.rt d=>∀v,Rep K ι H d v->D.rt v H
 |.bk ρ=>∀σ,bE K ι H ρ σ->D.bk σ H
 |.ct ρ=>∀σ,bE K ι H ρ σ->D.ct σ H
inductive LS (K:Q_) (f:Ev->Mo Fl) (D:Ends) (σ:St) (H:Hp):Prop
 |mk (ι:List Addr) (ρ:Ev) (M:MH) (fl:Fl) (M':MH) (S0:aK K ι M H) (R0:bE K ι H ρ σ) (e:f ρ M=some (.ok fl,M')) (k:∀H' ι',aK K ι' M' H'->Ext K ι H ι' H'->QD K D ι' H' fl)
theorem PE.imp{X:Cx}{e:Expr}{t t':TE}(h:PE X e t)(k:∀σ H Q,t' σ H Q->t σ H Q):PE X e t':=fun pins s σ H Q I q=>h pins s σ H Q I (k σ H Q q)
theorem PT.imp{X:Cx}{e:Expr}{t t':TT}(h:PT X e t)(k:∀σ H Q,t' σ H Q->t σ H Q):PT X e t':=fun pins s σ H Q I q=>h pins s σ H Q I (k σ H Q q)
theorem jz.imp{X:Cx}{e:List Expr}{t t':TT}(h:jz X e t)(k:∀σ H Q,t' σ H Q->t σ H Q):jz X e t':=fun pins s σ H Q I q=>h pins s σ H Q I (k σ H Q q)
theorem PA.imp{X:Cx}{e:List Expr}{t t':TA}(h:PA X e t)(k:∀σ H Q,t' σ H Q->t σ H Q):PA X e t':=fun pos pins s σ H Q I q=>h pos pins s σ H Q I (k σ H Q q)
theorem PO.imp{X:Cx}{e:Option Expr}{t t':TO}(h:PO X e t)(k:∀σ H Q,t' σ H Q->t σ H Q):PO X e t':=fun pins s σ H Q I q=>h pins s σ H Q I (k σ H Q q)
theorem PS.imp{X:Cx}{e:Stmt}{t t':TS}(h:PS X e t)(k:∀D σ H,t' D σ H->t D σ H):PS X e t':=fun pins s σ H D I q=>h pins s σ H D I (k D σ H q)
theorem dB.imp{X:Cx}{e:List Stmt}{t t':TS}(h:dB X e t)(k:∀D σ H,t' D σ H->t D σ H):dB X e t':=fun pins s σ H D I q=>h pins s σ H D I (k D σ H q)
noncomputable def Qx(K:Q_)(r:R2)(g:D->D->Mo D):Prop:=∀(ι:List Addr) (M M':MH) (H:Hp) (x y d:D) (vx vy:V) (Q:VK),aK K ι M H->Rep K ι H x vx->Rep K ι H y vy->g x y M=some (.ok d,M') ->
 (∀v H' ι',Rep K ι' H' d v->aK K ι' M' H'->Ext K ι H ι' H'->Q v H')->r vx vy H Q
section
variable {K:Q_}
theorem LE.bin{fa fb:DE}{g:D->D->Mo D}{r:R2}(ho:Qx K r g)(σ:St)(H:Hp)(Q:VK)(h:LE K (fun ρ=>do let x<-fa ρ;let y<-fb ρ;g x y) σ H Q):lj r (LE K fa) (LE K fb) σ H Q:=by
 obtain⟨ι,ρ,M,d,M',S,R,e,k⟩:=h;obtain⟨x,M1,e1,e⟩:=aa e;obtain⟨y,M2,e2,e⟩:=aa e;refine⟨ι,ρ,M,x,M1,S,R,e1,fun v1 H1 ι1 r1 S1 X1=>?_⟩;refine⟨ι1,ρ,M1,y,M2,S1,R.mono X1,e2,fun v2 H2 ι2 r2 S2 X2=>?_⟩;exact ho ι2 M2 M' H2 x y d v1 v2 Q S2 (r1.mono X2) r2 e fun v H' ι' r' S' X'=>k v H' ι' r' S' ((X1.trans X2).trans X')
end
theorem aG{p:Prop}[Decidable p]{M M':MH}{u:Unit}(h:need p M=some (.ok u,M')):p/\M'=M:=by
 unfold need at h;split at h
 ·rename_i hp
  cases h;exact⟨hp,rfl⟩
 ·cases h
theorem ba{α:Type}{o:Option α}{a:α}{M M':MH}(h:lift o M=some (.ok a,M')):o=some a/\M'=M:=by
 cases o with
 |none=>cases h
 |some b=>cases h;exact⟨rfl,rfl⟩
theorem af{α:Type}{a b:α}{M M':MH}(h:(pure a:Mo α) M=some (.ok b,M')):b=a/\M'=M:=by
 cases h;exact⟨rfl,rfl⟩
theorem dY{i:Nat}{o:MO}{M M':MH}(h:getM i M=some (.ok o,M')):M[i]?=some o/\M'=M:=by
 unfold getM at h;split at h
 ·rename_i e;cases h;exact⟨e,rfl⟩
 ·cases h
theorem bw{i:Nat}{ds:List D}{M M':MH}(h:getL i M=some (.ok ds,M')):M[i]?=some (.lst ds)/\M'=M:=by
 unfold getL at h;split at h
 ·rename_i e;cases h;exact⟨e,rfl⟩
 ·cases h
theorem p0{i:Nat}{ds:List (Ky×D)}{M M':MH}(h:getD i M=some (.ok ds,M')):M[i]?=some (.aY ds)/\M'=M:=by
 unfold getD at h;split at h
 ·rename_i e;cases h;exact⟨e,rfl⟩
 ·cases h
theorem gH{o:MO}{d:D}{M M':MH}(h:bu o M=some (.ok d,M')):d=.ob M.length/\M'=M++[o]:=by
 cases h;exact⟨rfl,rfl⟩
theorem jM{i:Nat}{o:MO}{u:Unit}{M M':MH}(h:du i o M=some (.ok u,M')):i<M.length/\M'=M.set i o:=by
 unfold du at h;split at h
 ·rename_i e;cases h;exact⟨e,rfl⟩
 ·cases h
theorem ah{α:Type}{a:α}{M':MH}(h:(none:Option (Out α×MH))=some (.ok a,M')):False:=by cases h
theorem pZ{i:Nat}{p:Nat×List (Str×D)}{M M':MH}(h:iT i M=some (.ok p,M')):M[i]?=some (.ins p.1 p.2)/\M'=M:=by
 unfold iT at h;split at h
 ·rename_i e;cases h;exact⟨e,rfl⟩
 ·cases h
end L3
namespace L3
open PySem PySem.Spec PyProof.Rows L2
section
variable {K:Q_}{ι:List Addr}{M:MH}{H:Hp}
end
end L3
namespace L3
open PySem PySem.Spec PyProof.Rows L2
noncomputable def y9(K:Q_)(g:D->D->Mo D):R2:=fun x y H Q=>∃ι M M' dx dy d,aK K ι M H/\Rep K ι H dx x/\Rep K ι H dy y/\g dx dy M=some (.ok d,M') /\
 ∀v H' ι',Rep K ι' H' d v->aK K ι' M' H'->Ext K ι H ι' H'->Q v H'
theorem mf{K:Q_}{g:D->D->Mo D}:Qx K (y9 K g) g:=fun ι M M' _ x y d _ _ _ S r1 r2 e k=>⟨ι,M,M',x,y,d,S,r1,r2,e,k⟩
section
variable {K:Q_}{ι:List Addr}{H:Hp}{M M':MH}
theorem fj{Q:VK}{ds:List D}{vs:List V}{d:D}(S:aK K ι M H)(r:aC K ι H ds vs)(e:bu (.lst ds) M=some (.ok d,M'))(k:∀v H' ι',Rep K ι' H' d v->aK K ι' M' H'->Ext K ι H ι' H'->Q v H') :
  ∀p,H p=none->Q (.ref p) (upd H p (.lst vs)):=fun p hp=>by
 have e0:=gH e;clear e;obtain⟨rfl,rfl⟩:=e0;have x:Ext K ι H (ι++[p]) (upd H p (.lst vs)):=Ext.new hp;exact k _ _ (ι++[p]) (.ob (by rw[<- S.len,zd (zr _),yN];rfl)) (S.new hp ⟨vs,rfl,r.mono x⟩) x
theorem jP{Q:VK}{ds:List D}{vs:List V}(S:aK K ι M H)(r:aC K ι H ds vs)(k:∀v H' ι',Rep K ι' H' (.tup ds) v->aK K ι' M H'->Ext K ι H ι' H'->Q v H') :
  ∀p,H p=none->Q (.ref p) (upd H p (.tup vs)):=fun p hp=>by
 have x:Ext K ι H ι (upd H p (.tup vs)):=Ext.dn hp;exact k _ _ ι (.tup aT (r.mono x)) (S.dn hp) x
inductive V1 (K:Q_) (ι:List Addr) (H:Hp) (i:Nat) (ds:List D) (v:V):Prop
 |mk (a:Addr) (vs:List V) (h:v=.ref a) (h1:ι[i]?=some a) (h2:H a=some (.lst vs)) (h3:aC K ι H ds vs)
theorem aH(S:aK K ι M H){i:Nat}{ds:List D}{v:V}(r:Rep K ι H (.ob i) v)(e:M[i]?=some (.lst ds)):V1 K ι H i ds v:=by
 cases r with
 |ob h =>
  rename_i a;obtain⟨vs,e1,q⟩:=S.obj i a _ h e;exact⟨a,vs,rfl,h,e1,q⟩
inductive V2 (K:Q_) (ι:List Addr) (H:Hp) (i:Nat) (kvs:List (Ky×D)) (v:V):Prop
 |mk (a:Addr) (ws:List (Ky×V)) (h:v=.ref a) (h1:ι[i]?=some a) (h2:H a=some (.dK ws)) (h3:KR K ι H kvs ws)
theorem c8(S:aK K ι M H){i:Nat}{kvs:List (Ky×D)}{v:V}(r:Rep K ι H (.ob i) v)(e:M[i]?=some (.aY kvs)):V2 K ι H i kvs v:=by
 cases r with
 |ob h =>
  rename_i a;obtain⟨vs,e1,q⟩:=S.obj i a _ h e;exact⟨a,vs,rfl,h,e1,q⟩
theorem iU{d:D}{v:V}(r:Rep K ι H d v)(h:bC d=true):fQ v=true:=by
 cases r <;> simp[bC,fQ]at h ⊢
theorem Eu{d e:D}{v u:V}(r:Rep K ι H d v)(q:Rep K ι H e u)(h:bC d=true)(h':bC e=true):kP v u=eP d e:=by
 cases r <;> cases q <;> simp[bC,kP,eP]at h h' ⊢
theorem KR.find{kvs:List (Ky×D)}{ws:List (Key×V)}(r:KR K ι H kvs ws)(k:Ky):(cV kvs k=none/\fC ws k=none)\/∃d v,cV kvs k=some d/\fC ws k=some v/\Rep K ι H d v:=by
 induction r with
 |nil=>exact .inl ⟨rfl,rfl⟩
 |cons h t ih =>
  rename_i a b l1 l2;by_cases e:a.1=k
  ·refine .inr ⟨a.2,b.2,?_,jZ (h.1▸e),h.2⟩
   simp[cV,ye,e]
  ·have e2:¬ b.1=k:=fun z=>e (h.1.trans z)
   have e3:cV (a::l1) k=cV l1 k:=by simp[cV,ye,e]
   rw[j0 e2,e3];exact ih
theorem KR.RC{kvs:List (Ky×D)}{ws:List (Key×V)}(r:KR K ι H kvs ws)(k:Ky):(kvs.any fun kv=>decide (kv.1=k))=ws.any fun kv=>decide (kv.1=k):=by
 induction r with
 |nil=>rfl
 |cons h t ih=>rw[yJ,yJ,ih,h.1]
theorem KR.len{kvs:List (Ky×D)}{ws:List (Key×V)}(r:KR K ι H kvs ws):kvs.length=ws.length:=Paired.length r
theorem KR.sJ{kvs:List (Ky×D)}{ws:List (Key×V)}(r:KR K ι H kvs ws)(k:Ky){d:D}{v:V}(q:Rep K ι H d v) :
  KR K ι H (kvs.map fun kv=>if kv.1=k then (kv.1,d) else kv) (ws.map fun kv=>if kv.1=k then (kv.1,v) else kv):=by
 induction r with
 |nil=>exact .nil
 |cons h t ih =>
  rename_i a b l1 l2;rw[zH,zH];refine .cons ?_ ih;by_cases e:a.1=k
  ·rw[if_pos e,if_pos (h.1▸e)];exact⟨h.1,q⟩
  ·rw[if_neg e,if_neg (fun z=>e (h.1.trans z))];exact h
theorem KR.put{kvs:List (Ky×D)}{ws:List (Key×V)}(r:KR K ι H kvs ws)(k:Ky){d:D}{v:V}(q:Rep K ι H d v):KR K ι H (iy kvs k d) (putK ws k v):=by
 unfold iy putK;rw[r.RC k];split
 ·exact r.sJ k q
 ·exact Paired.snoc r ⟨rfl,q⟩
theorem pW{d:D}{v:V}{k:Ky}(r:Rep K ι H d v)(h:jU d=some k):v=kV k:=by
 cases r <;> simp[jU]at h <;> subst h <;> rfl
theorem LC{d:D}{v:V}{ds:List D}(S:aK K ι M H)(r:Rep K ι H d v)(h:iQ d M=some (.ok ds,M')):M'=M/\∃a vs,v=.ref a/\(aJ K H a vs\/cz K H a vs)/\aC K ι H ds vs:=by
 cases r with
 |tup t q=>have h0:=af h;clear h;obtain⟨rfl,rfl⟩:=h0;exact⟨rfl,_,_,rfl,.inr (bT t),q⟩
 |fl t q=>have h0:=af h;clear h;obtain⟨rfl,rfl⟩:=h0;exact⟨rfl,_,_,rfl,.inl t.seq,q⟩
 |ob t =>
  have h0:=bw h;clear h;obtain⟨e,rfl⟩:=h0;obtain⟨a,vs,h1,_,h3,h4⟩:=aH S (.ob t) e;exact⟨rfl,a,vs,h1,.inl (aJ.of h3),h4⟩
 |_=>exact(ah h).elim
theorem pJ{ds:List D}{vs:List V}{i:Int}{d:D}(r:aC K ι H ds vs)(h:dA ds i=some d):∃v,oY vs i=some v/\Rep K ι H d v:=by
 unfold dA at h;unfold oY;have e:vN vs.length i=ow ds.length i:=by rw[r.length];rfl
 rw[e];cases q:ow ds.length i with
 |none=>rw[q]at h;cases h
 |some j =>
  rw[q]at h;exact r.get h
end
section
variable {X:Cx}{pins:List (Addr×Obj)}{σ:St}{H:Hp}{s:Shared}{ι:List Addr}{M:MH}
theorem uf{f:D->D->Option Bool}:∀{xs ys:List D} {b:Bool},fR f xs ys=some b->(∀(j:Nat) (x y:D),xs[j]?=some x->ys[j]?=some y->∃c,f x y=some c) /\
  b=((List.range (min xs.length ys.length)).all (fun j=>(f (xs.getD j .non) (ys.getD j .non)).getD false)&&xs.length==ys.length)
 |[],[],b,h=>by
  simp only[fR,Option.some.injEq]at h;subst h;exact⟨fun j x y h=>by simp at h,rfl⟩
 |[],_::_,b,h=>by
  simp only[fR,Option.some.injEq]at h;subst h;exact⟨fun j x y h=>by simp at h,by simp⟩
 |_::_,[],b,h=>by
  simp only[fR,Option.some.injEq]at h;subst h;exact⟨fun j x y _ h=>by simp at h,by simp⟩
 |x::xs,y::ys,b,h=>by
  unfold fR at h;cases e1:f x y with
  |none=>rw[e1]at h;cases h
  |some c =>
   rw[e1]at h;cases e2:fR f xs ys with
   |none=>rw[e2]at h;cases h
   |some c2 =>
    rw[e2]at h;cases h;obtain⟨i1,i2⟩:=uf e2;refine⟨fun j x' y' h1 h2=>?_,?_⟩
    ·cases j with
     |zero=>simp at h1 h2;subst h1 h2;exact⟨c,e1⟩
     |succ j=>exact i1 j x' y' (by simpa using h1) (by simpa using h2)
    ·rw[i2,zi,zi,Nat.add_min_add_right,xR,zK,xA]
     simp only[List.getD_cons_zero,e1,yO];have e3:(xs.length+1==ys.length+1)=(xs.length==ys.length):=by
      rw[xl];simp
     rw[e3,Bool.and_assoc];rfl
theorem qt(I:Inv X pins σ H s)(S:aK X.K ι M H):∀(n:Nat) {d d':D} {v:V} {b:Bool},Rep X.K ι H d v->Rep X.K ι H d' v->bP M n d d'=some b->b=true
 |0,_,_,_,_,_,_,h=>by cases h
 |n+1,d,d',v,b,r,r',h=>by
  have lst:∀{ds ds':List D} {vs:List V} {b:Bool},aC X.K ι H ds vs->aC X.K ι H ds' vs->fR (bP M n) ds ds'=some b->b=true:=by
   intro ds;induction ds with
   |nil =>
    intro ds' vs b h1 h2 h3;cases h1;cases h2;cases h3;rfl
   |cons x xs ih =>
    intro ds' vs b h1 h2 h3;cases h1 with
    |cons r1 t1 =>
     cases h2 with
     |cons r2 t2 =>
      rename_i y ys;unfold fR at h3;cases e1:bP M n x y with
      |none=>rw[e1]at h3;cases h3
      |some c =>
       rw[e1]at h3;cases e2:fR (bP M n) xs ys with
       |none=>rw[e2]at h3;cases h3
       |some c2 =>
        rw[e2]at h3;cases h3;rw[qt I S n r1 r2 e1,ih t1 t2 e2];rfl
  cases r with
  |non=>cases r' with|non=>cases h;rfl
  |bl a=>cases r' with|bl=>cases h;simp[eP]
  |int a=>cases r' with|int=>cases h;simp[eP]
  |str a=>cases r' with|str=>cases h;simp[eP]
  |tup t q =>
   cases r' with
   |tup t' q' =>
    have:=I.kZ (bT t) (bT t')
    subst this;exact lst q q' h
   |fl t' q'=>cases h
   |ob t'=>cases h
  |fl t q =>
   cases r' with
   |tup t' q'=>cases h
   |fl t' q'=>cases h
   |ob t'=>cases h
  |ob t =>
   rename_i i a;cases r' with
   |tup t' q'=>cases h
   |fl t' q'=>cases h
   |ob t' =>
    rename_i j
    have:=S.inj i j a t t'
    subst this;unfold bP at h;dsimp only at h;split at h
    ·rename_i xs ys h1 h2
     rw[h1]at h2;cases h2;rw[if_pos rfl]at h;obtain⟨vs,_,q⟩:=S.obj i a _ t h1;exact lst q q h
    ·cases h
theorem tP{A:Around}{n:Nat}(ih:∀{dx dy:D} {vx vy:V} {u v:Value} {b:Bool},Rep X.K ι H dx vx->Rep X.K ι H dy vy->RelV vx u->RelV vy v->bP M n dx dy=some b->SeqAt.EqAt A s u v b)
  {xs ys:List D} {vs ws:List V} {its bK:List Value} {b:Bool} (r1:aC X.K ι H xs vs) (r2:aC X.K ι H ys ws) (q1:Vals vs its) (q2:Vals ws bK) (h:fR (bP M n) xs ys=some b) :
  ∃e:Nat->Bool,(∀j (h1:j<its.toArray.size) (h2:j<bK.toArray.size),SeqAt.EqAt A s its.toArray[j] bK.toArray[j] (e j))/\b=((List.range (min its.toArray.size bK.toArray.size)).all e&&its.toArray.size==bK.toArray.size):=by
 obtain⟨h1,h2⟩:=uf h;have l1:xs.length=its.toArray.size:=by rw[r1.length,q1.length];simp
 have l2:ys.length=bK.toArray.size:=by rw[r2.length,q2.length];simp
 refine⟨fun j=>(bP M n (xs.getD j .non) (ys.getD j .non)).getD false,fun j g1 g2=>?_,by rw[<- l1,<- l2];exact h2⟩;have j1:j<xs.length:=by rw[l1];exact g1
 have j2:j<ys.length:=by rw[l2];exact g2
 obtain⟨c,hc⟩:=h1 j _ _ (zw j1) (zw j2);obtain⟨v1,e1,p1⟩:=r1.get (zw j1);obtain⟨v2,e2,p2⟩:=r2.get (zw j2);obtain⟨u1,f1,g1'⟩:=q1.get e1;obtain⟨u2,f2,g2'⟩:=q2.get e2;have k1:its.toArray[j]=u1:=by
  have:=(zv.mp f1).2
  simpa using this
 have k2:bK.toArray[j]=u2:=by
  have:=(zv.mp f2).2
  simpa using this
 rw[k1,k2];have k3:(bP M n (xs.getD j .non) (ys.getD j .non)).getD false=c:=by
  rw[zS,zS,zw j1,zw j2];simp only[yO];rw[hc];rfl
 show SeqAt.EqAt A s u1 u2 ((bP M n (xs.getD j .non) (ys.getD j .non)).getD false);rw[k3];exact ih p1 p2 g1' g2' hc
theorem DK{its bK:List Value}(h:its.length≠bK.length):(its.toArray.size != bK.toArray.size)=true:=by simpa using h
theorem LN(I:Inv X pins σ H s){A:Around}(hu:A.units<cLine){n:Nat}(ih:∀{dx dy:D} {vx vy:V} {u v:Value} {b:Bool},Rep X.K ι H dx vx->Rep X.K ι H dy vy->RelV vx u->RelV vy v->bP M n dx dy=some b->SeqAt.EqAt A.in1 s u v b)
  {xs ys:List D} {vs ws:List V} {a c:Addr} {b:Bool} (t1:cz X.K H a vs) (t2:cz X.K H c ws) (r1:aC X.K ι H xs vs) (r2:aC X.K ι H ys ws) (h:fR (bP M n) xs ys=some b):SeqAt.RcAt A s (.ref a) (.ref c) b/\SeqAt.RcNeAt A s (.ref a) (.ref c) (!b):=by
 obtain⟨its,q1,p1,_⟩:=I.tuple t1;obtain⟨bK,q2,p2,_⟩:=I.tuple t2;obtain⟨e,he,rfl⟩:=tP ih r1 r2 q1 q2 h;exact⟨SeqAt.RcAt.tuples p1 p2 hu he,SeqAt.RcNeAt.tuples p1 p2 hu he⟩
theorem C7(I:Inv X pins σ H s){A:Around}(hu:A.units<cLine){n:Nat}(ih:∀{dx dy:D} {vx vy:V} {u v:Value} {b:Bool},Rep X.K ι H dx vx->Rep X.K ι H dy vy->RelV vx u->RelV vy v->bP M n dx dy=some b->SeqAt.EqAt A.in1 s u v b)
  {xs ys:List D} {vs ws:List V} {a c:Addr} {b:Bool} (t1:aJ X.K H a vs) (t2:aJ X.K H c ws) (r1:aC X.K ι H xs vs) (r2:aC X.K ι H ys ws) (h:(if xs.length=ys.length then fR (bP M n) xs ys else some false)=some b):SeqAt.RcAt A s (.ref a) (.ref c) b/\SeqAt.RcNeAt A s (.ref a) (.ref c) (!b):=by
 obtain⟨its,q1,p1,_⟩:=I.list t1;obtain⟨bK,q2,p2,_⟩:=I.list t2;have l1:xs.length=its.length:=by rw[r1.length,q1.length]
 have l2:ys.length=bK.length:=by rw[r2.length,q2.length]
 split at h
 ·rename_i hl
  obtain⟨e,he,rfl⟩:=tP ih r1 r2 q1 q2 h;have hs:its.toArray.size=bK.toArray.size:=by simp;omega
  have e1:((List.range (min its.toArray.size bK.toArray.size)).all e&&its.toArray.size==bK.toArray.size)=(List.range its.toArray.size).all e:=by
   rw[hs,wd];simp
  rw[e1];exact⟨SeqAt.RcAt.lists p1.isList p2.isList hs hu he,SeqAt.RcNeAt.lists p1.isList p2.isList hs hu he⟩
 ·rename_i hl
  cases h;exact⟨SeqAt.RcAt.lists_lengths p1.isList p2.isList (DK (by first|lia|omega)) hu,SeqAt.RcNeAt.lists_lengths p1.isList p2.isList (DK (by first|lia|omega)) hu⟩
theorem JR{A:Around}{dx dy:D}{vx vy:V}{u v:Value}(r1:Rep X.K ι H dx vx)(r2:Rep X.K ι H dy vy)(g1:RelV vx u)(g2:RelV vy v)(f1:bC dx=true)(f2:bC dy=true):SeqAt.RcAt A s u v (eP dx dy)/\SeqAt.RcNeAt A s u v (!eP dx dy):=by
 cases r1 with
 |non =>
  cases g1;cases r2 with
  |non=>cases g2;exact⟨SeqAt.RcAt.none_none,SeqAt.RcNeAt.none_none⟩
  |bl b=>cases g2;exact⟨SeqAt.RcAt.none_bool b,SeqAt.RcNeAt.none_bool b⟩
  |int b=>obtain⟨t,rfl⟩:=g2;exact⟨SeqAt.RcAt.none_int b t,SeqAt.RcNeAt.none_int b t⟩
  |str b=>obtain⟨t,rfl⟩:=g2;exact⟨SeqAt.RcAt.none_str b t,SeqAt.RcNeAt.none_str b t⟩
  |_=>exact absurd f2 zt
 |bl a =>
  cases g1;cases r2 with
  |non=>cases g2;exact⟨SeqAt.RcAt.bool_none a,SeqAt.RcNeAt.bool_none a⟩
  |bl b=>cases g2;exact⟨SeqAt.RcAt.bool_bool a b,SeqAt.RcNeAt.bool_bool a b⟩
  |int b=>obtain⟨t,rfl⟩:=g2;exact⟨SeqAt.RcAt.bool_int a b t,SeqAt.RcNeAt.bool_int a b t⟩
  |str b=>obtain⟨t,rfl⟩:=g2;exact⟨SeqAt.RcAt.bool_str a b t,SeqAt.RcNeAt.bool_str a b t⟩
  |_=>exact absurd f2 zt
 |int a =>
  obtain⟨t',rfl⟩:=g1;cases r2 with
  |non=>cases g2;exact⟨SeqAt.RcAt.int_none a t',SeqAt.RcNeAt.int_none a t'⟩
  |bl b=>cases g2;exact⟨SeqAt.RcAt.int_bool a t' b,SeqAt.RcNeAt.int_bool a t' b⟩
  |int b=>obtain⟨t,rfl⟩:=g2;exact⟨SeqAt.RcAt.int_int a t' b t,SeqAt.RcNeAt.int_int a t' b t⟩
  |str b=>obtain⟨t,rfl⟩:=g2;exact⟨SeqAt.RcAt.int_str a t' b t,SeqAt.RcNeAt.int_str a t' b t⟩
  |_=>exact absurd f2 zt
 |str a =>
  obtain⟨t',rfl⟩:=g1;cases r2 with
  |non=>cases g2;exact⟨SeqAt.RcAt.str_none a t',SeqAt.RcNeAt.str_none a t'⟩
  |bl b=>cases g2;exact⟨SeqAt.RcAt.str_bool a t' b,SeqAt.RcNeAt.str_bool a t' b⟩
  |int b=>obtain⟨t,rfl⟩:=g2;exact⟨SeqAt.RcAt.str_int a t' b t,SeqAt.RcNeAt.str_int a t' b t⟩
  |str b=>obtain⟨t,rfl⟩:=g2;exact⟨SeqAt.RcAt.str_str a t' b t,SeqAt.RcNeAt.str_str a t' b t⟩
  |_=>exact absurd f2 zt
 |_=>exact absurd f1 zt
theorem cG(I:Inv X pins σ H s){A:Around}(hu:A.units<cLine){dy:D}{vs:List V}{a:Addr}{vy:V}{v:Value}(t1:cz X.K H a vs)(r2:Rep X.K ι H dy vy)(g2:RelV vy v)(f2:bC dy=true) :
  (SeqAt.RcAt A s (.ref a) v false/\SeqAt.RcNeAt A s (.ref a) v true/\SeqAt.EqAt A s (.ref a) v false)/\(SeqAt.RcAt A s v (.ref a) false/\SeqAt.RcNeAt A s v (.ref a) true/\SeqAt.EqAt A s v (.ref a) false):=by
 obtain⟨its,q1,p1,_⟩:=I.tuple t1;cases r2 with
 |non=>cases g2;exact⟨⟨.tuple_none p1 hu,.tuple_none p1 hu,.tuple_none p1 hu⟩,⟨.none_tuple p1 hu,.none_tuple p1 hu,.none_tuple p1 hu⟩⟩
 |bl b=>cases g2;exact⟨⟨.tuple_bool b p1 hu,.tuple_bool b p1 hu,.tuple_bool b p1 hu⟩,⟨.bool_tuple b p1 hu,.bool_tuple b p1 hu,.bool_tuple b p1 hu⟩⟩
 |int b=>obtain⟨t,rfl⟩:=g2;exact⟨⟨.tuple_int b t p1 hu,.tuple_int b t p1 hu,.tuple_int b t p1 hu⟩,⟨.int_tuple b t p1 hu,.int_tuple b t p1 hu,.int_tuple b t p1 hu⟩⟩
 |str b=>obtain⟨t,rfl⟩:=g2;exact⟨⟨.tuple_str b t p1 hu,.tuple_str b t p1 hu,.tuple_str b t p1 hu⟩,⟨.str_tuple b t p1 hu,.str_tuple b t p1 hu,.str_tuple b t p1 hu⟩⟩
 |_=>exact absurd f2 zt
theorem lK(I:Inv X pins σ H s)(S:aK X.K ι M H):∀(n:Nat) {A:Around} {dx dy:D} {vx vy:V} {u v:Value} {b:Bool},A.units+n<cLine->Rep X.K ι H dx vx->Rep X.K ι H dy vy->RelV vx u->RelV vy v->bP M n dx dy=some b ->
  SeqAt.RcAt A s u v b/\SeqAt.RcNeAt A s u v (!b)/\SeqAt.EqAt A s u v b
 |0,_,_,_,_,_,_,_,_,_,_,_,_,_,h=>by cases h
 |n+1,A,dx,dy,vx,vy,u,v,b,hA,r1,r2,g1,g2,h=>by
  have hu:A.units<cLine:=by first|lia|omega
  have ih:∀{dx dy:D} {vx vy:V} {u v:Value} {b:Bool},Rep X.K ι H dx vx->Rep X.K ι H dy vy->RelV vx u->RelV vy v->bP M n dx dy=some b->SeqAt.EqAt A.in1 s u v b :=
   fun r1 r2 g1 g2 h=>(lK I S n (A:=A.in1) (by show A.units+1+n<cLine;omega) r1 r2 g1 g2 h).2.2
  have refs:∀{a c:Addr},vx=.ref a->vy=.ref c->SeqAt.RcAt A s (.ref a) (.ref c) b->SeqAt.EqAt A s (.ref a) (.ref c) b:=fun {a c} e1 e2 hr=>by
   by_cases Qb:a=c
   ·subst Qb
    subst e1;subst e2;rw[qt I S (n+1) r1 r2 h];exact SeqAt.EqAt.same _
   ·exact SeqAt.EqAt.of_refs Qb hr
  by_cases hf:bC dx=true/\bC dy=true
  ·have hb:bP M (n+1) dx dy=some (eP dx dy):=by
    cases dx <;> cases dy <;> first|exact absurd hf.1 zt|exact absurd hf.2 zt|rfl
   rw[hb]at h;cases h;obtain⟨q1,q2⟩:=JR (X:=X) (H:=H) (s:=s) (ι:=ι) (A:=A) r1 r2 g1 g2 hf.1 hf.2;refine⟨q1,q2,?_⟩;rw[<- Eu r1 r2 hf.1 hf.2];exact Ex g1 g2 (iU r1 hf.1) (iU r2 hf.2)
  ·cases r1 with
   |tup t q =>
    cases g1;cases r2 with
    |tup t' q' =>
     cases g2;obtain⟨h1,h2⟩:=LN I hu ih (bT t) (bT t') q q' h;exact⟨h1,h2,refs rfl rfl h1⟩
    |fl t' q'=>cases h
    |ob t'=>cases h
    |non=>cases h;obtain⟨⟨h1,h2,h3⟩,_⟩:=cG (ι:=ι) I hu (bT t) .non g2 rfl;exact⟨h1,h2,h3⟩
    |bl b=>cases h;obtain⟨⟨h1,h2,h3⟩,_⟩:=cG (ι:=ι) I hu (bT t) (.bl b) g2 rfl;exact⟨h1,h2,h3⟩
    |int b=>cases h;obtain⟨⟨h1,h2,h3⟩,_⟩:=cG (ι:=ι) I hu (bT t) (.int b) g2 rfl;exact⟨h1,h2,h3⟩
    |str b=>cases h;obtain⟨⟨h1,h2,h3⟩,_⟩:=cG (ι:=ι) I hu (bT t) (.str b) g2 rfl;exact⟨h1,h2,h3⟩
   |ob t =>
    cases g1;cases r2 with
    |ob t' =>
     cases g2;unfold bP at h;dsimp only at h;split at h
     ·rename_i i a j c xs ys h1 h2
      obtain⟨vs,e1,q1⟩:=S.obj _ _ _ t h1;obtain⟨ws,e2,q2⟩:=S.obj _ _ _ t' h2;obtain⟨k1,k2⟩:=C7 I hu ih (aJ.of e1) (aJ.of e2) q1 q2 h;refine⟨k1,k2,refs rfl rfl k1⟩
     ·cases h
    |tup t' q'=>cases h
    |_=>cases h
   |fl t q=>cases r2 <;> cases h
   |non =>
    cases r2 with
    |tup t' q'=>cases h;cases g2;obtain⟨_,h1,h2,h3⟩:=cG (ι:=ι) I hu (bT t') .non g1 rfl;exact⟨h1,h2,h3⟩
    |fl t' q'=>cases h
    |ob t'=>cases h
    |_=>exact absurd ⟨rfl,rfl⟩ hf
   |bl x =>
    cases r2 with
    |tup t' q'=>cases h;cases g2;obtain⟨_,h1,h2,h3⟩:=cG (ι:=ι) I hu (bT t') (.bl x) g1 rfl;exact⟨h1,h2,h3⟩
    |fl t' q'=>cases h
    |ob t'=>cases h
    |_=>exact absurd ⟨rfl,rfl⟩ hf
   |int x =>
    cases r2 with
    |tup t' q'=>cases h;cases g2;obtain⟨_,h1,h2,h3⟩:=cG (ι:=ι) I hu (bT t') (.int x) g1 rfl;exact⟨h1,h2,h3⟩
    |fl t' q'=>cases h
    |ob t'=>cases h
    |_=>exact absurd ⟨rfl,rfl⟩ hf
   |str x =>
    cases r2 with
    |tup t' q'=>cases h;cases g2;obtain⟨_,h1,h2,h3⟩:=cG (ι:=ι) I hu (bT t') (.str x) g1 rfl;exact⟨h1,h2,h3⟩
    |fl t' q'=>cases h
    |ob t'=>cases h
    |_=>exact absurd ⟨rfl,rfl⟩ hf
open Classical in
theorem tS(I:Inv X pins σ H s)(S:aK X.K ι M H){A:Around}(hu:A.units+9<cLine){x:D}{vx:V}{v:Value}(rx:Rep X.K ι H x vx)(gx:RelV vx v):∀{ds:List D} {vs:List V} {its:List Value} {b:Bool},aC X.K ι H ds vs->Vals vs its->ip M x ds=some b ->
  ∃iW:List Bool,iW.length=its.length/\(∀(j:Nat) (u:Value) (c:Bool),its[j]?=some u->iW[j]?=some c->SeqAt.EqAt A.in1 s u v c)/\b=iW.any id
 |_,_,_,b,.nil,.nil,h=>by cases h;exact⟨[],rfl,fun j u c h=>by simp at h,rfl⟩
 |d::ds,_,_,b,.cons r t,.cons q k,h=>by
  unfold ip at h;cases e1:bP M 8 d x with
  |none=>rw[e1]at h;cases h
  |some c =>
   rw[e1]at h;cases e2:ip M x ds with
   |none=>rw[e2]at h;cases h
   |some c2 =>
    rw[e2]at h;cases h;obtain⟨iW,a1,a2,a3⟩:=tS I S hu rx gx t k e2;refine⟨c::iW,by rw[zi,zi,a1],fun j u c' h1 h2=>?_,by rw[a3];rfl⟩;cases j with
    |zero =>
     simp at h1 h2;subst h1 h2;exact(lK I S 8 (A:=A.in1) (by show A.units+1+8<cLine;omega) r rx q gx e1).2.2
    |succ j=>exact a2 j u c' (by simpa using h1) (by simpa using h2)
open Classical in
theorem DU{A:Around}{its:List Value}{iW:List Bool}{v:Value}(hl:iW.length=its.length)(h:∀(j:Nat) (u:Value) (c:Bool),its[j]?=some u->iW[j]?=some c->SeqAt.EqAt A s u v c) :
  ∃e:Value->Bool,(∀y,y∈its.toArray->SeqAt.EqAt A s y v (e y))/\its.toArray.any e=iW.any id:=by
 refine⟨fun y=>decide (∃j:Nat,its[j]?=some y/\iW[j]?=some true),fun y hy=>?_,?_⟩
 ·by_cases hex:∃j:Nat,its[j]?=some y/\iW[j]?=some true
  ·dsimp only
   rw[decide_eq_true hex];obtain⟨j,h1,h2⟩:=hex;exact h j y true h1 h2
  ·dsimp only
   rw[decide_eq_false hex];have hy':y∈its:=by simpa using hy
   obtain⟨j,hj⟩:=xX.mp hy';have IA:j<iW.length:=by rw[hl];exact(zv.mp hj).1
   have e:=zw IA;cases hb:iW[j] with
   |true=>rw[hb]at e;exact absurd ⟨j,hj,e⟩ hex
   |false=>rw[hb]at e;exact h j y false hj e
 ·rw[xl,Array.any_eq_true]
  simp only[decide_eq_true_eq,xt,id];constructor
  ·rintro ⟨i,hi,j,h1,h2⟩
   exact⟨true,zF h2,rfl⟩
  ·rintro ⟨c,hc,rfl⟩
   obtain⟨j,hj⟩:=xX.mp hc;have IA:j<its.length:=by rw[<- hl];exact(zv.mp hj).1
   exact⟨j,by simpa using IA,j,by simp[IA],hj⟩
end
section
variable {X:Cx}
noncomputable def uc(op:CmpOp)(x y:D):Mo D:=do let k<-bS op x y;pure (.bl k)
theorem iE{x:D}{ds:List D}{M M':MH}{b:Bool}(h:ko x ds M=some (.ok b,M')):ip M x ds=some b/\M'=M:=by
 unfold ko at h;cases e:ip M x ds with
 |none=>rw[e]at h;cases h
 |some c=>rw[e]at h;cases h;exact⟨rfl,rfl⟩
theorem vY{x y:D}{M M':MH}{b:Bool}(h:nB x y M=some (.ok b,M')):bP M 20 x y=some b/\M'=M:=by
 unfold nB at h;cases e:bP M 20 x y with
 |none=>rw[e]at h;cases h
 |some c=>rw[e]at h;cases h;exact⟨rfl,rfl⟩
theorem Ib{x y:D}{M M':MH}{b:Bool}(h:inD x y M=some (.ok b,M')):M'=M:=by
 unfold inD at h;split at h
 ·split at h
  ·exact(af h).2
  ·exact(ah h).elim
 ·exact(iE h).2
 ·exact(iE h).2
 ·have h0:=aa h;clear h;obtain⟨o,M1,e,h2⟩:=h0
  have hM:=(dY e).2;cases o with
  |lst ds=>rw[(iE h2).2,hM]
  |aY kvs =>
   have VB:=aa h2;clear h2;obtain⟨_,_,e3,h3⟩:=VB;rw[(af h3).2,(ba e3).2,hM]
  |ins _ _=>exact(ah h2).elim
 ·exact(ah h).elim
theorem Ia(hu:X.A.units+100<cLine)(neg:Bool){pins:List (Addr×Obj)}{s:Shared}{σ:St}{H:Hp}{x y:V}{v u:Value}{Q:VK}(I:Inv X pins σ H s)(rx:RelV x v)(ry:RelV y u){ι:List Addr}{M M':MH}{dx dy:D}{b:Bool}
  (S:aK X.K ι M H) (r1:Rep X.K ι H dx x) (r2:Rep X.K ι H dy y) (e:inD dx dy M=some (.ok b,M')) (q:Q (.bl (if neg then !b else b)) H) :
  wpAny (model X.prog X.w) X.A (compareOp (if neg then .NotIn else .In) v u) (EP X pins σ Q) X.xe s:=by
 have seq:∀{a:Addr} {vs:List V} {ds:List D},y=.ref a->(aJ X.K H a vs\/cz X.K H a vs)->aC X.K ι H ds vs->ip M dx ds=some b ->
   wpAny (model X.prog X.w) X.A (compareOp (if neg then .NotIn else .In) v u) (EP X pins σ Q) X.xe s:=fun {a vs ds} ey hs hr hb=>by
  subst ey;cases ry;rcases hs with hs|hs
  ·obtain⟨its,q1,p1,_⟩:=I.list hs
   obtain⟨iW,a1,a2,rfl⟩:=tS I S (A:=X.A) (by first|lia|omega) r1 rx hr q1 hb
   obtain⟨e,e1,e2⟩:=DU a1 a2;cases neg with
   |false=>exact SeqAt.in_listAt e p1.isList e1 ⟨.bl _,H,I,rfl,by rw[e2];exact q⟩
   |true=>exact SeqAt.notIn_listAt e p1.isList e1 ⟨.bl _,H,I,rfl,by rw[e2];exact q⟩
  ·obtain⟨its,q1,p1,_⟩:=I.tuple hs
   obtain⟨iW,a1,a2,rfl⟩:=tS I S (A:=X.A) (by first|lia|omega) r1 rx hr q1 hb
   obtain⟨e,e1,e2⟩:=DU a1 a2;cases neg with
   |false=>exact SeqAt.in_tupleAt e p1 e1 ⟨.bl _,H,I,rfl,by rw[e2];exact q⟩
   |true=>exact SeqAt.notIn_tupleAt e p1 e1 ⟨.bl _,H,I,rfl,by rw[e2];exact q⟩
 cases r2 with
 |str j =>
  cases r1 with
  |str i =>
   have e0:=af e;clear e;obtain⟨rfl,rfl⟩:=e0;cases neg with
   |false=>exact Ds pins s σ H _ _ v u Q I rx ry ⟨i,j,rfl,rfl,q⟩
   |true=>exact tm pins s σ H _ _ v u Q I rx ry ⟨i,j,rfl,rfl,q⟩
  |_=>exact(ah e).elim
 |tup t r=>exact seq rfl (.inr (bT t)) r (iE e).1
 |fl t r=>exact seq rfl (.inl t.seq) r (iE e).1
 |ob t =>
  have e0:=aa e;clear e;obtain⟨o,M1,e1,e⟩:=e0;have aD:=dY e1;clear e1;obtain⟨g,rfl⟩:=aD;cases o with
  |lst ds =>
   obtain⟨a,vs,h1,_,h3,h4⟩:=aH S (.ob t) g;exact seq h1 (.inl (aJ.of h3)) h4 (iE e).1
  |ins _ _=>exact(ah e).elim
  |aY kvs =>
   obtain⟨a,ws,h1,_,h3,h4⟩:=c8 S (.ob t) g;have e0:=aa e;clear e;obtain⟨k,_,e5,e6⟩:=e0;have NI:=ba e5;clear e5;obtain⟨hk,hM⟩:=NI;have dU:=af e6;clear e6;obtain⟨rfl,_⟩:=dU;have hx:=pW r1 hk;subst hx;cases h1;obtain rfl:u=Value.ref _:=ry;have hs:(fC ws k).isSome=(cV kvs k).isSome:=by
    rcases h4.find k with ⟨z1,z2⟩|⟨_,_,z1,z2,_⟩ <;> rw[z1,z2]
    ·rfl
    ·rfl
   rw[<- hs]at q;cases neg with
   |false=>exact Rz (by first|lia|omega) I (iX.k (k:=k) h3) rx fun s3 I3=>⟨.bl _,H,I3,rfl,q⟩
   |true=>exact Kx (by first|lia|omega) I (iX.k (k:=k) h3) rx fun s3 I3=>⟨.bl _,H,I3,rfl,q⟩
 |_=>exact(ah e).elim
theorem jO(hu:X.A.units+100<cLine)(op:CmpOp):cL X (compareOp op) (y9 X.K (uc op)):=by
 intro pins s σ H x y v u Q I rx ry h;obtain⟨ι,M,M',dx,dy,d,S,r1,r2,e,k⟩:=h;have e0:=aa e;clear e;obtain⟨b,M1,e1,e2⟩:=e0;have aM:=af e2;clear e2;obtain⟨rfl,rfl⟩:=aM;have fin:M'=M->Q (.bl b) H:=fun z=>by subst z;exact k (.bl b) H ι (.bl b) S Ext.refl
 cases op with
 |Eq =>
  have aD:=vY e1;clear e1;obtain⟨hs,rfl⟩:=aD;exact(lK I S 20 (A:=X.A) (by first|lia|omega) r1 r2 rx ry hs).1 X.prog X.w X.xe _ ⟨.bl b,H,I,rfl,fin rfl⟩
 |NotEq =>
  have aD:=aa e1;clear e1;obtain⟨c,_,e3,e4⟩:=aD;have aZ:=vY e3;clear e3;obtain⟨hs,rfl⟩:=aZ;have cy:=af e4;clear e4;obtain⟨rfl,rfl⟩:=cy;exact(lK I S 20 (A:=X.A) (by first|lia|omega) r1 r2 rx ry hs).2.1 X.prog X.w X.xe _ ⟨.bl (!c),H,I,rfl,fin rfl⟩
 |Lt =>
  have aD:=ba e1;clear e1;obtain⟨e3,rfl⟩:=aD;cases r1 <;> cases r2 <;> simp only[Px,Option.some.injEq,reduceCtorEq]at e3
  ·exact OI pins s σ H _ _ v u Q I rx ry ⟨_,_,rfl,rfl,by show Q (.bl (decide _)) H;rw[e3];exact fin rfl⟩
  ·exact Dr pins s σ H _ _ v u Q I rx ry ⟨_,_,rfl,rfl,by rw[e3];exact fin rfl⟩
 |LtE =>
  have aD:=ba e1;clear e1;obtain⟨e3,rfl⟩:=aD;cases r1 <;> cases r2 <;> simp only[PB,Option.some.injEq,reduceCtorEq]at e3
  ·exact OJ pins s σ H _ _ v u Q I rx ry ⟨_,_,rfl,rfl,by show Q (.bl (decide _)) H;rw[e3];exact fin rfl⟩
  ·obtain⟨t,rfl⟩:=rx
   obtain⟨t',rfl⟩:=ry;exact PySem.P.le_str (jW I (fin rfl) e3.symm)
 |Gt =>
  cases r1 <;> cases r2 <;> first
   |exact(ah e1).elim
   | (have aD:=af e1;clear e1;obtain⟨rfl,rfl⟩:=aD;exact OL pins s σ H _ _ v u Q I rx ry ⟨_,_,rfl,rfl,fin rfl⟩)
 |GtE =>
  cases r1 <;> cases r2 <;> first
   |exact(ah e1).elim
   | (have aD:=af e1;clear e1;obtain⟨rfl,rfl⟩:=aD;exact OM pins s σ H _ _ v u Q I rx ry ⟨_,_,rfl,rfl,fin rfl⟩)
 |In=>exact Ia hu false I rx ry S r1 r2 e1 (fin (Ib e1))
 |NotIn =>
  have aD:=aa e1;clear e1;obtain⟨b',M2,e3,e4⟩:=aD;have cy:=af e4;clear e4;obtain⟨rfl,rfl⟩:=cy;exact Ia hu true I rx ry S r1 r2 e3 (fin (Ib e3))
 |Is =>
  have aD:=aa e1;clear e1;obtain⟨_,_,e3,e4⟩:=aD;have aZ:=aG e3;clear e3;obtain⟨hs,rfl⟩:=aZ;have cy:=af e4;clear e4;obtain⟨rfl,rfl⟩:=cy;cases r2 <;> simp[gk]at hs;refine Mi pins s σ H _ _ v u Q I rx ry ⟨rfl,?_⟩
  have:decide (x=V.non)=gk dx:=by cases r1 <;> simp[gk]
  rw[this];exact fin rfl
 |IsNot =>
  have aD:=aa e1;clear e1;obtain⟨_,_,e3,e4⟩:=aD;have aZ:=aG e3;clear e3;obtain⟨hs,rfl⟩:=aZ;have cy:=af e4;clear e4;obtain⟨rfl,rfl⟩:=cy;cases r2 <;> simp[gk]at hs;refine J5 pins s σ H _ _ v u Q I rx ry ⟨rfl,?_⟩
  have:decide (x=V.non)=gk dx:=by cases r1 <;> simp[gk]
  rw[this];exact fin rfl
theorem KI{pins:List (Addr×Obj)}{s:Shared}{σ:St}{H:Hp}{a b:Addr}{us:List V}{Q:Value->Shared->Prop}{E:Value->Shared->Prop}(I:Inv X pins σ H s)(t1:cz X.K H a [])(t2:cz X.K H b us)(q:Q (.ref b) s):wpAny (model X.prog X.w) X.A (binaryOp .Add (.ref a) (.ref b)) Q E s:=by
 obtain⟨its,q1,p1,_⟩:=I.tuple t1;obtain⟨bK,q2,p2,_⟩:=I.tuple t2;cases q1;obtain⟨⟨cls,dd,data,sl⟩,ho,hc,n,hd⟩:=id p1;obtain⟨⟨RA,Jb,data2,Hy⟩,tX,Ee,n2,hd2⟩:=id p2;simp only at hc hd Ee hd2;subst hc hd Ee hd2;exact concat_meets ⟨_,ho,rfl⟩ ⟨_,tX,rfl⟩ noFill_tuple_add seq_tuple_add PySem.F.slot_tuple_add PySem.F.entry_tuple_add (PySem.F.args_tuple_add_2 _ _)
  (tuple_addW0 a b _ bK.toArray n n2 dd Jb sl Hy (by simp)) ⟨ho,tX,q⟩
theorem mul_str{pins:List (Addr×Obj)}{s:Shared}{σ:St}{H:Hp}{x:Str}{j:Int}{t t':Tok}{Q:VK}(I:Inv X pins σ H s)(n1:2<=j)(n2:j<1000)(n3:0<x.length)(n4:x.length<1000)(q:Q (.str (AK x j.toNat)) H) :
  wpAny (model X.prog X.w) X.A (binaryOp .Mult (.str x t) (.int j t')) (EP X pins σ Q) X.xe s:=by
 have hb:x.length*j.toNat<1000000:=by
  have h1:x.length*j.toNat<=999*j.toNat:=Nat.mul_le_mul_right _ (by first|lia|omega)
  first|lia|omega
 have e:PySem.Txt.mul x j=AK x j.toNat:=by
  unfold PySem.Txt.mul AK;rw[if_neg (by first|lia|omega),if_neg (by simp;omega)]
 have ok:PySem.MulOk x j:=by
  refine⟨by simp;omega,fun _ _=>?_,fun _ _=>?_⟩
  ·have:(1000:Int)<=(2 ^ 63-1:Int) / j:=Int.le_ediv_of_mul_le (by first|lia|omega) (by first|lia|omega)
   first|lia|omega
  ·unfold Builtin.Str.tooLong zp
   exact decide_eq_false (by first|lia|omega)
 refine PySem.SB.mul ok fun t2 k2=>?_;rw[e];exact⟨.str _,H,I.tok _,⟨t2,rfl⟩,q⟩
theorem Ml(op:Operator):cL X (binaryOp op) (y9 X.K (eK op)):=by
 intro pins s σ H x y v u Q I rx ry h;obtain⟨ι,M,M',dx,dy,d,S,r1,r2,e,k⟩:=h;have fin:∀{w':V},M'=M->Rep X.K ι H d w'->Q w' H:=fun {w'} z r=>by subst z;exact k w' H ι r S Ext.refl
 cases op
 case Add =>
  cases dx <;> first|exact(ah e).elim|(cases dy <;> first|exact(ah e).elim|skip)
  ·delta eK at e
   dsimp only at e;have e0:=af e;clear e;obtain⟨rfl,rfl⟩:=e0;cases r1;cases r2;exact Mm pins s σ H _ _ v u Q I rx ry ⟨_,_,rfl,rfl,fin rfl (.int _)⟩
  ·delta eK at e
   dsimp only at e;have e0:=aa e;clear e;obtain⟨_,_,e1,e⟩:=e0;have aD:=aG e1;clear e1;obtain⟨hn,rfl⟩:=aD;have e0:=af e;clear e;obtain⟨rfl,rfl⟩:=e0;cases r1;cases r2;exact Bm pins s σ H _ _ v u Q I rx ry ⟨_,_,rfl,rfl,hn,fin rfl (.str _)⟩
  ·delta eK at e
   dsimp only at e;have e0:=aa e;clear e;obtain⟨_,_,e1,e⟩:=e0;have aD:=aG e1;clear e1;obtain⟨hz,rfl⟩:=aD;have e0:=af e;clear e;obtain⟨rfl,rfl⟩:=e0;cases r1 with
   |tup t1 q1 =>
    cases r2 with
    |tup t2 q2 =>
     rename_i a vs b us;by_cases hn:vs=[]
     ·subst hn
      cases q1;cases rx;cases ry;exact KI I (bT t1) (bT t2) ⟨.ref _,H,I,rfl,k _ H ι (.tup t2 q2) S Ext.refl⟩
     ·refine J7 pins s σ H _ _ v u Q I rx ry ⟨_,_,_,_,rfl,rfl,bT t1,bT t2,hn,by rw[<- q1.length,<- q2.length];exact hz,fun z=>?_,fun z=>jP S (q1.append q2) k⟩
      subst z;cases q2;rw[zJ]at k;exact k _ H ι (.tup t1 q1) S Ext.refl
  ·delta eK at e
   dsimp only at e;have e0:=aa e;clear e;obtain⟨xs,_,e1,e⟩:=e0;have aD:=bw e1;clear e1;obtain⟨g1,rfl⟩:=aD;have e0:=aa e;clear e;obtain⟨ys,_,e1,e⟩:=e0;have aD:=bw e1;clear e1;obtain⟨g2,rfl⟩:=aD;have e0:=aa e;clear e;obtain⟨_,_,e1,e⟩:=e0;have aD:=aG e1;clear e1;obtain⟨hn,rfl⟩:=aD;obtain⟨a,vs,rfl,_,h3,h4⟩:=aH S r1 g1;obtain⟨b,us,rfl,_,h5,h6⟩:=aH S r2 g2;exact Mj pins s σ H _ _ v u Q I rx ry ⟨a,b,vs,us,rfl,rfl,h3,h5,by rw[<- h4.length,<- h6.length];exact hn,fj S (h4.append h6) e k⟩
 case Sub =>
  cases dx <;> first|exact(ah e).elim|(cases dy <;> first|exact(ah e).elim|skip)
  ·delta eK at e
   dsimp only at e;have e0:=af e;clear e;obtain⟨rfl,rfl⟩:=e0;cases r1;cases r2;exact Me pins s σ H _ _ v u Q I rx ry ⟨_,_,rfl,rfl,fin rfl (.int _)⟩
 case Mult =>
  cases dx <;> first|exact(ah e).elim|(cases dy <;> first|exact(ah e).elim|skip)
  ·delta eK at e
   dsimp only at e;have e0:=aa e;clear e;obtain⟨_,_,e1,e⟩:=e0;have aD:=aG e1;clear e1;obtain⟨hn,rfl⟩:=aD;have e0:=af e;clear e;obtain⟨rfl,rfl⟩:=e0;cases r1;cases r2;exact Mg pins s σ H _ _ v u Q I rx ry ⟨_,_,rfl,rfl,hn,fin rfl (.int _)⟩
  ·delta eK at e
   dsimp only at e;have e0:=aa e;clear e;obtain⟨_,_,e1,e⟩:=e0;have aD:=aG e1;clear e1;obtain⟨⟨n1,n2,n3,n4⟩,rfl⟩:=aD;have e0:=af e;clear e;obtain⟨rfl,rfl⟩:=e0;cases r1;cases r2;obtain⟨t,rfl⟩:=rx;obtain⟨t',rfl⟩:=ry;exact mul_str I n1 n2 n3 n4 (fin rfl (.str _))
 case FloorDiv =>
  cases dx <;> first|exact(ah e).elim|(cases dy <;> first|exact(ah e).elim|skip)
  ·delta eK at e
   dsimp only at e;have e0:=aa e;clear e;obtain⟨_,_,e1,e⟩:=e0;have aD:=aG e1;clear e1;obtain⟨hn,rfl⟩:=aD;have e0:=af e;clear e;obtain⟨rfl,rfl⟩:=e0;cases r1;cases r2;exact J6 pins s σ H _ _ v u Q I rx ry ⟨_,_,rfl,rfl,hn,fin rfl (.int _)⟩
 case Mod =>
  cases dx <;> first|exact(ah e).elim|(cases dy <;> first|exact(ah e).elim|skip)
  ·delta eK at e
   dsimp only at e;have e0:=aa e;clear e;obtain⟨_,_,e1,e⟩:=e0;have aD:=aG e1;clear e1;obtain⟨hn,rfl⟩:=aD;have e0:=af e;clear e;obtain⟨rfl,rfl⟩:=e0;cases r1;cases r2;exact Mh pins s σ H _ _ v u Q I rx ry ⟨_,_,rfl,rfl,hn,fin rfl (.int _)⟩
 case Pow =>
  cases dx <;> first|exact(ah e).elim|(cases dy <;> first|exact(ah e).elim|skip)
  ·delta eK at e
   dsimp only at e;have e0:=aa e;clear e;obtain⟨_,_,e1,e⟩:=e0;have aD:=aG e1;clear e1;obtain⟨hn,rfl⟩:=aD;have e0:=af e;clear e;obtain⟨rfl,rfl⟩:=e0;cases r1;cases r2;exact Mf pins s σ H _ _ v u Q I rx ry ⟨_,_,rfl,rfl,hn,fin rfl (.int _)⟩
 all_goals exact(ah e).elim
theorem Kl(hu:X.A.units+100<cLine):Aa X (fun x y H Q=>∃a v,x=.ref a/\iX H a y (some v)/\Q v H):=by
 intro value slice pins s σ H x y v u Q I rx ry h hs;obtain⟨a,w',rfl,g,q⟩:=h;obtain rfl:v=Value.ref a:=rx;exact tail_any (uX I g) PySem.F.slot_dict_getitem.lookup (EF (by first|lia|omega) I g ry fun w2 s3 I3 rw'=>⟨w',H,I3,rw',q⟩) hs
theorem MN(hu:X.A.units+100<cLine):Aa X (y9 X.K gM):=by
 intro value slice pins s σ H x y v u Q I rx ry h hs;obtain⟨ι,M,M',dx,dy,d,S,r1,r2,e,k⟩:=h;have fin:∀{w':V},M'=M->Rep X.K ι H d w'->Q w' H:=fun {w'} z r=>by subst z;exact k w' H ι r S Ext.refl
 unfold gM at e;split at e
 ·have e0:=ba e;clear e;obtain⟨e1,rfl⟩:=e0
  cases r2;cases r1 with
  |tup t q =>
   obtain⟨w',h1,h2⟩:=pJ q e1;exact ML value slice pins s σ H _ _ v u Q I rx ry ⟨_,_,_,w',rfl,rfl,bT t,h1,fin rfl h2⟩ hs
 ·have e0:=ba e;clear e;obtain⟨e1,rfl⟩:=e0
  cases r2;cases r1 with
  |fl t q =>
   obtain⟨w',h1,h2⟩:=pJ q e1;exact ml value slice pins s σ H _ _ v u Q I rx ry ⟨_,_,_,w',rfl,rfl,t.seq,h1,fin rfl h2⟩ hs
 ·have e0:=aa e;clear e;obtain⟨_,_,e1,e⟩:=e0
  have aD:=aG e1;clear e1;obtain⟨hn,rfl⟩:=aD;have e0:=aa e;clear e;obtain⟨c,_,e1,e⟩:=e0;have aD:=ba e1;clear e1;obtain⟨hc,rfl⟩:=aD;have e0:=af e;clear e;obtain⟨rfl,rfl⟩:=e0;cases r2;cases r1;exact MM value slice pins s σ H _ _ v u Q I rx ry ⟨_,_,c,rfl,rfl,hn,hc,fin rfl (.str _)⟩ hs
 ·have e0:=aa e;clear e;obtain⟨o,_,e1,e⟩:=e0
  have aD:=dY e1;clear e1;obtain⟨g,rfl⟩:=aD;cases o with
  |lst ds =>
   dsimp only at e;split at e
   ·have e0:=ba e;clear e;obtain⟨e1,rfl⟩:=e0
    obtain⟨a,vs,rfl,_,h3,h4⟩:=aH S r1 g;cases r2;obtain⟨w',h1,h2⟩:=pJ h4 e1;exact ml value slice pins s σ H _ _ v u Q I rx ry ⟨_,_,_,w',rfl,rfl,aJ.of h3,h1,fin rfl h2⟩ hs
   ·exact(ah e).elim
  |aY kvs =>
   have e0:=aa e;clear e;obtain⟨q,_,e1,e⟩:=e0;have aD:=ba e1;clear e1;obtain⟨hk,rfl⟩:=aD;have e0:=ba e;clear e;obtain⟨e1,rfl⟩:=e0;obtain⟨a,ws,rfl,_,h3,h4⟩:=c8 S r1 g;have hy:=pW r2 hk;subst hy;rcases h4.find q with ⟨z1,z2⟩|⟨d',w',z1,z2,z3⟩
   ·rw[z1]at e1;cases e1
   ·rw[z1]at e1;cases e1
    have g2:iX H a (kV q) (some w'):=z2▸iX.k (k:=q) h3;exact Kl hu value slice pins s σ H _ _ v u Q I rx ry ⟨a,w',rfl,g2,fin rfl z3⟩ hs
  |ins _ _=>exact(ah e).elim
 ·exact(ah e).elim
noncomputable def NV(K:Q_):Ck:=fun o i v H Q=>∃ι M M' x y z u,aK K ι M H/\Rep K ι H x o/\Rep K ι H y i/\Rep K ι H z v/\setIx x y z M=some (.ok u,M') /\
 ∀H',aK K ι M' H'->Ext K ι H ι H'->Q H'
theorem LB(hu:X.A.units+100<cLine):Hd X (NV X.K):=by
 intro pins s σ H o i v ov iv u Q I ro ri rv h;obtain⟨ι,M,M',x,y,z,w',S,r1,r2,r3,e,k⟩:=h;unfold setIx at e;split at e
 ·have e0:=aa e;clear e;obtain⟨ob,_,e1,e⟩:=e0
  have aD:=dY e1;clear e1;obtain⟨g,rfl⟩:=aD;cases ob with
  |lst ds =>
   dsimp only at e;split at e
   ·have e0:=aa e;clear e;obtain⟨j,_,e1,e⟩:=e0
    have aD:=ba e1;clear e1;obtain⟨hj,rfl⟩:=aD;have e0:=jM e;clear e;obtain⟨_,rfl⟩:=e0;obtain⟨a,vs,rfl,hi,h3,h4⟩:=aH S r1 g;cases r2;refine set_list pins s σ H _ _ v ov iv u Q I ro ri rv ⟨a,vs,_,j,rfl,rfl,h3,by rw[<- h4.length];exact hj,?_⟩;have x:Ext X.K ι H ι (upd H a (.lst (vs.set j v))):=Ext.write h3 (Bt _);exact k _ (S.put hi ⟨_,rfl,(h4.mono x).set (r3.mono x) j⟩) x
   ·exact(ah e).elim
  |aY kvs =>
   have e0:=aa e;clear e;obtain⟨q,_,e1,e⟩:=e0;have aD:=ba e1;clear e1;obtain⟨hk,rfl⟩:=aD;have e0:=aa e;clear e;obtain⟨_,_,e1,e⟩:=e0;have aD:=aG e1;clear e1;obtain⟨hn,rfl⟩:=aD;have e0:=jM e;clear e;obtain⟨_,rfl⟩:=e0;obtain⟨a,ws,rfl,hi,h3,h4⟩:=c8 S r1 g;have hy:=pW r2 hk;subst hy;obtain rfl:ov=Value.ref a:=ro;have x:Ext X.K ι H ι (upd H a (.dK (putK ws q v))):=Ext.write h3 (Bu _);refine ED (by first|lia|omega) I (Cr.k (k:=q) h3 (by rw[<- h4.len];exact hn)) ri rv fun s4 I4=>⟨_,I4,?_⟩
   exact k _ (S.put hi ⟨_,rfl,(h4.mono x).put q (r3.mono x)⟩) x
  |ins _ _=>exact(ah e).elim
 ·exact(ah e).elim
end
end L3
namespace L3
open PySem PySem.Spec PyProof.Rows L2
end L3
namespace L3
open PySem PySem.Spec PyProof.Rows L2
section
variable {prog:Program}{w:World}{K:Type}[DecidableEq K]{knd:PySem.KeyKind prog w K}{A:Around}{E:Value->Shared->Prop}
end
end L3
namespace L3
open PySem PySem.Spec PyProof.Rows L2
section
variable {prog:Program}{w:World}{A:Around}{E:Value->Shared->Prop}{s:Shared}
theorem kT{t sl:Addr}{items:Array Value}{vl vu:Value}{lo hi:Option Int}{Q:Value->Shared->Prop}(ht:IsTup s.heap t items)(hs:s.heap.IsSliceOf sl vl vu .none)(pl:IsPart vl lo)(pu:IsPart vu hi)
  (hw:HT.bp items.size 0 lo=0/\HT.bp items.size items.size hi=items.size) (h:Q (.ref t) s):wpAny (model prog w) A (getItem (.ref t) (.ref sl)) Q E s:=by
 obtain⟨os,tV,IG,oC⟩:=id hs;have Eh:s.TypeIs (.ref sl) "slice":=⟨os,tV,IG⟩;unfold getItem
 try with_reducible refine wpAny_holding ?_
 first|refine zz (zq ?_)|skip
 refine zz (wpAny_sequenceKey ht.typeIs (by decide) ?_);refine zz (wpAny_callSpecial?_slot (name:=Str.ofString "__getitem__") ht.typeIs q_
  (wpAny_call_entry q_ ht.typeIs entry_tuple_getitem ?_ (args_tuple_getitem _ _)))
 show wpAny _ _ (Builtin.Tuple.tupleItemsOf (.ref t) >>= _) _ _ s;refine zz (tupleItemsOf_ ht ?_);refine zz (wpAny_typeOf Eh ?_);rw[if_pos (by decide)];refine zz (HT.iI hs pl pu ?_);have Rj:(((HT.bp items.size 0 lo:Nat):Int)==0&&(1:Int)==1&&(HT.bp items.size items.size hi-HT.bp items.size 0 lo)==items.size)=true:=by
  rw[hw.1,hw.2];simp
 show wpAny _ _ (if (((HT.bp items.size 0 lo:Nat):Int)==0&&(1:Int)==1&&(HT.bp items.size items.size hi-HT.bp items.size 0 lo)==items.size)=true then _ else _) _ _ s;rw[if_pos Rj];refine zz ?_;refine zz (wpAny_typeOf ht.typeIs ?_);refine zq ?_;rw[if_pos (by decide)];refine zz (wpAny_rule ?_)
 first
  |exact zz (zq (zq ⟨_,rfl,zq h⟩))
  |exact zq ⟨_,rfl,zq h⟩
  |exact zz (zq ⟨_,rfl,zq h⟩)
end
theorem nO{M:Model}{A:Around}{E:Value->Shared->Prop}{s:Shared}{β:Type}(r:Std.Legacy.Range)(f:Nat->β->Sem (ForInStep β))(I:List Nat->β->Shared->Prop)(Q:β->Shared->Prop){b:β}
  (turn:∀a rest b s',I (a::rest) b s'->wpAny M A (f a b) (fun step s''=>match step with
   |.yield b'=>I rest b' s''
   |.done b'=>Q b' s'') E s')
  (fin:∀b s',I [] b s'->Q b s') (h:I (wG r.start r.size r.step) b s):wpAny M A (forIn r b f) Q E s:=by
 rw[Std.Legacy.Range.forIn_eq_forIn_range'];exact wpAny_forIn_list f I Q turn fin _ _ h
theorem qV(l:Addr)(items:Array Value)(n:Nat)(dd:Option Addr)(sl:Array (Option Value))(x:Value)(e:Value->Bool)(j:Nat)(hj:j<items.size)(hit:e items[j]=true)(Nf:∀m (hm:m<items.size),m<j->e items[m]=false) :
  Meets (Builtin.«tuple.index» ⟨[.ref l,x],[]⟩)
   (fun A R s=>s.heap.get? l=some { cls:=.type "tuple",dict:=dd,data:=.seq items n,slots:=sl }/\(∀y,y∈items->SeqAt.EqAt A.in1 s y x (e y))/\R (.ok (.ret (.int j s.toks))) { s with toks:=s.toks+1 }) :=
 .of_wp fun prog w A R s h=>by
  obtain⟨hp,g,d,tk,os⟩:=s;obtain⟨hl,he,h⟩:=h;wp_walk using AutoSeq1.wpAny_loadPart' hl,nO _ _ (fun rest b s'=>b.1=none/\s'=⟨hp,g,d,tk,os⟩/\∃i,i<=j/\rest=wG i (items.size-i)) _
  case turn =>
   rintro a rest b s' ⟨hb,rfl,i,hi,hr⟩;have bU:i<items.size:=by first|lia|omega
   have e1:items.size-i=(items.size-(i+1))+1:=by first|lia|omega
   rw[e1,List.range'_succ]at hr;injection hr with r1 r2
   subst r1;have hm:items[a]?=some items[a]:=yQ bU;rw[hm];refine zz (he items[a] (Array.getElem_mem bU) prog w _ _ ?_);by_cases kN:a=j
   ·subst kN
    rw[hit];wp_walk;exact⟨_,rfl,h⟩
   ·rw[Nf a bU (by first|lia|omega)]
    wp_walk;exact⟨rfl,rfl,a+1,by omega,r2⟩
  case fin =>
   rintro ⟨b1,b2⟩ s' ⟨hb,rfl,i,hi,hr⟩
   have:=congrArg List.length hr
   rw[List.length_range']at this;simp at this;first|lia|omega
  case h =>
   refine⟨rfl,rfl,0,yq _,?_⟩;show wG 0 ((min items.size items.size-0+1-1) / 1) 1=_;simp
section
variable {X:Cx}
noncomputable def Ji(T:String)(name:Str)(id:String):Prop:=PlainAttrs T/\Slot T name id/\typeOf (.builtin id)=pure (.type "method_descriptor")
noncomputable def oZ(X:Cx)(T:String)(x:V)(H:Hp):Prop:=∀(pins:List (Addr×Obj)) (σ:St) (s:Shared) (v:Value),Inv X pins σ H s->RelV x v->s.TypeIs v T/\∀a,v=.ref a->∃ob,s.heap.get? a=some ob/\ob.dict=none
noncomputable def Lg(X:Cx)(name:Str)(r:String->V->List V->Hp->VK->Prop)(to:TE)(t:TA):TE:=fun σ H Q=>to σ H fun x H1=>∃T id,Ji T name id/\oZ X T x H1/\t σ H1 fun xs H2=>r id x xs H2 Q
theorem L9{name:Str}{r:String->V->List V->Hp->VK->Prop}{o e:Expr}{es:List Expr}{to:TE}{t:TA}{apos cpos:Pos}(hm:∀id,pe X id (r id))(ho:PE X o to)(ha:PA X (e::es) t)
  (oG:attributeBase o name X.env (eval o X.env)=eval o X.env)
  (Gw:((backTo cpos (starEach (e::es) X.env)).all (fun x=>!x.1)&&(backToKw cpos (keywordEach [] X.env)).all (fun x=>x.1.isSome)
  &&decide ((e::es).length+([]:List Keyword).length+(if ([]:List Keyword).isEmpty then 0 else 1)<30))=true)
  (kz:(apos.endLine==cpos.line)=true) (hs:starEach (e::es) X.env=(false,eval e X.env)::starEach es X.env) (tU:(backTo cpos (starEach es X.env)).any (·.1)=false) :
  PE X (.Call (.Attribute o name apos) (e::es) [] cpos) (Lg X name r to t):=by
 intro pins s σ H Q I h;refine wpAny_Call_method_late oG Gw kz rfl (aF (ho pins s σ H _ I h) fun v s1 ⟨x,H1,I1,r1,T,id,⟨pa,slot,DW⟩,ty,q1⟩=>?_);obtain⟨h1,h2⟩:=ty pins σ s1 v I1 r1;refine⟨T,id,pa,slot,DW,h1,h2,?_⟩;have hA:=ha cpos pins s1 σ H1 _ I1 q1;rw[hs]at hA ⊢;refine Calls.callWith_builtin (by show (false||(backTo cpos (starEach es X.env)).any (·.1))=false;rw[tU] <;> rfl) (Calls.evalArgs_plain ?_);exact aF hA fun us s2 ⟨vs,H2,I2,r2,q2⟩=>hm id pins s2 σ H2 x vs v us Q I2 r1 r2 q2
theorem kg{a:Addr}{xs:List V}{H:Hp}(h:aJ X.K H a xs):oZ X "list" (.ref a) H:=fun pins σ s v I r=>jJ I r (.inl ⟨rfl,xs,h⟩)
theorem vm{y:Str}{H:Hp}:oZ X "str" (.str y) H:=fun pins σ s v I r=>jJ (X:=X) I r rfl
theorem JQ{a:Addr}{xs:List V}{H:Hp}(h:cz X.K H a xs):oZ X "tuple" (.ref a) H:=fun pins σ s v I r=>by
 cases r;obtain⟨its,_,p,_⟩:=I.tuple h;obtain⟨o,e,d,_⟩:=I.qm h;exact⟨p.typeIs,fun b eb=>by cases eb;exact⟨o,e,d⟩⟩
theorem lV{K:Q_}{ι:List Addr}{H:Hp}{d:D}{vs:List V}(r:aC K ι H [d] vs):∃v,vs=[v]/\Rep K ι H d v:=by
 cases r with|cons r1 r2=>cases r2;exact⟨_,rfl,r1⟩
theorem mX{K:Q_}{ι:List Addr}{M M':MH}{H:Hp}{k:Nat}{a:Addr}{ds es:List D}{vs ws:List V}{u:Unit}(S:aK K ι M H)(hi:ι[k]?=some a)(ha:H a=some (.lst vs))(r:aC K ι H es ws)(e:du k (.lst es) M=some (.ok u,M')) :
  aK K ι M' (upd H a (.lst ws))/\Ext K ι H ι (upd H a (.lst ws)):=by
 have e0:=jM e;clear e;obtain⟨_,rfl⟩:=e0;have x:Ext K ι H ι (upd H a (.lst ws)):=Ext.write ha (Bt _);exact⟨S.put hi ⟨_,rfl,r.mono x⟩,x⟩
theorem Bv:pe X "list.extend" (fun x vs H Q=>∃l b xs zs,x=.ref l/\vs=[.ref b]/\H l=some (.lst xs)/\cz X.K H b zs/\xs.length+zs.length<=zp/\Q .non (upd H l (.lst (xs++zs)))):=by
 intro pins s σ H x vs v us Q I rx rv h;obtain⟨l,b,xs,zs,rfl,rfl,hH,hB,hz,q⟩:=h;cases rx;obtain⟨u,rfl,ru⟩:=rv.one;cases ru;obtain⟨z,its,n,r,hl,e⟩:=I.pU hH;obtain⟨bK,r2,⟨⟨cls,dd,data,sl⟩,ho,hc,n2,hd⟩,z2⟩:=I.tuple hB;obtain⟨o2,e2,d2,d3⟩:=I.qm hB;rw[ho]at e2;cases e2;simp only at hc hd d2 d3;subst hc hd d2 d3;have qE:=r2.length;have hsz:its.toArray.size+bK.toArray.size<=zp:=by rw[zl,zl];omega
 have BJ:¬ (!its.toArray.isEmpty&&Builtin.List.listTooLong (its.toArray.size+bK.toArray.size))=true:=by
  rw[tG hsz,wN];exact zt
 refine call_meets F.slot_list_extend ⟨_,e,rfl⟩ F.entry_list_extend (F.args_list_extend_2 _ _)
  (AutoSeq1.list_extend_list_tuple_0 l its.toArray n b bK.toArray n2 BJ (by rw[zl];omega) (by first|lia|omega)) ⟨e,ho,?_⟩
 refine⟨.non,_,I.Ga (its':=its++bK) hH e (by simp) (r.append r2) ?_,rfl,q⟩;rw[zf];first|lia|omega
noncomputable def C9(K:Q_)(T:Bool):V->List V->Hp->VK->Prop:=fun x vs H Q=>∃l xs y j,x=.ref l/\vs=[y]/\(if T then cz K H l xs else aJ K H l xs)/\fQ y=true/\xs.all fQ=true/\xs.findIdx? (fun z=>kP z y)=some j/\Q (.int (j:Nat)) H
theorem tT{xs:List V}{us:List Value}{y:V}{j:Nat}(r:Vals xs us)(hf:xs.all fQ=true)(h:xs.findIdx? (fun z=>kP z y)=some j) :
  ∃hj:j<us.toArray.size,ue y us.toArray[j]=true/\∀m (hm:m<us.toArray.size),m<j->ue y us.toArray[m]=false:=by
 obtain⟨h1,h2,h3⟩:=yb.mp h;have hl:=r.length;have val:∀m (hm:m<us.toArray.size) (hm':m<xs.length),ue y us.toArray[m]=kP xs[m] y:=fun m hm hm'=>by
  obtain⟨u,e1,e2⟩:=r.get (zw hm');have e3:us.toArray[m]=u:=by
   have:=(zv.mp e1).2
   simpa using this
  rw[e3];exact Ew e2 (zB.mp hf _ (yd hm'))
 refine⟨by rw[zl];omega,?_,fun m hm U7=>?_⟩
 ·rw[val j _ h1];exact h2
 ·rw[val m _ (by first|lia|omega)]
  have:=h3 m U7
  simpa using this
theorem DA:pe X "list.index" (C9 X.K false):=by
 intro pins s σ H x vs v us Q I rx rv h;obtain⟨l,xs,y,j,rfl,rfl,hs,fy,fx,hj,q⟩:=h;cases rx;obtain⟨u,rfl,ru⟩:=rv.one;obtain⟨its,r,p,hz⟩:=I.list (by simpa using hs);obtain⟨⟨cls,dd,data,sl⟩,ho,hc,n,hd⟩:=id p.isList;simp only at hc hd;subst hc hd;obtain⟨h1,h2,h3⟩:=tT r fx hj;have hb:j<2 ^ 62:=by
  have:=r.length
  rw[zl]at h1;unfold zp at hz;first|lia|omega
 refine call_meets PySem.F.slot_list_index ⟨_,ho,rfl⟩ PySem.F.entry_list_index (PySem.F.args_list_index_2 _ _) (SeqAt.list_indexAt l its.toArray n dd sl u (ue y) j h1 (by first|lia|omega) h2 h3) ⟨ho,fun z hz'=>nk ru fy r fx z (by simpa using hz'),?_⟩
 exact⟨.int (j:Nat),H,I.tok _,⟨_,rfl⟩,q⟩
theorem Dz:pe X "tuple.index" (C9 X.K true):=by
 intro pins s σ H x vs v us Q I rx rv h;obtain⟨l,xs,y,j,rfl,rfl,hs,fy,fx,hj,q⟩:=h;cases rx;obtain⟨u,rfl,ru⟩:=rv.one;obtain⟨its,r,p,hz⟩:=I.tuple (by simpa using hs);obtain⟨⟨cls,dd,data,sl⟩,ho,hc,n,hd⟩:=id p;simp only at hc hd;subst hc hd;obtain⟨h1,h2,h3⟩:=tT r fx hj;refine call_meets PySem.F.slot_tuple_index ⟨_,ho,rfl⟩ PySem.F.entry_tuple_index (PySem.F.args_tuple_index_2 _ _) (qV l its.toArray n dd sl u (ue y) j h1 h2 h3) ⟨ho,fun z hz'=>nk ru fy r fx z (by simpa using hz'),?_⟩;exact⟨.int (j:Nat),H,I.tok _,⟨_,rfl⟩,q⟩
theorem GC(t:Str)(ys:List Str):Builtin.Str.glued t ys=i5 t ys:=by
 have gen:∀(ys:List Str) (acc:Array Nat),(ys.foldl (fun acc p=>acc++t.cps++p.cps) acc).toList=acc.toList++(ys.map fun p=>t.cps.toList++p.cps.toList).flatten:=by
  intro ys;induction ys with
  |nil=>intro acc;simp
  |cons y r ih =>
   intro acc;rw[List.foldl_cons,ih];simp
 have gl:∀(y:Str) (r:List Str),glue t.cps.toList ((y::r).map (·.cps.toList))=y.cps.toList++(r.map fun p=>t.cps.toList++p.cps.toList).flatten:=by
  intro y r;induction r generalizing y with
  |nil=>simp[glue]
  |cons z r ih =>
   show y.cps.toList++t.cps.toList++glue t.cps.toList ((z::r).map (·.cps.toList))=_;rw[ih];simp
 unfold Builtin.Str.glued i5;congr 1;apply xM.mp;cases ys with
 |nil=>rfl
 |cons y r =>
  rw[gl];simp only[List.drop_succ_cons,xz,wH];rw[gen]
noncomputable def rJoin(K:Q_):V->List V->Hp->VK->Prop:=fun x vs H Q=>∃t l ys,x=.str t/\vs=[.ref l]/\aJ K H l (ys.map V.str)/\(ys.map (·.length)).sum+ys.length*t.length<=16777216/\Q (.str (i5 t ys)) H
theorem sj:∀{ys:List Str} {us:List Value},Vals (ys.map V.str) us->StrsAre us ys
 |[],_,.nil=>.nil
 |y::ys,_,.cons ⟨t,e⟩ r=>by subst e;exact .cons y t (sj r)
noncomputable def Oy:V->List V->Hp->VK->Prop:=fun x vs H Q=>∃a b,x=.str a/\vs=[.str b]/\Q (.int (findS a b)) H
theorem Kf:pe X "str.find" Oy:=by
 intro pins s σ H x vs v us Q I rx rv h;obtain⟨a,b,rfl,rfl,q⟩:=h;obtain⟨tk,rfl⟩:=rx;obtain⟨u,rfl,ru⟩:=rv.one;obtain⟨t2,rfl⟩:=ru;exact SC.find ⟨.int _,H,I.tok _,⟨_,rfl⟩,q⟩
theorem Ke:pe X "str.join" (rJoin X.K):=by
 intro pins s σ H x vs v us Q I rx rv h;obtain⟨t,l,ys,rfl,rfl,hs,hz,q⟩:=h;obtain⟨tk,rfl⟩:=rx;obtain⟨u,rfl,ru⟩:=rv.one;cases ru;obtain⟨its,r,p,_⟩:=I.list hs;refine PyProof.Rows.join_list p.isList (sj (by simpa using r)) hz fun t' k=>?_;have e:PySem.Txt.join t ys=i5 t ys:=GC t ys;rw[e];exact⟨.str _,H,I.tok _,⟨t',rfl⟩,q⟩
end
end L3
namespace L3
open PySem PySem.Spec PyProof.Rows L2
theorem Sx(xs:List V)(lo hi:Option Int):nC xs lo hi=cutD xs lo hi:=rfl
theorem mV{K:Q_}{ι:List Addr}{H:Hp}{ds:List D}{vs:List V}(r:aC K ι H ds vs)(lo hi:Option Int):aC K ι H (cutD ds lo hi) (cutD vs lo hi):=by
 unfold cutD;rw[<- r.length];exact(r.drop _).take _
theorem qJ{α:Type}{xs:List α}{lo hi:Option Int}(h:(cutD xs lo hi).length=xs.length):cutD xs lo hi=xs:=by
 unfold cutD at h ⊢;rw[zY,zZ]at h;have h1:dh xs.length 0 lo=0\/xs.length=0:=by first|lia|omega
 rcases h1 with h1|h1
 ·rw[h1]at h ⊢
  rw[xz,xy (by first|lia|omega)]
 ·have e:xs=[]:=xN.mp h1
  subst e;simp
section
variable {X:Cx}
theorem CU(x:Str)(lo hi:Option Int):Txt.slice x lo hi=⟨(cutD x.cps.toList lo hi).toArray⟩:=by
 have ext:∀(a b:Str),a.cps.toList=b.cps.toList->a=b:=fun a b h=>by
  cases a;cases b;simp only at h;congr 1;exact xM.mp h
 have tN:x.length=x.cps.toList.length:=by simp[Str.length]
 have key:∀(i j n:Nat),i<=n->j<=n->Builtin.Str.strSliceIndices lo hi 1 n=sliceRange (i:Int) (j:Int) 1->((Builtin.Str.strSliceIndices lo hi 1 n).filterMap (x.cps[·]?))=((x.cps.toList.drop i).take (j-i))\/n≠x.length:=by
  intro i j n hi' hj e;by_cases hn:n=x.length
  ·left
   rw[e];unfold sliceRange;simp only[show (1:Int) > 0 by decide,if_true];have hc:(if (i:Int)<(j:Int) then ((j:Int)-(i:Int)+1-1) / 1 else 0).toNat=j-i:=by split <;> omega
   rw[hc,xB];have hf:((fun k=>x.cps[k]?) ∘ fun (k:Nat)=>((i:Int)+1*(k:Int)).toNat)=fun k:Nat=>x.cps.toList[i+k]?:=by
    funext k;simp only[Function.comp]
    have:((i:Int)+1*(k:Int)).toNat=i+k:=by first|lia|omega
    rw[this];simp
   rw[hf];have hlen:j<=x.cps.toList.length:=by rw[<- tN,<- hn];exact hj
   clear e hc hf;have gen:∀(m:Nat) (l:List Nat),m<=l.length->(List.range m).filterMap (fun k=>l[k]?)=l.take m:=by
    intro m;induction m with
    |zero=>intro l _;rfl
    |succ m ih =>
     intro l hl;cases l with
     |nil=>simp at hl
     |cons a r =>
      rw[xR,ym];simp only[List.getElem?_cons_zero,xg,xB];congr 1;rw[<- ih r (by simpa using hl)];rfl
   have OY:∀k:Nat,x.cps.toList[i+k]?=(x.cps.toList.drop i)[k]?:=fun k=>by rw[wp]
   simp only[OY];exact gen (j-i) (x.cps.toList.drop i) (by rw[zZ];omega)
  ·exact .inr hn
 have hbnd:∀(o:Option Int) (d n:Nat),d<=n->dh n d o<=n:=fun o d n hd=>by
  cases o with
  |none=>exact hd
  |some v=>simp only[dh];split <;> omega
 have Nl:Builtin.Str.strSliceIndices lo hi 1 x.length=sliceRange ((dh x.length 0 lo:Nat):Int) ((dh x.length x.length hi:Nat):Int) 1:=by
  unfold Builtin.Str.strSliceIndices;have c:∀(o:Option Int) (d:Nat),(match o with
    |none=>(d:Int)
    |some i=>max 0 (min (if i<0 then i+(x.length:Int) else i) (x.length:Int)))=((dh x.length d o:Nat):Int):=fun o d=>by
   cases o with
   |none=>rfl
   |some v=>simp only[dh];split <;> omega
  have c1:=c lo 0;have c2:=c hi x.length;simp only[show (1:Int) > 0 by decide,if_true]at c1 c2 ⊢;rw[<- c1,<- c2];cases lo <;> cases hi <;> rfl
 have hk:=key _ _ _ (hbnd lo 0 x.length (yq _)) (hbnd hi x.length x.length (zr _)) Nl;rcases hk with hk|hk
 ·have Ru:((Builtin.Str.strSliceIndices lo hi 1 x.length).filterMap (x.cps[·]?))=cutD x.cps.toList lo hi:=by
   rw[hk];unfold cutD;rw[<- tN]
  have hlen:(Builtin.Str.strSliceIndices lo hi 1 x.length).length=(cutD x.cps.toList lo hi).length:=by
   rw[Nl];unfold sliceRange cutD;rw[<- tN,zY,zZ,<- tN];simp only[show (1:Int) > 0 by decide,if_true,zu,yL];have b1:=hbnd lo 0 x.length (yq _);have b2:=hbnd hi x.length x.length (zr _);split <;> omega
  unfold Txt.slice;split
  ·rename_i hw
   apply ext;show x.cps.toList=cutD x.cps.toList lo hi;symm;apply qJ;rw[<- hlen];simp at hw;rw[hw,tN]
  ·rw[Ru]
 ·exact absurd rfl hk
theorem Lx:EY X (fun x lo hi H Q=>∃y,x=.str y/\y.length<=zp/\Q (.str ⟨(cutD y.cps.toList lo hi).toArray⟩) H):=by
 intro pins s σ H x v vl vu lo hi sl Q I rx hs pl pu h;obtain⟨y,rfl,hy,q⟩:=h;obtain⟨t,rfl⟩:=rx;refine⟨"str",_,PySem.F.slot_str_getitem.lookup,typeIs_str _ _ _,?_⟩;have part:∀{u:Value} {o:Option Int},IsPart u o->∃p:Option (Int×Tok),partValue p=u/\p.map (·.1)=o:=fun {u o} z=>by
  cases z
  ·exact⟨none,rfl,rfl⟩
  ·exact⟨some (_,_),rfl,rfl⟩
 obtain⟨l,e1,e2⟩:=part pl;obtain⟨r,e3,e4⟩:=part pu;have hs':s.heap.IsSlice sl l r none:=by
  obtain⟨o,h1,h2,h3⟩:=hs;exact⟨o,h1,h2,by rw[h3,<- e1,<- e3];rfl⟩
 refine wpAny_getItem_str_slice hs' rfl ?_;have e:(if (((none:Option (Int×Tok)).map (·.1)).getD 1==1&&(slicePicked y l r none).length==y.length)=true then y else ⟨((slicePicked y l r none).filterMap (y.cps[·]?)).toArray⟩)=Txt.slice y lo hi:=by
  unfold slicePicked Txt.slice;rw[e2,e4];rfl
 refine post_val_or_str ?_;rw[e];refine⟨zO (Txt.slice_le y _ _) hy,fun t' k=>?_⟩;rw[CU];exact⟨.str _,H,I.tok _,⟨t',rfl⟩,q⟩
noncomputable def Qu(K:Q_):V->Option Int->Option Int->Hp->VK->Prop:=fun x lo hi H Q=>∃ι M M' dx d,aK K ι M H/\Rep K ι H dx x/\fF dx lo hi M=some (.ok d,M') /\
 ∀v H' ι',Rep K ι' H' d v->aK K ι' M' H'->Ext K ι H ι' H'->Q v H'
theorem Ly:EY X (Qu X.K):=by
 intro pins s σ H x v vl vu lo hi sl Q I rx hs pl pu h;obtain⟨ι,M,M',dx,d,S,r,e,k⟩:=h;cases r with
 |str y =>
  have e0:=aa e;clear e;obtain⟨_,_,e1,e⟩:=e0;have aD:=aG e1;clear e1;obtain⟨hn,rfl⟩:=aD;have e0:=af e;clear e;obtain⟨rfl,rfl⟩:=e0;exact Lx pins s σ H _ v vl vu lo hi sl Q I rx hs pl pu ⟨y,rfl,hn,k _ H ι (.str _) S Ext.refl⟩
 |ob t =>
  have e0:=aa e;clear e;obtain⟨ds,_,e1,e⟩:=e0;have aD:=bw e1;clear e1;obtain⟨g,rfl⟩:=aD;obtain⟨a,vs,h1,_,h3,h4⟩:=aH S (.ob t) g;cases h1;exact vd pins s σ H _ v vl vu lo hi sl Q I rx hs pl pu ⟨_,vs,rfl,aJ.of h3,fj S (mV h4 lo hi) e k⟩
 |fl t q=>exact vd pins s σ H _ v vl vu lo hi sl Q I rx hs pl pu ⟨_,_,rfl,t.seq,fj S (mV q lo hi) e k⟩
 |tup t q =>
  have e0:=af e;clear e;obtain⟨rfl,rfl⟩:=e0;rename_i a vs ds;by_cases hn:dh ds.length 0 lo=0/\dh ds.length ds.length hi=ds.length
  ·cases rx
   obtain⟨its,r,ht,hz⟩:=I.tuple (bT t);have hlen:its.toArray.size=ds.length:=by rw[zl,<- r.length,q.length]
   refine⟨"tuple",_,PyProof.Rows.slot_tuple_getitem.lookup,ht.typeIs,kT ht hs pl pu (by rw[hlen];exact hn) ⟨.ref a,H,I,rfl,?_⟩⟩;have e:cutD ds lo hi=ds:=qJ (by
    unfold cutD;rw[hn.1,hn.2,xz,xS,zU])
   rw[e]at k;exact k _ H ι (.tup t q) S Ext.refl
  ·exact Lw pins s σ H _ v vl vu lo hi sl Q I rx hs pl pu ⟨_,_,rfl,bT t,by rw[<- q.length];exact hn,jP S (mV q lo hi) k⟩
 |_=>exact(ah e).elim
theorem JD:NT X (fun x H Q=>∃ι M M' d b,aK X.K ι M H/\Rep X.K ι H d x/\ka d M=some (.ok b,M')/\(M'=M->Q b H)):=by
 intro pins s σ H x v Q I rx h;obtain⟨ι,M,M',d,b,S,r,e,k⟩:=h;refine K7 pins s σ H x v Q I rx ?_;cases r with
 |non=>have e0:=af e;clear e;obtain⟨rfl,rfl⟩:=e0;exact⟨_,rfl,k rfl⟩
 |bl c=>have e0:=af e;clear e;obtain⟨rfl,rfl⟩:=e0;exact⟨_,rfl,k rfl⟩
 |int i=>have e0:=af e;clear e;obtain⟨rfl,rfl⟩:=e0;exact⟨_,rfl,k rfl⟩
 |str y =>
  have e0:=aa e;clear e;obtain⟨_,_,e1,e⟩:=e0;have aD:=aG e1;clear e1;obtain⟨hn,rfl⟩:=aD;have e0:=af e;clear e;obtain⟨rfl,rfl⟩:=e0;exact⟨_,⟨hn,rfl⟩,k rfl⟩
 |tup t q =>
  have e0:=af e;clear e;obtain⟨rfl,rfl⟩:=e0;refine⟨_,.inr (.inl ⟨_,bT t,rfl⟩),?_⟩;cases q <;> exact k rfl
 |fl t q =>
  have e0:=af e;clear e;obtain⟨rfl,rfl⟩:=e0;refine⟨_,.inl ⟨_,t.seq,rfl⟩,?_⟩;cases q <;> exact k rfl
 |ob t =>
  have e0:=aa e;clear e;obtain⟨o,_,e1,e⟩:=e0;have aD:=dY e1;clear e1;obtain⟨g,rfl⟩:=aD;cases o with
  |lst ds =>
   have e0:=af e;clear e;obtain⟨rfl,rfl⟩:=e0;obtain⟨a,vs,h1,_,h3,h4⟩:=aH S (.ob t) g;cases h1;refine⟨_,.inl ⟨_,aJ.of h3,rfl⟩,?_⟩;cases h4 <;> exact k rfl
  |ins _ _=>exact(ah e).elim
  |aY kvs =>
   have e0:=af e;clear e;obtain⟨rfl,rfl⟩:=e0;obtain⟨a,vs,h1,_,h3,h4⟩:=c8 S (.ob t) g;cases h1;refine⟨_,.inr (.inr ⟨_,h3,rfl⟩),?_⟩;cases h4 <;> exact k rfl
noncomputable def Qv(K:Q_)(g:List D->Mo D):List V->Hp->VK->Prop:=fun xs H Q=>∃ι M M' ds d,aK K ι M H/\aC K ι H ds xs/\g ds M=some (.ok d,M') /\
 ∀v H' ι',Rep K ι' H' d v->aK K ι' M' H'->Ext K ι H ι' H'->Q v H'
theorem nE{K:Q_}{ι:List Addr}{H:Hp}:∀{ds:List D} {vs:List V} {bs:List Bool},aC K ι H ds vs->ds.mapM bz=some bs->vs=bs.map V.bl
 |_,_,_,.nil,h=>by simp at h;subst h;rfl
 |_,_,_,.cons (d:=d) r t,h=>by
  rw[xC]at h;simp only[xZ,xO,wI,Option.some.injEq]at h;obtain⟨b,hb,bs',tZ,rfl⟩:=h;rw[nE t tZ];cases r <;> simp[bz]at hb;subst hb;rfl
theorem all_range(bs:List Bool):((List.range bs.length).all fun i=>bs.getD i false)=bs.all id:=by
 rw[xl];simp only[zB,yY];constructor
 ·intro h b hb
  obtain⟨i,hi,rfl⟩:=yD hb
  have:=h i hi
  rw[zS,zw hi]at this;exact this
 ·intro h i hi
  rw[zS,zw hi];exact h _ (yd hi)
theorem any_range(bs:List Bool):((List.range bs.length).any fun i=>bs.getD i false)=bs.any id:=by
 rw[xl];simp only[xt,yY];constructor
 ·rintro ⟨i,hi,h⟩
  rw[zS,zw hi]at h;exact⟨_,yd hi,h⟩
 ·rintro ⟨b,hb,h⟩
  obtain⟨i,hi,rfl⟩:=yD hb;refine⟨i,hi,?_⟩;rw[zS,zw hi];exact h
theorem oV(hc:X.calm=true){pins:List (Addr×Obj)}{s:Shared}{σ:St}{H:Hp}{a:Addr}{bs:List Bool}{Q:Value->Shared->Prop}(f:Nat->(Nat->Bool)->Bool)(I:Inv X pins σ H s)(h:H a=some (.lst (bs.map V.bl)))
  (q:∀s',Inv X pins σ H s'->Q (.bool (f bs.length fun i=>bs.getD i false)) s') :
  wpAny (model X.prog X.w) X.A.in1 (pyIter (.ref a)) (fun it s₂=>∃I fp wr n P St tr,it=.ref I/\Walks X.prog X.w X.A.in1 I fp wr n P St/\St 0 s₂.heap/\TruthOf X.prog X.w X.A.in1 P tr /\
   ∀h' tk,(∀b o,b ∉ wr->s₂.heap.get? b=some o->h'.get? b=some o)->Q (.bool (f n tr)) { s₂ with heap:=h',toks:=tk }) X.xe s:=by
 obtain⟨its,rv,p,hz⟩:=I.list (aJ.of h);have bU:a<s.heap.objs.size:=by obtain⟨_,_,e,_⟩:=p;exact zn e
 have hlen:its.toArray.size=bs.length:=by have:=rv.length;simp at this ⊢;omega
 refine wpAny_pyIter_list p.isList ?_;have hh:X.A.in1.handled=none:=I.ok.hd hc;refine⟨s.heap.objs.size,_,_,_,_,_,fun i=>bs.getD i false,rfl,Walks.list hh s.heap.objs.size a (zA bU) its.toArray,⟨⟨_,zk _ rfl,rfl,rfl⟩,p.isList.push _⟩,?_,fun h' tk kk=>?_⟩
 ·intro i v s' Q' E' hv hq
  have hv':its[i]?=some v:=by simpa using hv
  have hi:i<bs.length:=by
   have:=(zv.mp hv').1
   rw[<- hlen];simpa using this
  have hb:(bs.map V.bl)[i]?=some (V.bl bs[i]):=by rw[ze,zw hi];rfl
  obtain⟨u,hu,ru⟩:=rv.get hb;rw[hv']at hu;cases hu;cases ru;refine wpAny_truthy_bool ?_;have hq':Q' (bs.getD i false) s':=hq;rw[zS,zw hi]at hq';exact hq'
 ·rw[hlen]
  have I1:Inv X pins σ H { s with heap:=s.heap.push { cls:=.type "list_iterator",data:=.fields #[.ref a,.int 0 0] } }:=I.kept (t':=s.toks) fun b o e=>zy _ e;refine q _ (I1.turned (it:=s.heap.objs.size) (fun b o hb e=>kk b o (by simpa using hb) e) (I.av.fresh (zr _)) (zI I.lt) (.inr I.sz) (fun y c e z=>?_) fun p hp z=>?_)
  ·obtain⟨v,o,ho,_⟩:=I.cell y c e
   exact absurd (zn ho) (by rw[z];exact yx _)
  ·exact absurd (zn (I.pin p hp).1) (by rw[z];exact yx _)
noncomputable def ET:Bl->String
 |.len=>"len" |.tuple=>"tuple" |.list=>"list" |.repr=>"repr" |.all=>"all" |.any=>"any" |.min2=>"min" |.max2=>"max" |.abs=>"abs" |.dict1=>"dict" |.minL=>"min"
noncomputable def RB:Bl->Bool
 |.tuple=>true|.list=>true|.dict1=>true|_=>false
noncomputable def Cc(b:Bl):Value:=if RB b then .type (ET b) else .builtin (ET b)
theorem KJ(hc:X.calm=true)(hu:X.A.units+100<cLine)(b:Bl):cD X (Cc b) (Qv X.K (eA b)):=by
 intro pins s σ H xs us Q I rv h;obtain⟨ι,M,M',ds,d,S,r,e,k⟩:=h;have fin:∀{w':V},M'=M->Rep X.K ι H d w'->Q w' H:=fun {w'} z r=>by subst z;exact k w' H ι r S Ext.refl
 cases b
 ·rcases ds with _|⟨x,t⟩
  ·exact(ah e).elim
  cases x <;> first|exact(ah e).elim|(cases t <;> first|exact(ah e).elim|skip)
  ·delta eA at e
   dsimp only at e;have e0:=aa e;clear e;obtain⟨_,_,e1,e⟩:=e0;have aD:=aG e1;clear e1;obtain⟨hn,rfl⟩:=aD;have e0:=af e;clear e;obtain⟨rfl,rfl⟩:=e0;cases r with|cons r1 r2=>cases r2;cases r1;exact uv pins s σ H _ us Q I rv ⟨_,rfl,hn,fin rfl (.int _)⟩
  ·delta eA at e
   dsimp only at e;have e0:=af e;clear e;obtain⟨rfl,rfl⟩:=e0;cases r with|cons r1 r2 =>
   cases r2;cases r1 with|tup t q=>exact iV pins s σ H _ us Q I rv ⟨_,_,rfl,.inr (bT t),by rw[<- q.length];exact fin rfl (.int _)⟩
  ·delta eA at e
   dsimp only at e;have e0:=af e;clear e;obtain⟨rfl,rfl⟩:=e0;cases r with|cons r1 r2 =>
   cases r2;cases r1 with|fl t q=>exact iV pins s σ H _ us Q I rv ⟨_,_,rfl,.inl t.seq,by rw[<- q.length];exact fin rfl (.int _)⟩
  ·delta eA at e
   dsimp only at e;have e0:=aa e;clear e;obtain⟨o,_,e1,e⟩:=e0;have aD:=dY e1;clear e1;obtain⟨g,rfl⟩:=aD;cases r with|cons r1 r2 =>
   cases r2;cases o with
   |lst ds =>
    have e0:=af e;clear e;obtain⟨rfl,rfl⟩:=e0;obtain⟨a,vs,rfl,_,h3,h4⟩:=aH S r1 g;exact iV pins s σ H _ us Q I rv ⟨a,vs,rfl,.inl (aJ.of h3),by rw[<- h4.length];exact fin rfl (.int _)⟩
   |ins _ _=>exact(ah e).elim
   |aY kvs =>
    have e0:=af e;clear e;obtain⟨rfl,rfl⟩:=e0;obtain⟨a,ws,rfl,_,h3,h4⟩:=c8 S r1 g;obtain⟨u,rfl,ru⟩:=vals1 rv;cases ru;exact O5 I (.inl h3) fun t s' I'=>⟨.int ws.length,H,I',⟨t,rfl⟩,by rw[<- h4.len];exact fin rfl (.int _)⟩
 ·rcases ds with _|⟨x,t⟩
  ·exact(ah e).elim
  cases x <;> first|exact(ah e).elim|(cases t <;> first|exact(ah e).elim|skip)
  ·delta eA at e
   dsimp only at e;have e0:=af e;clear e;obtain⟨rfl,rfl⟩:=e0;cases r with|cons r1 r2 =>
   cases r2;cases r1 with|tup t q=>exact ik pins s σ H _ us Q I rv ⟨_,_,rfl,.inr ⟨bT t,fin rfl (.tup t q)⟩⟩
  ·delta eA at e
   dsimp only at e;have e0:=af e;clear e;obtain⟨rfl,rfl⟩:=e0;cases r with|cons r1 r2 =>
   cases r2;cases r1 with|fl t q=>exact ik pins s σ H _ us Q I rv ⟨_,_,rfl,.inl ⟨t.seq,jP S q k⟩⟩
  ·delta eA at e
   dsimp only at e;have e0:=aa e;clear e;obtain⟨ds,_,e1,e⟩:=e0;have aD:=bw e1;clear e1;obtain⟨g,rfl⟩:=aD;have e0:=af e;clear e;obtain⟨rfl,rfl⟩:=e0;cases r with|cons r1 r2 =>
   cases r2;obtain⟨a,vs,rfl,_,h3,h4⟩:=aH S r1 g;exact ik pins s σ H _ us Q I rv ⟨_,_,rfl,.inl ⟨aJ.of h3,jP S h4 k⟩⟩
 ·rcases ds with _|⟨x,t⟩
  ·exact(ah e).elim
  cases t <;> first|exact(ah e).elim|skip
  ·delta eA at e
   dsimp only at e;have e0:=aa e;clear e;obtain⟨ds,M1,e1,e⟩:=e0;cases r with|cons r1 r2 =>
   cases r2;obtain⟨rfl,a,vs,rfl,hs,hr⟩:=LC S r1 e1;exact ur pins s σ H _ us Q I rv ⟨a,vs,rfl,hs,fj S hr e k⟩
 ·exact(ah e).elim
 ·rcases ds with _|⟨x,t⟩
  ·exact(ah e).elim
  cases x <;> first|exact(ah e).elim|(cases t <;> first|exact(ah e).elim|skip)
  ·delta eA at e
   dsimp only at e;have e0:=aa e;clear e;obtain⟨ds,_,e1,e⟩:=e0;have aD:=bw e1;clear e1;obtain⟨g,rfl⟩:=aD;have e0:=aa e;clear e;obtain⟨bs,_,e1,e⟩:=e0;have aD:=ba e1;clear e1;obtain⟨hb,rfl⟩:=aD;have e0:=af e;clear e;obtain⟨rfl,rfl⟩:=e0;cases r with|cons r1 r2 =>
   cases r2;obtain⟨a,vs,rfl,_,h3,h4⟩:=aH S r1 g;obtain⟨u,rfl,ru⟩:=vals1 rv;cases ru;rw[nE h4 hb]at h3;exact call_all_walk (oV hc (fun n tr=>(List.range n).all tr) I h3 fun s' I'=>⟨.bl (bs.all id),H,I',by rw[all_range];rfl,fin rfl (.bl _)⟩)
 ·rcases ds with _|⟨x,t⟩
  ·exact(ah e).elim
  cases x <;> first|exact(ah e).elim|(cases t <;> first|exact(ah e).elim|skip)
  ·delta eA at e
   dsimp only at e;have e0:=aa e;clear e;obtain⟨ds,_,e1,e⟩:=e0;have aD:=bw e1;clear e1;obtain⟨g,rfl⟩:=aD;have e0:=aa e;clear e;obtain⟨bs,_,e1,e⟩:=e0;have aD:=ba e1;clear e1;obtain⟨hb,rfl⟩:=aD;have e0:=af e;clear e;obtain⟨rfl,rfl⟩:=e0;cases r with|cons r1 r2 =>
   cases r2;obtain⟨a,vs,rfl,_,h3,h4⟩:=aH S r1 g;obtain⟨u,rfl,ru⟩:=vals1 rv;cases ru;rw[nE h4 hb]at h3;exact call_any_walk (oV hc (fun n tr=>(List.range n).any tr) I h3 fun s' I'=>⟨.bl (bs.any id),H,I',by rw[any_range];rfl,fin rfl (.bl _)⟩)
 ·exact(ah e).elim
 ·rcases ds with _|⟨x,t⟩
  ·exact(ah e).elim
  rcases t with _|⟨y,t⟩
  ·cases x <;> exact(ah e).elim
  cases x <;> first|exact(ah e).elim|(cases y <;> first|exact(ah e).elim|(cases t <;> first|exact(ah e).elim|skip))
  ·delta eA at e
   dsimp only at e;have e0:=af e;clear e;obtain⟨rfl,rfl⟩:=e0;cases r with|cons r1 r2 =>
   cases r2 with|cons r2 r3 =>
   cases r3;cases r1;cases r2;exact EL hc pins s σ H _ us Q I rv ⟨_,_,rfl,fin rfl (.int _)⟩
 ·exact(ah e).elim
 ·exact(ah e).elim
 ·exact(ah e).elim
end
end L3
namespace L3
open PySem PySem.Spec PyProof.Rows L2
section
variable {X:Cx}
noncomputable def F7(m:Mt)(x:D):String:=match m,x with
 |.append,_=>"list.append"
 |.insert,_=>"list.insert"
 |.extend,_=>"list.extend"
 |.index,.tup _=>"tuple.index"
 |.index,_=>"list.index"
 |.join,_=>"str.join"
 |.find,_=>"str.find"
 |.get,_=>"dict.get"
noncomputable def tJ:Mt->Str
 |.append=>"append" |.insert=>"insert" |.join=>"join" |.get=>"get"
 |.index=>"index"
 |.extend=>"extend"
 |.find=>"find"
theorem Kd{m:Str}{n:Nat}{k:Mt}(h:F6 m n=some k):m=tJ k:=by
 unfold F6 at h;have key:∀(y:String) (k:Nat),(m==(Str.ofString y)&&n==k)=true->m=Str.ofString y:=fun y k e=>by
  simp only[zx,beq_iff_eq]at e;exact e.1
 split at h
 ·rename_i e;cases h;exact key _ _ e
 split at h
 ·rename_i e;cases h;exact key _ _ e
 split at h
 ·rename_i e;cases h;exact key _ _ e
 split at h
 ·rename_i e;cases h;exact key _ _ e
 split at h
 ·rename_i e;cases h;exact key _ _ e
 split at h
 ·rename_i e;cases h;exact key _ _ e
 split at h
 ·rename_i e;cases h;exact key _ _ e
 ·cases h
noncomputable def RM(K:Q_)(m:Mt)(id:String):V->List V->Hp->VK->Prop:=fun x xs H Q=>∃ι M M' dx ds d,aK K ι M H/\Rep K ι H dx x/\aC K ι H ds xs/\F7 m dx=id/\hU m dx ds M=some (.ok d,M') /\
 ∀v H' ι',Rep K ι' H' d v->aK K ι' M' H'->Ext K ι H ι' H'->Q v H'
theorem nA{K:Q_}{ι:List Addr}{H:Hp}{e:D}{u:V}(q:Rep K ι H e u)(h':bC e=true):∀{ds:List D} {vs:List V} {j:Nat},aC K ι H ds vs->ds.all bC=true->ds.findIdx? (fun d=>eP d e)=some j->vs.findIdx? (fun v=>kP v u)=some j
 |_,_,_,.nil,_,h=>by simp at h
 |d::ds,v::vs,j,.cons r t,h,hf=>by
  rw[zK,zx]at h;rw[wo]at hf ⊢;rw[Eu r q h.1 h'];split at hf
  ·rename_i hc;rw[if_pos hc];exact hf
  ·rename_i hc
   rw[if_neg hc];cases e1:ds.findIdx? (fun d=>eP d e) with
   |none=>rw[e1]at hf;cases hf
   |some i =>
    rw[e1]at hf;rw[nA q h' t h.2 e1];exact hf
theorem nF{K:Q_}{ι:List Addr}{H:Hp}:∀{ds:List D} {vs:List V},aC K ι H ds vs->ds.all bC=true->vs.all fQ=true
 |_,_,.nil,_=>rfl
 |_,_,.cons r t,h=>by
  rw[zK,zx]at h;rw[zK,iU r h.1,nF t h.2];rfl
theorem ll{K:Q_}{ι:List Addr}{H:Hp}:∀{ds:List D} {vs:List V} {ys:List Str},aC K ι H ds vs->ds.mapM sm=some ys->vs=ys.map V.str
 |_,_,_,.nil,h=>by simp at h;subst h;rfl
 |_,_,_,.cons (d:=d) r t,h=>by
  rw[xC]at h;simp only[xZ,xO,wI,Option.some.injEq]at h;obtain⟨b,hb,bs',tZ,rfl⟩:=h;rw[ll t tZ];cases r <;> simp[sm]at hb;subst hb;rfl
theorem My(hu:X.A.units+100<cLine)(m:Mt)(id:String):pe X id (RM X.K m id):=by
 intro pins s σ H x vs v us Q I rx rv h;obtain⟨ι,M,M',dx,ds,d,S,r,rs,rfl,e,k⟩:=h;have fin:∀{w':V},M'=M->Rep X.K ι H d w'->Q w' H:=fun {w'} z r=>by subst z;exact k w' H ι r S Ext.refl
 cases m
 case append =>
  cases dx <;> first|exact(ah e).elim|(rcases ds with _|⟨_,_|⟨_,_⟩⟩ <;> first|exact(ah e).elim|skip)
  ·delta hU at e
   dsimp only at e;rename_i a y;obtain⟨vy,rfl,ry⟩:=lV rs;have e0:=aa e;clear e;obtain⟨xs,_,e1,e⟩:=e0;have aD:=bw e1;clear e1;obtain⟨g,rfl⟩:=aD;have e0:=aa e;clear e;obtain⟨_,_,e1,e⟩:=e0;have aD:=aG e1;clear e1;obtain⟨hn,rfl⟩:=aD;have e0:=aa e;clear e;obtain⟨u,M2,e1,e⟩:=e0;have e0:=af e;clear e;obtain⟨rfl,rfl⟩:=e0;obtain⟨p,ws,rfl,hi,h3,h4⟩:=aH S r g;obtain⟨S2,X2⟩:=mX (ds:=xs) S hi h3 (h4.append (.cons ry .nil)) e1;exact lC pins s σ H _ _ v us Q I rx rv ⟨p,ws,vy,rfl,rfl,h3,by rw[<- h4.length];exact hn,k .non _ ι .non S2 X2⟩
 case insert=>exact(ah e).elim
 case index =>
  cases dx <;> first|exact(ah e).elim|(rcases ds with _|⟨_,_|⟨_,_⟩⟩ <;> first|exact(ah e).elim|skip)
  ·delta hU at e
   dsimp only at e;obtain⟨vy,rfl,ry⟩:=lV rs;have e0:=aa e;clear e;obtain⟨_,_,e1,e⟩:=e0;have aD:=aG e1;clear e1;obtain⟨hn,rfl⟩:=aD;have e0:=aa e;clear e;obtain⟨j,_,e1,e⟩:=e0;have aD:=ba e1;clear e1;obtain⟨hj,rfl⟩:=aD;have e0:=af e;clear e;obtain⟨rfl,rfl⟩:=e0;cases r with
   |tup t q=>exact Dz pins s σ H _ _ v us Q I rx rv ⟨_,_,vy,j,rfl,rfl,bT t,iU ry hn.1,nF q hn.2,nA ry hn.1 q hn.2 hj,fin rfl (.int _)⟩
  ·delta hU at e
   dsimp only at e;obtain⟨vy,rfl,ry⟩:=lV rs;have e0:=aa e;clear e;obtain⟨xs,_,e1,e⟩:=e0;have aD:=bw e1;clear e1;obtain⟨g,rfl⟩:=aD;have e0:=aa e;clear e;obtain⟨_,_,e1,e⟩:=e0;have aD:=aG e1;clear e1;obtain⟨hn,rfl⟩:=aD;have e0:=aa e;clear e;obtain⟨j,_,e1,e⟩:=e0;have aD:=ba e1;clear e1;obtain⟨hj,rfl⟩:=aD;have e0:=af e;clear e;obtain⟨rfl,rfl⟩:=e0;obtain⟨p,ws,rfl,hi,h3,h4⟩:=aH S r g;exact DA pins s σ H _ _ v us Q I rx rv ⟨p,ws,vy,j,rfl,rfl,aJ.of h3,iU ry hn.1,nF h4 hn.2,nA ry hn.1 h4 hn.2 hj,fin rfl (.int _)⟩
 case join =>
  cases dx <;> first|exact(ah e).elim|(rcases ds with _|⟨x,_|⟨_,_⟩⟩ <;> first|exact(ah e).elim|(cases x <;> first|exact(ah e).elim|skip))
  ·delta hU at e
   dsimp only at e;obtain⟨vy,rfl,ry⟩:=lV rs;have e0:=aa e;clear e;obtain⟨xs,_,e1,e⟩:=e0;have aD:=bw e1;clear e1;obtain⟨g,rfl⟩:=aD;have e0:=aa e;clear e;obtain⟨ys,_,e1,e⟩:=e0;have aD:=ba e1;clear e1;obtain⟨hj,rfl⟩:=aD;have e0:=aa e;clear e;obtain⟨_,_,e1,e⟩:=e0;have aD:=aG e1;clear e1;obtain⟨hn,rfl⟩:=aD;have e0:=af e;clear e;obtain⟨rfl,rfl⟩:=e0;obtain⟨p,ws,rfl,hi,h3,h4⟩:=aH S ry g;cases r;have hw:=ll h4 hj;subst hw;exact Ke pins s σ H _ _ v us Q I rx rv ⟨_,p,ys,rfl,rfl,aJ.of h3,hn,fin rfl (.str _)⟩
 case find =>
  cases dx <;> first|exact(ah e).elim|(rcases ds with _|⟨x,_|⟨_,_⟩⟩ <;> first|exact(ah e).elim|(cases x <;> first|exact(ah e).elim|skip))
  ·delta hU at e
   dsimp only at e;obtain⟨vy,rfl,ry⟩:=lV rs;have e0:=af e;clear e;obtain⟨rfl,rfl⟩:=e0;cases r;cases ry;exact Kf pins s σ H _ _ v us Q I rx rv ⟨_,_,rfl,rfl,fin rfl (.int _)⟩
 case extend =>
  cases dx <;> first|exact(ah e).elim|(rcases ds with _|⟨_,_|⟨_,_⟩⟩ <;> first|exact(ah e).elim|skip)
  ·delta hU at e
   dsimp only at e;rename_i kk y;obtain⟨vy,rfl,ry⟩:=lV rs;have e0:=aa e;clear e;obtain⟨es,_,e1,e⟩:=e0;have e0:=aa e;clear e;obtain⟨xs,_,e2,e⟩:=e0;have aM:=bw e2;clear e2;obtain⟨g,rfl⟩:=aM;have e0:=aa e;clear e;obtain⟨_,_,e3,e⟩:=e0;have aZ:=aG e3;clear e3;obtain⟨⟨hn,_⟩,rfl⟩:=aZ;have e0:=aa e;clear e;obtain⟨u,M2,e4,e⟩:=e0;have e0:=af e;clear e;obtain⟨rfl,rfl⟩:=e0;cases ry with
   |tup t q =>
    have aD:=af e1;clear e1;obtain⟨rfl,rfl⟩:=aD;obtain⟨p,ws,rfl,hi,h3,h4⟩:=aH S r g;obtain⟨S2,X2⟩:=mX (ds:=xs) S hi h3 (h4.append q) e4;exact Bv pins s σ H _ _ v us Q I rx rv ⟨p,_,ws,_,rfl,rfl,h3,bT t,by rw[<- h4.length,<- q.length];exact hn,k .non _ ι .non S2 X2⟩
   |ob t =>
    have aD:=bw e1;clear e1;obtain⟨g2,rfl⟩:=aD;obtain⟨p,ws,rfl,hi,h3,h4⟩:=aH S r g;obtain⟨p2,Pb,e5,IB,h5,h6⟩:=aH S (.ob t) g2;cases e5;obtain⟨S2,X2⟩:=mX (ds:=xs) S hi h3 (h4.append h6) e4;exact DB pins s σ H _ _ v us Q I rx rv ⟨p,_,ws,Pb,rfl,rfl,h3,h5,by rw[<- h4.length,<- h6.length];exact hn,k .non _ ι .non S2 X2⟩
   |_=>exact(ah e1).elim
 case get=>exact(ah e).elim
theorem LE.mth{m:Mt}{fo:DE}{fa:Ev->Mo (List D)}(σ:St)(H:Hp)(Q:VK)(h:LE X.K (fun ρ=>do let x<-fo ρ;iK m x;let xs<-fa ρ;hU m x xs) σ H Q):Lg X (tJ m) (RM X.K m) (LE X.K fo) (LA X.K fa) σ H Q:=by
 obtain⟨ι,ρ,M,d,M',S,R,e,k⟩:=h;have e0:=aa e;clear e;obtain⟨x,M1,e1,e⟩:=e0;have e0:=aa e;clear e;obtain⟨u,M2,e2,e⟩:=e0;have e0:=aa e;clear e;obtain⟨xs,M3,e3,e⟩:=e0;refine⟨ι,ρ,M,x,M1,S,R,e1,fun v H1 ι1 r1 S1 X1=>?_⟩;have fact:M2=M1/\∃T,Ji T (tJ m) (F7 m x)/\oZ X T v H1:=by
  unfold iK at e2;split at e2
  ·have e0:=aa e2;clear e2;obtain⟨ds,_,e4,e5⟩:=e0
   have cy:=bw e4;clear e4;obtain⟨g,rfl⟩:=cy;obtain⟨p,ws,rfl,hi,h3,h4⟩:=aH S1 r1 g;exact⟨(af e5).2,"list",⟨PySem.F.plainAttrs_list,PySem.F.slot_list_append,PySem.F.type_list_append⟩,kg (aJ.of h3)⟩
  ·have e0:=aa e2;clear e2;obtain⟨ds,_,e4,e5⟩:=e0
   have cy:=bw e4;clear e4;obtain⟨g,rfl⟩:=cy;obtain⟨p,ws,rfl,hi,h3,h4⟩:=aH S1 r1 g;exact⟨(af e5).2,"list",⟨PySem.F.plainAttrs_list,PySem.F.slot_list_insert,PySem.F.type_list_insert⟩,kg (aJ.of h3)⟩
  ·have e0:=aa e2;clear e2;obtain⟨ds,_,e4,e5⟩:=e0
   have cy:=bw e4;clear e4;obtain⟨g,rfl⟩:=cy;obtain⟨p,ws,rfl,hi,h3,h4⟩:=aH S1 r1 g;exact⟨(af e5).2,"list",⟨PySem.F.plainAttrs_list,PySem.F.slot_list_extend,PySem.F.type_list_extend⟩,kg (aJ.of h3)⟩
  ·have e0:=aa e2;clear e2;obtain⟨ds,_,e4,e5⟩:=e0
   have cy:=bw e4;clear e4;obtain⟨g,rfl⟩:=cy;obtain⟨p,ws,rfl,hi,h3,h4⟩:=aH S1 r1 g;exact⟨(af e5).2,"list",⟨PySem.F.plainAttrs_list,PySem.F.slot_list_index,PySem.F.type_list_index⟩,kg (aJ.of h3)⟩
  ·cases r1 with
   |tup t q=>exact⟨(af e2).2,"tuple",⟨PySem.F.plainAttrs_tuple,PySem.F.slot_tuple_index,PySem.F.type_tuple_index⟩,JQ (bT t)⟩
  ·cases r1 with
   |str y=>exact⟨(af e2).2,"str",⟨PySem.F.plainAttrs_str,PySem.F.slot_str_join,PySem.F.type_str_join⟩,vm⟩
  ·cases r1 with
   |str y=>exact⟨(af e2).2,"str",⟨PySem.F.plainAttrs_str,PySem.F.slot_str_find,PySem.F.type_str_find⟩,vm⟩
  ·have e0:=aa e2;clear e2;obtain⟨ds,_,e4,e5⟩:=e0
   have cy:=p0 e4;clear e4;obtain⟨g,rfl⟩:=cy;obtain⟨p,ws,rfl,hi,h3,h4⟩:=c8 S1 r1 g;exact⟨(af e5).2,"dict",⟨PySem.F.plainAttrs_dict,PySem.F.slot_dict_get,PySem.F.type_dict_get⟩,fun pins σ s v I r=>jJ I r (.inr (.inr (.inl ⟨rfl,.inl ⟨ws,h3⟩⟩)))⟩
  ·exact(ah e2).elim
 obtain⟨rfl,T,f1,f2⟩:=fact;refine⟨T,F7 m x,f1,f2,?_⟩;refine⟨ι1,ρ,_,xs,M3,S1,R.mono X1,e3,fun vs H2 ι2 r2 S2 X2=>?_⟩;exact⟨ι2,M3,M',x,xs,d,S2,r1.mono X2,r2,rfl,e,fun v' H' ι' r' S' X'=>k v' H' ι' r' S' ((X1.trans X2).trans X')⟩
noncomputable def tyName:Ty->String
 |.int=>"int" |.str=>"str" |.bool=>"bool" |.list=>"list" |.tuple=>"tuple" |.dict=>"dict"
theorem pA{t:Str}{k:Ty}(h:kY t=some k):bootBuiltins t=some (.type (tyName k)):=by
 unfold kY at h;have key:∀(y:String),(t==(Str.ofString y))=true->t=Str.ofString y:=fun y e=>by simpa using e
 split at h
 ·rename_i e;cases h;rw[key _ e];decide +kernel
 split at h
 ·rename_i e;cases h;rw[key _ e];decide +kernel
 split at h
 ·rename_i e;cases h;rw[key _ e];decide +kernel
 split at h
 ·rename_i e;cases h;rw[key _ e];decide +kernel
 split at h
 ·rename_i e;cases h;rw[key _ e];decide +kernel
 split at h
 ·rename_i e;cases h;rw[key _ e];decide +kernel
 ·cases h
noncomputable def NW(K:Q_)(k:Ty):List V->Hp->VK->Prop:=fun xs H Q=>∃ι M M' dx x b,xs=[x,.ty (tyName k)]/\aK K ι M H/\Rep K ι H dx x/\c9 k dx M=some (.ok b,M')/\(M'=M->Q (.bl b) H)
theorem GY(k:Ty):cD X (.builtin "isinstance") (NW X.K k):=by
 intro pins s σ H xs us Q I rv h;obtain⟨ι,M,M',dx,x,b,rfl,S,r,e,q⟩:=h;obtain⟨u,w',rfl,ru,rw'⟩:=vals2 rv;cases rw';have yes:∀{c:Bool},Q (.bl c) H->EP X pins σ Q (.bool c) s:=fun h=>⟨.bl _,H,I,rfl,h⟩;have no:∀{c:Bool},Q (.bl c) H->EP X pins σ Q (.bool c) { s with toks:=s.toks+1 }:=fun h=>⟨.bl _,H,I.tok _,rfl,h⟩;have lst:∀{a:Addr} {vs:List V},aJ X.K H a vs->Q (.bl (k==.list)) H->wpAny (model X.prog X.w) X.A (call (.builtin "isinstance") [.ref a,.type (tyName k)]) (EP X pins σ Q) X.xe s:=fun {a vs} hs q=>by
  obtain⟨its,_,⟨o,n,ho,hc,_⟩,_⟩:=I.list hs;cases k
  ·exact IsiPair.list_int ho hc (no q)
  ·exact IsiPair.list_str ho hc (no q)
  ·exact IsiPair.list_bool ho hc (no q)
  ·exact IsiPair.list_list ho hc (yes q)
  ·exact IsiPair.list_tuple ho hc (no q)
  ·exact IsiPair.list_dict ho hc (no q)
 cases r with
 |non =>
  cases ru;have e0:=af e;clear e;obtain⟨rfl,rfl⟩:=e0;have q:=q rfl;cases k
  ·exact IsiPair.NoneType_int (no q)
  ·exact IsiPair.NoneType_str (no q)
  ·exact IsiPair.NoneType_bool (no q)
  ·exact IsiPair.NoneType_list (no q)
  ·exact IsiPair.NoneType_tuple (no q)
  ·exact IsiPair.NoneType_dict (no q)
 |bl c =>
  cases ru;have e0:=af e;clear e;obtain⟨rfl,rfl⟩:=e0;have q:=q rfl;cases k
  ·exact IsiPair.bool_int (yes q)
  ·exact IsiPair.bool_str (no q)
  ·exact IsiPair.bool_bool (yes q)
  ·exact IsiPair.bool_list (no q)
  ·exact IsiPair.bool_tuple (no q)
  ·exact IsiPair.bool_dict (no q)
 |int c =>
  obtain⟨t,rfl⟩:=ru;have e0:=af e;clear e;obtain⟨rfl,rfl⟩:=e0;have q:=q rfl;cases k
  ·exact IsiPair.int_int (yes q)
  ·exact IsiPair.int_str (no q)
  ·exact IsiPair.int_bool (no q)
  ·exact IsiPair.int_list (no q)
  ·exact IsiPair.int_tuple (no q)
  ·exact IsiPair.int_dict (no q)
 |str c =>
  obtain⟨t,rfl⟩:=ru;have e0:=af e;clear e;obtain⟨rfl,rfl⟩:=e0;have q:=q rfl;cases k
  ·exact IsiPair.str_int (no q)
  ·exact IsiPair.str_str (yes q)
  ·exact IsiPair.str_bool (no q)
  ·exact IsiPair.str_list (no q)
  ·exact IsiPair.str_tuple (no q)
  ·exact IsiPair.str_dict (no q)
 |tup t qq =>
  cases ru;have e0:=af e;clear e;obtain⟨rfl,rfl⟩:=e0;have q:=q rfl;obtain⟨its,_,⟨o,ho,hc,_⟩,_⟩:=I.tuple (bT t);cases k
  ·exact IsiPair.tuple_int ho hc (no q)
  ·exact IsiPair.tuple_str ho hc (no q)
  ·exact IsiPair.tuple_bool ho hc (no q)
  ·exact IsiPair.tuple_list ho hc (no q)
  ·exact IsiPair.tuple_tuple ho hc (yes q)
  ·exact IsiPair.tuple_dict ho hc (no q)
 |fl t qq =>
  cases ru;have e0:=af e;clear e;obtain⟨rfl,rfl⟩:=e0;exact lst t.seq (q rfl)
 |ob t =>
  cases ru;have e0:=aa e;clear e;obtain⟨o,_,e1,e⟩:=e0;have aD:=dY e1;clear e1;obtain⟨g,rfl⟩:=aD;cases o with
  |lst ds =>
   have e0:=af e;clear e;obtain⟨rfl,rfl⟩:=e0;obtain⟨p,ws,e1,hi,h3,h4⟩:=aH S (.ob t) g;cases e1;exact lst (aJ.of h3) (q rfl)
  |ins _ _=>exact(ah e).elim
  |aY kvs =>
   have e0:=af e;clear e;obtain⟨rfl,rfl⟩:=e0;obtain⟨p,ws,e1,hi,h3,h4⟩:=c8 S (.ob t) g;cases e1;have q:=q rfl;obtain⟨z,hd,rs,rel,o,es,ep,ho,⟨hc,_⟩,_⟩:=jb I.av (.inl h3);cases k
   ·exact IsiPair.dict_int ho hc (no q)
   ·exact IsiPair.dict_str ho hc (no q)
   ·exact IsiPair.dict_bool ho hc (no q)
   ·exact IsiPair.dict_list ho hc (no q)
   ·exact IsiPair.dict_tuple ho hc (no q)
   ·exact IsiPair.dict_dict ho hc (yes q)
theorem LE.isI{k:Ty}{fa:DE}(σ:St)(H:Hp)(Q:VK)(h:LE X.K (fun ρ=>do let x<-fa ρ;let b<-c9 k x;pure (.bl b)) σ H Q):u6 (NW X.K k) (cM (LE X.K fa) (cM (tC (.ty (tyName k))) gC)) σ H Q:=by
 obtain⟨ι,ρ,M,d,M',S,R,e,q⟩:=h;have e0:=aa e;clear e;obtain⟨x,M1,e1,e⟩:=e0;have e0:=aa e;clear e;obtain⟨b,M2,e2,e⟩:=e0;have e0:=af e;clear e;obtain⟨rfl,rfl⟩:=e0;refine⟨ι,ρ,M,x,M1,S,R,e1,fun v H1 ι1 r1 S1 X1=>?_⟩;exact⟨ι1,M1,_,x,v,b,rfl,S1,r1,e2,fun z=>by subst z;exact q _ H1 ι1 (.bl b) S1 X1⟩
end
end L3
namespace L3
open PySem PySem.Spec PyProof.Rows L2
section
variable {X:Cx}
end
end L3
namespace L3
open PySem PySem.Spec PyProof.Rows L2
noncomputable def eY(K:Q_)(n:Nat)(g:List D->Mo D):Sp:=fun vs H Q _=>vs.length=n/\∃ι M M' ds d,aK K ι M H/\aC K ι H ds vs/\g ds M=some (.ok d,M') /\
 ∀v H' ι',Rep K ι' H' d v->aK K ι' M' H'->Ext K ι H ι' H'->Q v H'
noncomputable def QC(X:Cx)(g:List D->Mo D)(f:Str):Prop:=∃(k:Nat) (fa:Addr) (fd:FuncData) (ps:List Str),X.mg f=some (.ref fa)/\Z1 X.K (.ref fa)=true/\Binds X.K fd ps [] /\
 cq X.prog X.w X.K X.mg X.base jA k fa fd ps (eY X.K ps.length g)/\bG k X.A/\∀ds M d M',g ds M=some (.ok d,M')->ds.length=ps.length
noncomputable def RN(X:Cx)(C:Addr)(g:List D->Mo D)(m:Str):Prop:=∃(k:Nat) (fa:Addr) (fd:FuncData) (ps:List Str),Meth X.K C m fa/\Binds X.K fd ps [] /\
 cq X.prog X.w X.K X.mg X.base jA k fa fd ps (eY X.K ps.length g)/\bG k X.A/\∀ds M d M',g ds M=some (.ok d,M')->ds.length=ps.length
noncomputable def V4(X:Cx)(C:Addr)(g:List D->Mo D):Prop:=∃(k:Nat) (fa:Addr) (fd:FuncData) (ps:List Str),Mk X.K C fa/\X.mg "House" = some (.ref C)/\Binds X.K fd ps [] /\
 cq X.prog X.w X.K X.mg X.base jA k fa fd ps (eY X.K ps.length g)/\bG (k+1) X.A/\∀ds M d M',g ds M=some (.ok d,M')->ds.length=ps.length
structure aL (Γ:Ctx) (S:Sc) (X:Cx):Prop where
 n:X.N=S.N
 sc:∀x k,S.sc.names.lookup x=some k->∃k',X.env.scope.names.lookup x=some k'/\(k'=k\/(k=.free/\k'=.cell))
 calm:X.calm=true
 hu:X.A.units+100<cLine
 d9:X.xe=fun _ _=>False
 fns:∀f∈S.fns,QC X (Γ.fn f) f
 gls:∀x∈S.gls,∃d u v,Γ.gl x=some d/\X.mg x=some u/\RelV v u/\∀ι H,Rep X.K ι H d v
 bo:∀x∈S.bo,X.mg x=none
 cls:ib X.K Γ.hc
 kl:∀f∈kC,eB X.K Γ.hc f
 lD:∀m∈kB,RN X Γ.hc (Γ.fn (aA m)) m
 HS:V4 X Γ.hc (Γ.fn "House.__init__")
 rfs:QC X (vk Γ) "_law_unknown"
 nd:X.N.Nodup
section
variable {Γ:Ctx}{S:Sc}{X:Cx}
theorem aL.qk(C:aL Γ S X){x:Str}(h:S.qk x=true):uz X.env.scope x:=by
 unfold Sc.qk Sc.kind at h;simp only[xk,beq_iff_eq]at h;rcases h with (h|h)|h
 ·obtain⟨k',h1,rfl|⟨h2,_⟩⟩:=C.sc _ _ h
  ·exact .inl h1
  ·cases h2
 ·obtain⟨k',h1,rfl|⟨h2,_⟩⟩:=C.sc _ _ h
  ·exact .inr (.inl h1)
  ·cases h2
 ·obtain⟨k',h1,rfl|⟨_,rfl⟩⟩:=C.sc _ _ h
  ·exact .inr (.inr h1)
  ·exact .inr (.inl h1)
theorem aL.loc(C:aL Γ S X){x:Str}(h:S.loc x=true):Loc X.env.scope x:=by
 unfold Sc.loc Sc.kind at h;simp only[xk,beq_iff_eq]at h;rcases h with h|h
 ·obtain⟨k',h1,rfl|⟨h2,_⟩⟩:=C.sc _ _ h
  ·exact .inl h1
  ·cases h2
 ·obtain⟨k',h1,rfl|⟨h2,_⟩⟩:=C.sc _ _ h
  ·exact .inr h1
  ·cases h2
theorem aL.bA(C:aL Γ S X){x:Str}(h:S.bA x=true):Gl X x:=by
 unfold Sc.bA Sc.kind at h;simp only[beq_iff_eq]at h;obtain⟨k',h1,rfl|⟨h2,_⟩⟩:=C.sc _ _ h
 ·exact h1
 ·cases h2
theorem slot_get{N:List Str}{x:Str}{i:Nat}(h:slot N x=some i):N[i]?=some x:=by
 unfold slot at h;obtain⟨hi,h1,_⟩:=yb.mp h;rw[zw hi];simpa using h1
theorem bh{x:Str}(h:bM x=true):(x==("__debug__":Str))=false/\(x==("__classdict__":Str))=false/\x≠"__name__":=by
 unfold bM at h;simp only[zx,bne_iff_ne,ne_eq]at h;exact⟨beq_eq_false_iff_ne.mpr h.1.1,beq_eq_false_iff_ne.mpr h.1.2,h.2⟩
theorem aw{e:Expr}{es:List Expr}{env:Env}(h:aU e=true):starEach (e::es) env=(false,eval e env)::starEach es env:=by
 cases e <;> first|rfl|cases h
theorem bD{pos:Pos}{env:Env}:∀{es:List Expr},es.all aU=true->(backTo pos (starEach es env)).any (·.1)=false
 |[],_=>rfl
 |e::es,h=>by
  rw[zK,zx]at h;rw[aw h.1];show (false||(backTo pos (starEach es env)).any (·.1))=false;rw[bD h.2];rfl
noncomputable def QA(y:Str):It:=⟨fun i _=>i<y.cps.size,fun i H x H'=>H'=H/\∃c,y.cps[i]?=some c/\x=.str ⟨#[c]⟩,fun i _=>i=y.cps.size⟩
theorem sh{P:Program}{w:World}{K:Q_}{tg:Expr}{it:Addr}{y:Str}{t:Tok}{ty:String}(hW:∀A':Around,A'.handled=none->Walks P w A' it [it] [it] y.cps.size (SignAt y) (fun i h=>h.IsStrIter it ty y t i))
  (hn:["enumerate","zip","dict_itemiterator","dict_reverseitemiterator","odict_iterator","itertools.zip_longest","itertools.pairwise"].contains ty=false)
  (OS:∀(A:Around) (i:Nat) (s:Shared) (Q:Value->Shared->Prop) (E:Value->Shared->Prop),s.heap.IsStrIter it ty y t i->Q (.ref it) s->wpAny (model P w) A (pyIter (.ref it)) Q E s) :
  Turn P w K tg (QA y) [it] it (fun i h=>h.IsStrIter it ty y t i) where
 mem:=by simp
 obj:=fun i h st b hb=>by
  have e:b=it:=by simpa using hb
  subst e;obtain⟨o,h1,h2,h3⟩:=st;exact⟨o,h1,fun v z=>by rw[h3]at z;cases z⟩
 keep:=fun i h h' st k=>by
  obtain⟨o,h1,h2⟩:=st;exact⟨o,k it (by simp) o h1,h2⟩
 item:=by
  intro X hP hw hK hc i pins s σ H E I hf st hg;subst hP hw hK;obtain⟨f0,f1,f2,f3,f4,f5⟩:=hf it (by simp);refine(hW X.A (I.ok.hd hc)).item i s _ _ hg st fun v h' tk hv st' kk=>?_;obtain⟨c,t',hc',rfl⟩:=hv;have I1:Inv X pins σ H { s with heap:=h',toks:=tk }:=I.turned (fun b o hb e=>kk b o (by simpa using hb) e) f0 f1 f3 f4 f5;obtain⟨o,h1,h2,h3⟩:=id st';exact⟨_,rfl,oJ (s:={ s with heap:=h',toks:=tk }) h1 h2 h3 hn ⟨.str ⟨#[c]⟩,H,I1,⟨t',rfl⟩,⟨rfl,c,hc',rfl⟩,st',fun b hb=>(hf b hb).1⟩⟩
 done:=by
  intro X hP hw hK hc i pins s σ H E I hf st hg;subst hP hw hK;obtain⟨f0,f1,f2,f3,f4,f5⟩:=hf it (by simp);have hg':i=y.cps.size:=hg;subst hg';exact(hW X.A (I.ok.hd hc)).done s _ _ st fun h' tk kk=>⟨rfl,I.turned (fun b o hb e=>kk b o (by simpa using hb) e) f0 f1 f3 f4 f5⟩
 self:=OS
noncomputable def MT(K:Q_)(tl:TE):TI:=fun σ H R=>tl σ H fun x H1=>(∃a xs,x=.ref a/\aJ K H1 a xs/\R (QB K a) H1)\/(∃a xs,x=.ref a/\cz K H1 a xs/\R (Qz K a) H1)\/∃y,x=.str y/\R (QA y) H1
theorem sY{X:Cx}{tg l:Expr}{tl:TE}(hl:PE X l tl):PI X tg l (MT X.K tl):=by
 intro pins s σ H R I h;refine aF (hl pins s σ H _ I h) fun v s1 ⟨x,H1,I1,r1,q1⟩=>?_;rcases q1 with ⟨a,xs,e,hq,q⟩|⟨a,xs,e,hq,q⟩|⟨y,e,q⟩
 ·subst e
  cases r1;obtain⟨its,rv,p,hz⟩:=I1.list hq;refine wpAny_pyIter_list p.isList ?_;refine⟨s1.heap.objs.size,[s1.heap.objs.size],_,_,H1,rfl,I1.kept (t':=s1.toks) fun b o e=>zy _ e,CI a _,⟨_,zk _ rfl,rfl,rfl⟩,fun b hb=>?_,q⟩;have e:b=s1.heap.objs.size:=by simpa using hb
  subst e;exact I1.kE (zr _) (I1.av.fresh (zr _))
 ·subst e
  cases r1;obtain⟨its,rv,p,hz⟩:=I1.tuple hq;refine wpAny_pyIter_tuple (show s1.heap.IsTuple a its.toArray from p) ?_;refine⟨s1.heap.objs.size,[s1.heap.objs.size],_,_,H1,rfl,I1.kept (t':=s1.toks) fun b o e=>zy _ e,An a _,⟨_,zk _ rfl,rfl,rfl⟩,fun b hb=>?_,q⟩;have e:b=s1.heap.objs.size:=by simpa using hb
  subst e;exact I1.kE (zr _) (I1.av.fresh (zr _))
 ·subst e
  obtain⟨t,rfl⟩:=r1;cases ha:y.cps.all (·<128)
  ·refine wpAny_pyIter_wide ha ?_
   refine⟨s1.heap.objs.size,[s1.heap.objs.size],_,_,H1,rfl,I1.kept (t':=s1.toks) fun b o e=>zy _ e,sh (t:=t) (fun A' hA=>Walks.strWide hA _ y t) (by decide) (fun _ _ _ _ _ st hQ=>wpAny_pyIter_striter_wide st hQ),⟨_,zk _ rfl,rfl,rfl⟩,fun b hb=>?_,q⟩;have e:b=s1.heap.objs.size:=by simpa using hb
   subst e;exact I1.kE (zr _) (I1.av.fresh (zr _))
  ·refine wpAny_pyIter_ascii ha ?_
   refine⟨s1.heap.objs.size,[s1.heap.objs.size],_,_,H1,rfl,I1.kept (t':=s1.toks) fun b o e=>zy _ e,sh (t:=t) (fun A' hA=>Walks.strAscii hA _ y t) (by decide) (fun _ _ _ _ _ st hQ=>wpAny_pyIter_striter_ascii st hQ),⟨_,zk _ rfl,rfl,rfl⟩,fun b hb=>?_,q⟩;have e:b=s1.heap.objs.size:=by simpa using hb
   subst e;exact I1.kE (zr _) (I1.av.fresh (zr _))
noncomputable def NY(K:Q_)(ι:List Addr)(H:Hp)(src:Src)(J:It):Prop:=∀(ι2:List Addr) (H2:Hp) (M2:MH),Ext K ι H ι2 H2->aK K ι2 M2 H2->fK src.ck M2 ->
 (∀(i:Nat) (d:D),src.ds[i]?=some d->J.go i H2/\∀x H',J.iZ i H2 x H'->H'=H2/\Rep K ι2 H2 d x)/\J.stop src.ds.length H2
inductive LI (K:Q_) (f:Ev->Mo Src) (σ:St) (H:Hp) (R:It->Hp->Prop):Prop
 |mk (ι:List Addr) (ρ:Ev) (M:MH) (src:Src) (M':MH) (S0:aK K ι M H) (R0:bE K ι H ρ σ) (e:f ρ M=some (.ok src,M')) (k:∀J H' ι',aK K ι' M' H'->Ext K ι H ι' H'->NY K ι' H' src J->R J H')
theorem PI.imp{X:Cx}{tg e:Expr}{t t':TI}(h:PI X tg e t)(k:∀σ H R,t' σ H R->t σ H R):PI X tg e t':=fun pins s σ H R I q=>h pins s σ H R I (k σ H R q)
theorem LI.seq{K:Q_}{f:DE}(σ:St)(H:Hp)(R:It->Hp->Prop)(h:LI K (fun ρ=>do let x<-f ρ;eX x) σ H R):MT K (LE K f) σ H R:=by
 obtain⟨ι,ρ,M,src,M',S,Rr,e,k⟩:=h;have e0:=aa e;clear e;obtain⟨x,M1,e1,e⟩:=e0;refine⟨ι,ρ,M,x,M1,S,Rr,e1,fun v H1 ι1 r1 S1 X1=>?_⟩;cases r1 with
 |tup t q =>
  have e0:=af e;clear e;obtain⟨rfl,rfl⟩:=e0;refine .inr (.inl ⟨_,_,rfl,bT t,k _ H1 ι1 S1 X1 fun ι2 H2 M2 x2 S2 ok=>⟨fun i d hd=>?_,⟨_,bT (x2.tup _ _ t),yH (q.length.symm)⟩⟩⟩);obtain⟨v,hv,rv⟩:=(q.mono x2).get hd;exact⟨⟨_,v,bT (x2.tup _ _ t),hv⟩,fun x' H' y=>⟨y.1,by have:=y.2 _ (bT (x2.tup _ _ t));rw[hv]at this;cases this;exact rv⟩⟩
 |fl t q =>
  have e0:=af e;clear e;obtain⟨rfl,rfl⟩:=e0;refine .inl ⟨_,_,rfl,t.seq,k _ H1 ι1 S1 X1 fun ι2 H2 M2 x2 S2 ok=>⟨fun i d hd=>?_,⟨_,(x2.fz _ _ t).seq,yH (q.length.symm)⟩⟩⟩;obtain⟨v,hv,rv⟩:=(q.mono x2).get hd;exact⟨⟨_,v,(x2.fz _ _ t).seq,hv⟩,fun x' H' y=>⟨y.1,by have:=y.2 _ (x2.fz _ _ t).seq;rw[hv]at this;cases this;exact rv⟩⟩
 |str y =>
  have e0:=aa e;clear e;obtain⟨_,_,e2,e⟩:=e0;have aM:=aG e2;clear e2;obtain⟨hn,rfl⟩:=aM;have e0:=af e;clear e;obtain⟨rfl,rfl⟩:=e0;refine .inr (.inr ⟨y,rfl,k _ H1 ι1 S1 X1 fun ι2 H2 M2 x2 S2 ok=>⟨fun i d hd=>?_,?_⟩⟩)
  ·rw[ze]at hd
   cases hc:y.cps.toList[i]? with
   |none=>rw[hc]at hd;cases hd
   |some c =>
    rw[hc]at hd;cases hd;have hc':y.cps[i]?=some c:=by simpa using hc
    refine⟨?_,fun x' H' yy=>?_⟩
    ·exact(yn.mp hc').1
    ·obtain⟨h1,c',h2,rfl⟩:=yy
     rw[hc']at h2;cases h2;exact⟨h1,.str _⟩
  ·show (y.cps.toList.map sgn).length=y.cps.size
   simp
 |ob t =>
  have e0:=aa e;clear e;obtain⟨ds,_,e2,e⟩:=e0;have aM:=bw e2;clear e2;obtain⟨g,rfl⟩:=aM;have e0:=af e;clear e;obtain⟨rfl,rfl⟩:=e0;obtain⟨a,vs,h1,h2,h3,h4⟩:=aH S1 (.ob t) g;cases h1;refine .inl ⟨_,vs,rfl,aJ.of h3,k _ H1 ι1 S1 X1 fun ι2 H2 M2 x2 S2 ok=>?_⟩;have ok':M2[_]?=some (MO.lst ds):=ok;obtain⟨a2,Hj,g1,g2,g3,g4⟩:=aH S2 (.ob (x2.pre _ _ h2)) ok';cases g1;refine⟨fun i d hd=>?_,⟨Hj,aJ.of g3,yH (g4.length.symm)⟩⟩;obtain⟨v,hv,rv⟩:=g4.get hd;exact⟨⟨_,v,aJ.of g3,hv⟩,fun x' H' y=>⟨y.1,by have:=y.2 _ (aJ.of g3);rw[hv]at this;cases this;exact rv⟩⟩
 |_=>exact(ah e).elim
theorem DP{K:Q_}{ι:List Addr}{H:Hp}{lo hi:Int}:NY K ι H ⟨none,ff lo hi⟩ (qT lo (hi-lo).toNat):=fun ι2 H2 M2 x2 S2 _=>by
 refine⟨fun i d hd=>?_,?_⟩
 ·unfold ff at hd
  rw[ze]at hd;cases hc:(List.range (hi-lo).toNat)[i]? with
  |none=>rw[hc]at hd;cases hd
  |some c =>
   rw[hc]at hd;cases hd;obtain⟨h1,h2⟩:=zv.mp hc;rw[yL]at h1;rw[wm]at h2;subst h2;refine⟨h1,fun x' H' y=>?_⟩;obtain⟨y1,rfl⟩:=y;exact⟨y1,.int _⟩
 ·show (hi-lo).toNat<=(ff lo hi).length
  unfold ff;rw[zu,yL];exact zr _
theorem LI.rng1{K:Q_}{f:DE}(σ:St)(H:Hp)(R:It->Hp->Prop)(h:LI K (fun ρ=>do
  let x<-f ρ
  (match x with
  |.int i=>do need (small i);pure ⟨none,ff 0 i⟩
  |_=>Mo.stop)) σ H R):Ig (cM (LE K f) gC) σ H R:=by
 obtain⟨ι,ρ,M,src,M',S,Rr,e,k⟩:=h;have e0:=aa e;clear e;obtain⟨x,M1,e1,e⟩:=e0;refine⟨ι,ρ,M,x,M1,S,Rr,e1,fun v H1 ι1 r1 S1 X1=>?_⟩;cases r1 with
 |int i =>
  have e0:=aa e;clear e;obtain⟨_,_,e2,e⟩:=e0;have aM:=aG e2;clear e2;obtain⟨hn,rfl⟩:=aM;have e0:=af e;clear e;obtain⟨rfl,rfl⟩:=e0;refine⟨i,rfl,hn.1,hn.2,k _ H1 ι1 S1 X1 ?_⟩
  have:=@DP K ι1 H1 0 i
  rw[Int.sub_zero]at this;exact this
 |_=>exact(ah e).elim
theorem LI.sG{K:Q_}{f g:DE}(σ:St)(H:Hp)(R:It->Hp->Prop)(h:LI K (fun ρ=>do
  let x<-f ρ
  let y<-g ρ
  (match x,y with
  |.int i,.int j=>do need (small i/\small j);pure ⟨none,ff i j⟩
  |_,_=>Mo.stop)) σ H R):Ie (cM (LE K f) (cM (LE K g) gC)) σ H R:=by
 obtain⟨ι,ρ,M,src,M',S,Rr,e,k⟩:=h;have e0:=aa e;clear e;obtain⟨x,M1,e1,e⟩:=e0;have e0:=aa e;clear e;obtain⟨y,M2,e2,e⟩:=e0;refine⟨ι,ρ,M,x,M1,S,Rr,e1,fun v H1 ι1 r1 S1 X1=>?_⟩;refine⟨ι1,ρ,M1,y,M2,S1,Rr.mono X1,e2,fun u H2 ι2 r2 S2 X2=>?_⟩;cases r1 with
 |int i =>
  cases r2 with
  |int j =>
   have e0:=aa e;clear e;obtain⟨_,_,e2,e⟩:=e0;have aM:=aG e2;clear e2;obtain⟨hn,rfl⟩:=aM;have e0:=af e;clear e;obtain⟨rfl,rfl⟩:=e0;exact⟨i,j,rfl,⟨hn.1.1,hn.1.2,hn.2.1,hn.2.2⟩,k _ H2 ι2 S2 (X1.trans X2) DP⟩
  |_=>exact(ah e).elim
 |_=>exact(ah e).elim
theorem cm{ck:Option (Nat×List D)}{M M':MH}{u:Unit}(h:bH ck M=some (.ok u,M')):fK ck M/\M'=M:=by
 unfold bH at h;split at h
 ·rename_i hp;cases h;exact⟨hp,rfl⟩
 ·cases h
theorem LS.loop{K:Q_}{i:Nat}{fs:Ev->Mo Src}{fb:Ev->Mo Fl}(D:Ends)(σ:St)(H:Hp)(h:LS K (fun ρ=>do let s<-fs ρ;dI s.ck i fb s.ds ρ) D σ H):Av (LI K fs) (cN i) (LS K fb) D σ H:=by
 obtain⟨ι,ρ,M,fl,M',S,R,e,k⟩:=h;have e0:=aa e;clear e;obtain⟨src,M1,e1,e⟩:=e0;refine⟨ι,ρ,M,src,M1,S,R,e1,fun J H1 ι1 S1 X1 hJ=>?_⟩;refine⟨fun j m σ' H'=>m=src.ds.length-j/\j<=src.ds.length/\∃ι' ρ' M2,aK K ι' M2 H'/\bE K ι' H' ρ' σ'/\Ext K ι1 H1 ι' H'/\dI src.ck i fb (src.ds.drop j) ρ' M2=some (.ok fl,M'),
  ⟨_,rfl,yq _,ι1,ρ,M1,S1,R.mono X1,Ext.refl,e⟩,?_⟩
 rintro j m σ' H' ⟨rfl,hj,ι',ρ',M2,S2,R2,X2,e2⟩;by_cases bU:j<src.ds.length
 ·right
  rw[yk bU]at e2;have aM:=aa e2;clear e2;obtain⟨_,_,e3,e2⟩:=aM;have aZ:=cm e3;clear e3;obtain⟨ok,rfl⟩:=aZ;have aM:=aa e2;clear e2;obtain⟨f,M3,e3,e2⟩:=aM;obtain⟨go,iZ⟩:=(hJ ι' H' _ X2 S2 ok).1 j _ (zw bU);refine⟨go,fun σ3 H3=>∃ι3 ρ3 M4,aK K ι3 M4 H3/\bE K ι3 H3 ρ3 σ3/\Ext K ι1 H1 ι3 H3/\dI src.ck i fb (src.ds.drop (j+1)) ρ3 M4=some (.ok fl,M'),
   fun σ3 H3 ⟨ι3,ρ3,M4,h1,h2,h3,h4⟩=>⟨src.ds.length-(j+1),by omega,rfl,bU,ι3,ρ3,M4,h1,h2,h3,h4⟩,fun x H'' y=>?_⟩
  obtain⟨rfl,rx⟩:=iZ x H'' y;refine⟨ι',_,_,f,M3,S2,R2.set rx i,e3,fun H3 ι3 S3 X3=>?_⟩;cases f with
  |nx ρ3=>exact fun σ3 R3=>⟨ι3,ρ3,M3,S3,R3,X2.trans X3,e2⟩
  |ct ρ3=>exact fun σ3 R3=>⟨ι3,ρ3,M3,S3,R3,X2.trans X3,e2⟩
  |bk ρ3 =>
   have aM:=af e2;clear e2;obtain⟨rfl,rfl⟩:=aM;exact fun σ3 R3=>k H3 ι3 S3 ((X1.trans X2).trans X3) σ3 R3
  |rt v =>
   have aM:=af e2;clear e2;obtain⟨rfl,rfl⟩:=aM;exact fun v' r'=>k H3 ι3 S3 ((X1.trans X2).trans X3) v' r'
 ·left
  have ej:j=src.ds.length:=by first|lia|omega
  subst ej;rw[yF]at e2;have aM:=aa e2;clear e2;obtain⟨_,_,e3,e2⟩:=aM;have aZ:=cm e3;clear e3;obtain⟨ok,rfl⟩:=aZ;have aM:=af e2;clear e2;obtain⟨rfl,rfl⟩:=aM;exact⟨(hJ ι' H' _ X2 S2 ok).2,k H' ι' S2 (X1.trans X2) σ' R2⟩
theorem LE.comp{K:Q_}{j:Nat}{fs:Ev->Mo Src}{fc:Ev->Mo Bool}{fe:DE}(σ:St)(H:Hp)(Q:VK)(h:LE K (fun ρ=>do
  let s<-fs ρ
  need (s.ds.length<=zp)
  let ys<-dJ s.ck fc fe (ρ.set j none) s.ds
  bu (.lst ys)) σ H Q):rA (LI K fs) (cN 0) 1 (LT K fc) (LE K fe) σ H Q:=by
 obtain⟨ι,ρ,M,d,M',S,R,e,k⟩:=h;have e0:=aa e;clear e;obtain⟨src,M1,e1,e⟩:=e0;have e0:=aa e;clear e;obtain⟨_,_,e2,e⟩:=e0;have aM:=aG e2;clear e2;obtain⟨hn,rfl⟩:=aM;have e0:=aa e;clear e;obtain⟨all,M2,e2,e⟩:=e0;refine⟨ι,ρ,M,src,_,S,R,e1,fun J H1 ι1 S1 X1 hJ=>?_⟩;refine⟨fun i m ys H'=>m=src.ds.length-i/\i<=src.ds.length/\ys.length<=i/\∃ι' ds rest M3,aK K ι' M3 H'/\Ext K ι1 H1 ι' H'/\aC K ι' H' ds ys/\dJ src.ck fc fe (ρ.set j none) (src.ds.drop i) M3=some (.ok rest,M2)/\all=ds++rest,
  ⟨_,rfl,yq _,zr _,ι1,[],all,_,S1,Ext.refl,.nil,e2,rfl⟩,?_⟩
 rintro i m ys H' ⟨rfl,hi,hy,ι',ds,rest,M3,S3,X3,r3,e3,ea⟩;by_cases bU:i<src.ds.length
 ·right
  rw[yk bU]at e3;have aZ:=aa e3;clear e3;obtain⟨_,_,e4,e3⟩:=aZ;have cy:=cm e4;clear e4;obtain⟨ok,rfl⟩:=cy;have aZ:=aa e3;clear e3;obtain⟨b,M4,e4,e3⟩:=aZ;obtain⟨go,iZ⟩:=(hJ ι' H' _ X3 S3 ok).1 i _ (zw bU);refine⟨go,by omega,fun v H'' os ho y=>?_⟩;obtain⟨rfl,rx⟩:=iZ v H'' y;obtain⟨o1,rfl⟩:=List.length_eq_one_iff.mp ho;refine⟨[some v],rfl,rfl,?_⟩;have RR:bE K ι' H'' (some src.ds[i]::ρ.set j none) (some v::σ):=((R.mono X1).mono X3).comp rx j;refine⟨ι',_,_,b,M4,S3,RR,e4,fun H4 ι4 S4 X4=>?_⟩;cases b with
  |true =>
   rw[if_pos rfl]at e3 ⊢;have aZ:=aa e3;clear e3;obtain⟨y',M5,e5,e3⟩:=aZ;have aZ:=aa e3;clear e3;obtain⟨ys',M6,e6,e3⟩:=aZ;have aZ:=af e3;clear e3;obtain⟨rfl,rfl⟩:=aZ;refine⟨ι4,_,_,y',M5,S4,RR.mono X4,e5,fun v5 H5 ι5 r5 S5 X5=>?_⟩;exact⟨src.ds.length-(i+1),by omega,rfl,bU,by rw[zf];exact wC hy,ι5,ds++[y'],ys',M5,S5,(X3.trans X4).trans X5,((r3.mono X4).mono X5).append (.cons r5 .nil),e6,by rw[ea,wc];rfl⟩
  |false =>
   rw[if_neg zt]at e3 ⊢;exact⟨src.ds.length-(i+1),by omega,rfl,bU,Nat.le_succ_of_le hy,ι4,ds,rest,M4,S4,X3.trans X4,r3.mono X4,e3,ea⟩
 ·left
  have ei:i=src.ds.length:=by first|lia|omega
  subst ei;rw[yF]at e3;have aZ:=aa e3;clear e3;obtain⟨_,_,e4,e3⟩:=aZ;have cy:=cm e4;clear e4;obtain⟨ok,rfl⟩:=cy;have aZ:=af e3;clear e3;obtain⟨rfl,rfl⟩:=aZ;rw[zJ]at ea;subst ea;refine⟨(hJ ι' H' _ X3 S3 ok).2,by omega,fj S3 r3 e fun v H5 ι5 r5 S5 X5=>k v H5 ι5 r5 S5 ((X1.trans X3).trans X5)⟩
end
end L3
namespace L3
open PySem PySem.Spec PyProof.Rows L2
section
variable {X:Cx}{pins:List (Addr×Obj)}{σ:St}{H:Hp}{s:Shared}{h':Heap}
structure rL (X:Cx) (pins:List (Addr×Obj)) (a:Addr):Prop where
 lo:X.s₀.heap.objs.size<=a
 fr:a≠X.env.locals
 cl:∀y c,X.env.cells.lookup y=some c->c≠a
 pn:∀p∈X.pn++pins,p.1≠a
theorem mS(I:Inv X pins σ H s){a:Addr}(h:s.heap.objs.size<=a):rL X pins a:=by
 refine⟨zO I.sz h,zI (zj I.lt h),fun y c e z=>?_,fun p hp z=>?_⟩
 ·obtain⟨v,o,ho,_⟩:=I.cell y c e
  exact absurd (zj (zn ho) (by rw[z];exact h)) (yx _)
 ·exact absurd (zj (zn (I.pin p hp).1) (by rw[z];exact h)) (yx _)
theorem lG(I:Inv X pins σ H s){a:Addr}{o:HO}(hn:H a=none)(y:rL X pins a)(new:bJ X.prog X.w (upd H a o) s.heap a o):Inv X pins σ (upd H a o) s where
 ok:=I.ok
 os:=I.os
 bare:=I.bare
 base:=Un.adopt I.base (yi y.lo) hn
 loc:=I.loc
 cell:=I.cell
 free:=by rw[aB (Ne.symm y.fr)];exact I.free
 cW:=fun x c e=>by rw[aB (y.cl x c e)];exact I.cW x c e
 pin:=fun p hp=>by
  obtain⟨h1,h2,h3⟩:=I.pin p hp;exact⟨h1,by rw[aB (y.pn p hp)];exact h2,h3⟩
 av:=bX.adopt I.av hn new
 len:=I.len
theorem JB{t':Nat}{a b:Addr}(I:Inv X pins σ H s)(k:∀c o,c≠a->c≠b->s.heap.get? c=some o->h'.get? c=some o)(fa:eD X pins H a)(fb:eD X pins H b):Inv X pins σ H { s with heap:=h',toks:=t' }:=by
 obtain⟨a0,a1,_,a3,a4,a5⟩:=fa;obtain⟨b0,b1,_,b3,b4,b5⟩:=fb;have na:∀c u,H c=some u->c≠a:=fun c u e z=>by rw[z,a0]at e;cases e
 have nb:∀c u,H c=some u->c≠b:=fun c u e z=>by rw[z,b0]at e;cases e
 have k':∀c o,c ∉ [a,b]->s.heap.get? c=some o->h'.get? c=some o:=fun c o hc e=>k c o (fun z=>hc (by simp[z])) (fun z=>hc (by simp[z])) e;refine I.step (g':=s.gens) (d':=s.drawn) (ch:=[a,b]) (fun c hc=>?_) (fun c o _ _ hc e _=>k' c o hc e) (fun c o _ _ hc e _=>⟨o.slots,k' c o hc e⟩) (fun _ _ _ _ n=>n)
  (fun c o hc e=>⟨o,k' c o hc e⟩) (fun _ _ e=>e) (fun _ _ _ e=>e) (fun c ps e=>⟨#[],by rw[e];simp⟩) (fun m hm=>?_) (fun c u e=>?_) I.bare
 ·rcases zg.mp hc with rfl|hc
  ·exact⟨a3,a1,a4,a5⟩
  ·rw[zG.mp hc]
   exact⟨b3,b1,b4,b5⟩
 ·obtain⟨o,es,ep,ho,r⟩:=hm
  exact⟨o,es,ep,k _ o (Ne.symm a1) (Ne.symm b1) ho,r⟩
 ·refine(I.av c u e).iH (fun d v hd q=>?_) (fun _ q=>q) fun _ _ q=>q
  rcases hd with z|z
  ·exact k d v (by rw[z];exact na c u e) (by rw[z];exact nb c u e) q
  ·exact k d v (na d _ z) (nb d _ z) q
end
noncomputable def NX(K:Q_)(a:Addr):It :=
 ⟨fun i H=>∃xs x,aJ K H a xs/\xs[i]?=some x,fun i H x H'=>∃p v,x=.ref p/\H p=none/\H'=upd H p (.tup [.int i,v])/\∀xs,aJ K H a xs->xs[i]?=some v,fun i H=>∃xs,aJ K H a xs/\xs.length<=i⟩
theorem CK{P:Program}{w:World}{K:Q_}{es:List Expr}{x1:Nat}{pos:Pos}(a e it:Addr)(ne:e≠it):Turn P w K (.Tuple es x1 pos) (NX K a) [e,it] e (fun i h=>(∃old,IsEnum h e it i old)/\h.IsListIter it a i) where
 mem:=by simp
 obj:=fun i h st b hb=>by
  obtain⟨⟨old,he⟩,o,h1,c,d⟩:=st;rcases zg.mp hb with rfl|hb
  ·exact⟨_,he,fun v z=>by cases z⟩
  ·rw[zG.mp hb]
   exact⟨o,h1,fun v z=>by rw[d]at z;cases z⟩
 keep:=fun i h h' st k=>by
  obtain⟨⟨old,he⟩,hi⟩:=st;exact⟨⟨old,k e (by simp) _ he⟩,hi.at fun o q=>k it (by simp) o q⟩
 item:=by
  intro X hP hw hK hc i pins s σ H E I hf st hg;subst hP hw hK;obtain⟨⟨old,he⟩,hi⟩:=st;obtain⟨xs,x,hq,hx⟩:=hg;obtain⟨its,rv,p,hz⟩:=I.list hq;obtain⟨u,hu,ru⟩:=rv.get hx;have fe:=hf e (by simp);have fi:=hf it (by simp);refine wpAny_pyNext_enum_item he hi p.isList (x:=u) (by simpa using hu) ne fun h1 ho Vi ht kM hk=>?_;refine⟨_,rfl,wpAny_letOwnedTupleGo_enum (s:={ s with heap:=h1,toks:=s.toks+1 }) ho fun h2 IF sb=>?_⟩;have sb:Heap.SameBut e h1 h2:=sb;have Pw:e<s.heap.objs.size:=zn he;have keep:∀c o,c≠e->c≠it->s.heap.get? c=some o->h2.get? c=some o:=fun c o n1 n2 q=>(sb.2 c n1).trans (hk c o n1 n2 q);have I1:Inv X pins σ H { s with heap:=h2,toks:=s.toks+1 }:=JB I keep fe fi;have fr:H s.heap.objs.size=none:=I.av.fresh (zr _);have DX:h2.get? s.heap.objs.size=some { cls:=.type "tuple",data:=.seq #[.int i s.toks,u] }:=(sb.2 _ (zI Pw)).trans ht;have y:rL X pins s.heap.objs.size:=mS I (zr _);have I2:Inv X pins σ (upd H s.heap.objs.size (.tup [.int i,x])) { s with heap:=h2,toks:=s.toks+1 } :=
   lG I1 fr y ⟨by show 2<=zp;decide,[.int i s.toks,u],.cons ⟨_,rfl⟩ (.cons ru .nil),⟨⟨_,DX,rfl,0,rfl⟩,fun o q=>by rw[DX]at q;cases q;exact⟨rfl,rfl⟩⟩⟩
  refine⟨.ref s.heap.objs.size,_,I2,rfl,⟨_,x,rfl,fr,rfl,fun ys hy=>by rw[I.nu hy hq];exact hx⟩,⟨⟨u,?_⟩,?_⟩,fun b hb=>?_⟩
  ·have:((i+1:Nat):Int)=(i:Int)+1:=by first|lia|omega
   rw[this];exact IF
  ·exact Vi.extBut sb.extBut (Ne.symm ne)
  ·have IJ:H b=none:=(hf b hb).1
   rcases zg.mp hb with rfl|hb
   ·rw[aB (zA Pw)];exact IJ
   ·have eb:=zG.mp hb
    subst eb;obtain⟨o,h3,_⟩:=hi;rw[aB (zA (zn h3))];exact IJ
 done:=by
  intro X hP hw hK hc i pins s σ H E I hf st hg;subst hP hw hK;obtain⟨⟨old,he⟩,hi⟩:=st;obtain⟨xs,hq,hx⟩:=hg;obtain⟨its,rv,p,hz⟩:=I.list hq;obtain⟨f0,f1,f2,f3,f4,f5⟩:=hf it (by simp);have hl:=rv.length;exact wpAny_pyNext_enum_end (I.ok.hd hc) he hi p.isList (by simp;omega) fun h' eb=>⟨rfl,I.turned (t':=s.toks) (fun b o hb e=>eb b o hb e) f0 f1 f3 f4 f5⟩
 self:=fun _ _ _ _ _ st h=>by
  obtain⟨⟨old,he⟩,hi⟩:=st;exact wpAny_pyIter_enum he h
section
variable {prog:Program}{w:World}{A:Around}{E:Value->Shared->Prop}{s:Shared}
theorem my{it t:Addr}{i:Nat}{items:Array Value}{x:Value}{Q:Value->Shared->Prop}(hit:IsTupIter s.heap it t i)(ht:IsTup s.heap t items)(hx:items[i]?=some x)
  (hQ:∀h',IsTupIter h' it t (i+1)->Heap.SameBut it s.heap h'->Q x { s with heap:=h' }):wpAny (model prog w) A (Builtin.SmallTypes.nextOf (.ref it)) Q E s:=by
 obtain⟨o,ho,hc,hd⟩:=id hit;obtain⟨ol,tW,_,nl,Ed⟩:=ht;unfold Builtin.SmallTypes.nextOf;refine zz (wpAny_callSpecial?_slot (name:=Str.ofString "__next__") hit.typeIs slot_tupleiter_next (wpAny_call_entry slot_tupleiter_next hit.typeIs entry_tupleiter_next ?_ (args_tupleiter_next _)));show wpAny _ _ (field (.ref it) 0 >>= _) _ _ s;refine zz (wpAny_field ho hd (x:=.ref t) rfl ?_);show wpAny _ _ (if (Value.ref t==Value.none)=true then _ else _) _ _ s;rw[if_neg (show ¬ ((Value.ref t==Value.none)=true) from zt)];show wpAny _ _ (field (.ref it) 1 >>= _) _ _ s;refine zz (wpAny_field ho hd (x:=.int i 0) rfl ?_);show wpAny _ _ (seqItems? (.ref t) >>= _) _ _ s;refine zz (wpAny_seqItems tW Ed ?_);simp only[wb,hx];refine zz (wpAny_setField ho hd (by simp) (zq ⟨x,rfl,zq (hQ _ ?_ (Heap.SameBut.update ..))⟩));exact⟨_,yv _ ho (Obj.isFreed_of_fields (Obj.data_mapFields hd _)),(Obj.cls_mapFields ..).trans hc,by rw[Obj.data_mapFields hd];simp[rawInt]⟩
theorem nh{it t:Addr}{i:Nat}{items:Array Value}{Q:Value->Shared->Prop}(hh:A.handled=none)(hit:IsTupIter s.heap it t i)(ht:IsTup s.heap t items)(hx:items[i]?=none)
  (hE:∀h' e,Heap.ExtBut it s.heap h'->(∃o,h'.get? e=some o/\o.cls=.type "StopIteration")->E (.ref e) { s with heap:=h' }):wpAny (model prog w) A (Builtin.SmallTypes.nextOf (.ref it)) Q E s:=by
 obtain⟨o,ho,hc,hd⟩:=id hit;obtain⟨ol,tW,_,nl,Ed⟩:=ht;unfold Builtin.SmallTypes.nextOf;refine zz (wpAny_callSpecial?_slot (name:=Str.ofString "__next__") hit.typeIs slot_tupleiter_next (wpAny_call_entry slot_tupleiter_next hit.typeIs entry_tupleiter_next ?_ (args_tupleiter_next _)));show wpAny _ _ (field (.ref it) 0 >>= _) _ _ s;refine zz (wpAny_field ho hd (x:=.ref t) rfl ?_);show wpAny _ _ (if (Value.ref t==Value.none)=true then _ else _) _ _ s;rw[if_neg (show ¬ ((Value.ref t==Value.none)=true) from zt)];show wpAny _ _ (field (.ref it) 1 >>= _) _ _ s;refine zz (wpAny_field ho hd (x:=.int i 0) rfl ?_);show wpAny _ _ (seqItems? (.ref t) >>= _) _ _ s;refine zz (wpAny_seqItems tW Ed ?_);simp only[wb,hx];refine zz (wpAny_rule (zz (wpAny_setField ho hd (by simp) ?_)));show wpAny _ _ (newExc (.type "StopIteration") [] >>= _) _ _ _;refine zz ?_;simp only[newExc,newTuple];refine zz (wpAny_newObj_type ?_ (by size_fits));refine zz (m:=firstArgMember _ _) (wpAny_of_eq (a:=Value.none) (by first|rfl|(simp only[firstArgMember];rfl)) ?_)
 refine wpAny_newObj_type ?_ (by size_fits);simp only[raiseNew];refine zz (wpAny_handled ?_);first|rw[show A.in1.handled=none from hh]|rw[hh]
 refine zz (zq (wpAny_throw ?_));exact hE _ _ (((Heap.SameBut.update ..).extBut.push _).push _) ⟨_,zk _ rfl,rfl⟩
theorem EB(hh:A.handled=none)(it t:Addr)(hZ:t≠it)(items:Array Value):Draws prog w A it [it,t] items.size (fun i v=>items[i]?=some v) (fun i h=>IsTupIter h it t i/\IsTup h t items) where
 live:=fun _ _ st=>let ⟨o,ho,_⟩:=st.1;⟨o,ho⟩
 frame:=fun _ _ _ st hk=>⟨let ⟨o,ho,r⟩:=st.1;⟨o,hk it (by simp) _ ho,r⟩,let ⟨o,ho,r⟩:=st.2;⟨o,hk t (by simp) _ ho,r⟩⟩
 item:=fun i s Q E hi st hQ=>by
  refine my st.1 st.2 (x:=items[i]) (by simp[hi]) fun h' hit' hs'=>?_;exact hQ _ h' s.toks (by simp[hi]) ⟨hit',let ⟨o,ho,r⟩:=st.2;⟨o,hs'.extBut t o hZ ho,r⟩⟩ hs'
 done:=fun s Q E st hE=>nh hh st.1 st.2 (by simp) hE
end
noncomputable def Ih(K:Q_)(ta:TA):TI:=fun σ H R=>ta σ H fun vs H1=>∃a,vs=[.ref a]/\(∃xs,aJ K H1 a xs)/\R (NX K a) H1
theorem J2{X:Cx}{es:List Expr}{x1:Nat}{tp:Pos}{a:Expr}{ta:TA}{p pos:Pos}(hg:Gl X "enumerate")(hm:X.mg "enumerate" = none)(ha:PA X [a] ta)(hs:starEach [a] X.env=[(false,eval a X.env)]:=by rfl):PI X (.Tuple es x1 tp) (.Call (.Name "enumerate" p) [a] [] pos) (Ih X.K ta):=by
 intro pins s σ H R I h;refine Call_ (fL I hg hm boot_enumerate (W_ (aF (ha pos pins s σ H _ I h) fun us s1 ⟨vs,H1,I1,r1,q1⟩=>?_) hs rfl));obtain⟨l,e,⟨xs,hq⟩,q⟩:=q1;subst e;cases r1 with
 |cons r rr =>
  cases rr;cases r;obtain⟨its,rv,pl,hz⟩:=I1.list hq;refine call_enumerate_list pl.isList fun h' he hi hsz hk=>?_;have I2:Inv X pins σ H1 { s1 with heap:=h' }:=I1.kept (t':=s1.toks) hk;refine wpAny_pyIter_enum (s:={ s1 with heap:=h' }) he ?_;refine⟨s1.heap.objs.size+1,[s1.heap.objs.size+1,s1.heap.objs.size],_,_,H1,rfl,I2,CK l _ _ (Nat.succ_ne_self _),⟨⟨_,he⟩,hi⟩,fun b hb=>?_,q⟩;rcases zg.mp hb with rfl|hb
  ·exact I1.kE (yh _) (I1.av.fresh (yh _))
  ·rw[zG.mp hb]
   exact I1.kE (zr _) (I1.av.fresh (zr _))
noncomputable def Jk(K:Q_)(ι:List Addr)(H:Hp)(src:Src)(J:It):Prop:=∀(ι2:List Addr) (H2:Hp) (M2:MH),Ext K ι H ι2 H2->aK K ι2 M2 H2->fK src.ck M2 ->
 (∀(i:Nat) (d:D),src.ds[i]?=some d->J.go i H2/\∀x H',J.iZ i H2 x H'->aK K ι2 M2 H'/\Ext K ι2 H2 ι2 H'/\Rep K ι2 H' d x)/\J.stop src.ds.length H2
noncomputable def mO(K:Q_)(f:Ev->Mo Src):TI:=fun σ H R=>∃ι ρ M src M',aK K ι M H/\bE K ι H ρ σ/\f ρ M=some (.ok src,M') /\
 ∀J H' ι',aK K ι' M' H'->Ext K ι H ι' H'->Jk K ι' H' src J->R J H'
theorem mO.to{K:Q_}{f:Ev->Mo Src}(σ:St)(H:Hp)(R:It->Hp->Prop)(h:mO K f σ H R):LI K f σ H R:=by
 obtain⟨ι,ρ,M,src,M',S,Rr,e,k⟩:=h;refine⟨ι,ρ,M,src,M',S,Rr,e,fun J H' ι' S' X' ok=>k J H' ι' S' X' fun ι2 H2 M2 x2 S2 hk=>?_⟩;obtain⟨h1,h2⟩:=ok ι2 H2 M2 x2 S2 hk;refine⟨fun i d hd=>?_,h2⟩;obtain⟨go,y⟩:=h1 i d hd;refine⟨go,fun x H'' hy=>?_⟩;obtain⟨rfl,r⟩:=y x H'' hy;exact⟨S2,Ext.refl,r⟩
theorem GO{ds:List D}{i:Nat}{d:D}(h:(kF ds)[i]?=some d):∃x,ds[i]?=some x/\d=.tup [.int i,x]:=by
 unfold kF at h;rw[List.getElem?_mapIdx]at h;obtain⟨x,h1,h2⟩:=zo.mp h;exact⟨x,h1,h2.symm⟩
theorem GN{ds:List D}:(kF ds).length=ds.length:=List.length_mapIdx
theorem mO.enum{K:Q_}{f:DE}(σ:St)(H:Hp)(R:It->Hp->Prop)(h:mO K (fun ρ=>do let x<-f ρ;rF x) σ H R):Ih K (cM (LE K f) gC) σ H R:=by
 obtain⟨ι,ρ,M,src,M',S,Rr,e,k⟩:=h;have e0:=aa e;clear e;obtain⟨x,M1,e1,e⟩:=e0;refine⟨ι,ρ,M,x,M1,S,Rr,e1,fun v H1 ι1 r1 S1 X1=>?_⟩;have key:∀{a:Addr} {xs:List V} {ds:List D} {ck:Option (Nat×List D)},aJ K H1 a xs->(∀ι2 H2 M2,Ext K ι1 H1 ι2 H2->aK K ι2 M2 H2->fK ck M2->∃ys,aJ K H2 a ys/\aC K ι2 H2 ds ys)->Jk K ι1 H1 ⟨ck,kF ds⟩ (NX K a):=by
  intro a xs ds ck hq hr ι2 H2 M2 x2 S2 ok;obtain⟨ys,hy,r⟩:=hr ι2 H2 M2 x2 S2 ok;refine⟨fun i d hd=>?_,⟨ys,hy,by rw[GN,r.length];exact zr _⟩⟩;obtain⟨x,hx,rfl⟩:=GO hd;obtain⟨v,hv,rv⟩:=r.get hx;refine⟨⟨ys,v,hy,hv⟩,fun x' H' y=>?_⟩;obtain⟨p,v',rfl,hp,rfl,hz⟩:=y
  have:=hz ys hy
  rw[hv]at this;cases this;have X3:Ext K ι2 H2 ι2 (upd H2 p (.tup [.int i,v])):=Ext.dn hp;exact⟨S2.dn hp,X3,.tup aT (.cons (.int _) (.cons (rv.mono X3) .nil))⟩
 cases r1 with
 |fl t q =>
  have e0:=af e;clear e;obtain⟨rfl,rfl⟩:=e0;exact⟨_,rfl,⟨_,t.seq⟩,k _ H1 ι1 S1 X1 (key t.seq fun ι2 H2 M2 x2 S2 _=>⟨_,(x2.fz _ _ t).seq,q.mono x2⟩)⟩
 |ob t =>
  have e0:=aa e;clear e;obtain⟨ds,M2,e2,e⟩:=e0;obtain⟨g,rfl⟩:=bw e2;have e0:=af e;clear e;obtain⟨rfl,rfl⟩:=e0;obtain⟨a,vs,h1,h2,h3,h4⟩:=aH S1 (.ob t) g;cases h1;refine⟨_,rfl,⟨_,aJ.of h3⟩,k _ H1 ι1 S1 X1 (key (aJ.of h3) fun ι2 H2 M2 x2 S2 ok=>?_)⟩;have ok':M2[_]?=some (MO.lst ds):=ok;obtain⟨a2,Hj,g1,g2,g3,g4⟩:=aH S2 (.ob (x2.pre _ _ h2)) ok';cases g1;exact⟨_,aJ.of g3,g4⟩
 |_=>exact(ah e).elim
theorem tf{d:D}{p:D×D}(h:pairD d=some p):d=.tup [p.1,p.2]:=by
 unfold pairD at h;split at h
 ·cases h;rfl
 ·cases h
theorem LS.OO{K:Q_}{i j:Nat}{fs:Ev->Mo Src}{fb:Ev->Mo Fl}(D:Ends)(σ:St)(H:Hp)(h:LS K (fun ρ=>do let s<-fs ρ;eG s.ck i j fb s.ds ρ) D σ H):Av (mO K fs) (p6 K 2 (gN (cN i) (gN (cN j) p7))) (LS K fb) D σ H:=by
 obtain⟨ι,ρ,M,fl,M',S,R,e,k⟩:=h;have e0:=aa e;clear e;obtain⟨src,M1,e1,e⟩:=e0;refine⟨ι,ρ,M,src,M1,S,R,e1,fun J H1 ι1 S1 X1 hJ=>?_⟩;refine⟨fun n m σ' H'=>m=src.ds.length-n/\n<=src.ds.length/\∃ι' ρ' M2,aK K ι' M2 H'/\bE K ι' H' ρ' σ'/\Ext K ι1 H1 ι' H'/\eG src.ck i j fb (src.ds.drop n) ρ' M2=some (.ok fl,M'),
  ⟨_,rfl,yq _,ι1,ρ,M1,S1,R.mono X1,Ext.refl,e⟩,?_⟩
 rintro n m σ' H' ⟨rfl,hj,ι',ρ',M2,S2,R2,X2,e2⟩;by_cases bU:n<src.ds.length
 ·right
  rw[yk bU]at e2;have aM:=aa e2;clear e2;obtain⟨_,_,e3,e2⟩:=aM;have aZ:=cm e3;clear e3;obtain⟨ok,rfl⟩:=aZ;have aM:=aa e2;clear e2;obtain⟨pr,_,e3,e2⟩:=aM;have aZ:=ba e3;clear e3;obtain⟨U3,rfl⟩:=aZ;have aM:=aa e2;clear e2;obtain⟨f,M3,e3,e2⟩:=aM;obtain⟨go,iZ⟩:=(hJ ι' H' _ X2 S2 ok).1 n _ (zw bU);refine⟨go,fun σ3 H3=>∃ι3 ρ3 M4,aK K ι3 M4 H3/\bE K ι3 H3 ρ3 σ3/\Ext K ι1 H1 ι3 H3/\eG src.ck i j fb (src.ds.drop (n+1)) ρ3 M4=some (.ok fl,M'),
   fun σ3 H3 ⟨ι3,ρ3,M4,h1,h2,h3,h4⟩=>⟨src.ds.length-(n+1),by omega,rfl,bU,ι3,ρ3,M4,h1,h2,h3,h4⟩,fun x H'' y=>?_⟩
  obtain⟨S5,X5,rx⟩:=iZ x H'' y;rw[tf U3]at rx;cases rx with
  |tup t q =>
   cases q with
   |cons q1 q2 =>
    cases q2 with
    |cons q2 q3 =>
     cases q3;refine⟨_,_,rfl,bT t,rfl,_,_,rfl,_,_,rfl,rfl,?_⟩;refine⟨ι',_,_,f,M3,S5,((R2.mono X5).set q1 i).set q2 j,e3,fun H3 ι3 S3 X3=>?_⟩;have X6:=X2.trans (X5.trans X3);cases f with
     |nx ρ3=>exact fun σ3 R3=>⟨ι3,ρ3,M3,S3,R3,X6,e2⟩
     |ct ρ3=>exact fun σ3 R3=>⟨ι3,ρ3,M3,S3,R3,X6,e2⟩
     |bk ρ3 =>
      have aM:=af e2;clear e2;obtain⟨rfl,rfl⟩:=aM;exact fun σ3 R3=>k H3 ι3 S3 (X1.trans X6) σ3 R3
     |rt v =>
      have aM:=af e2;clear e2;obtain⟨rfl,rfl⟩:=aM;exact fun v' r'=>k H3 ι3 S3 (X1.trans X6) v' r'
 ·left
  have ej:n=src.ds.length:=by first|lia|omega
  subst ej;rw[yF]at e2;have aM:=aa e2;clear e2;obtain⟨_,_,e3,e2⟩:=aM;have aZ:=cm e3;clear e3;obtain⟨ok,rfl⟩:=aZ;have aM:=af e2;clear e2;obtain⟨rfl,rfl⟩:=aM;exact⟨(hJ ι' H' _ X2 S2 ok).2,k H' ι' S2 (X1.trans X2) σ' R2⟩
end L3
namespace L3
open PySem PySem.Spec PyProof.Rows L2
section
variable {prog:Program}{w:World}{A:Around}{E:Value->Shared->Prop}{s:Shared}
structure y8 (z TI TO i1 i2:Addr) (f1 f2:List Addr):Prop where
 TIz:TI≠z
 TOz:TO≠z
 i1z:i1≠z
 i2z:i2≠z
 TITO:TI≠TO
 TIi1:TI≠i1
 TIi2:TI≠i2
 TOi1:TO≠i1
 TOi2:TO≠i2
 z1:z ∉ f1
 z2:z ∉ f2
 t1:TO ∉ f1
 t2:TO ∉ f2
 UA:i1 ∉ f2
 Uz:i2 ∉ f1
theorem E8{z TI TO i1 i2:Addr}{f1 f2:List Addr}{n1 n2 i:Nat}{P1 P2:Nat->Value->Prop}{S1 S2:Nat->Heap->Prop}{a b:Value}{Q:Value->Shared->Prop}(D:y8 z TI TO i1 i2 f1 f2)
  (D1:Draws prog w A i1 f1 n1 P1 S1) (D2:Draws prog w A i2 f2 n2 P2 S2)
  (hz:IsZip s.heap z TI TO .none) (ia:IsPair s.heap TI (.ref i1) (.ref i2)) (mI:IsPair s.heap TO a b) (nR:S1 i s.heap) (st2:S2 i s.heap) (l1:i<n1) (l2:i<n2)
  (hQ:∀x y h' tk,P1 i x->P2 i y->IsZip h' z TI TO (rawInt s.heap.objs.size)->IsPair h' TO x y->S1 (i+1) h'->S2 (i+1) h'->IsPair h' s.heap.objs.size x y ->
   (∀c o,c≠z->c≠TO->c≠i1->c≠i2->s.heap.get? c=some o->h'.get? c=some o)->Q (.ref s.heap.objs.size) { s with heap:=h',toks:=tk }) :
  wpAny (model prog w) A (Builtin.«zip.__next__» ⟨[.ref z],[]⟩) (fun fin s'=>∃v,fin=.done (.ret v)/\Q v s') E s:=by
 show wpAny _ _ (field (.ref z) 2 >>= _) _ _ _;refine zz (wpAny_field hz rfl (x:=.bool false) rfl ?_);show wpAny _ _ (field (.ref z) 3 >>= _) _ _ _;refine zz (wpAny_field hz rfl (x:=.ref TI) rfl ?_);refine zz (wpAny_seqItems ia rfl ?_);show wpAny _ _ (Builtin.SmallTypes.ownedTupleIsFree (.ref z) >>= _) _ _ _;refine zz ?_;unfold Builtin.SmallTypes.ownedTupleIsFree;refine zz (wpAny_field hz rfl (x:=.none) rfl (zq ?_));simp only[if_true];refine zz (wpAny_rule ?_);refine zz (wpAny_field hz rfl (x:=.ref TO) rfl ?_);refine zz (wpAny_setField_rec hz (by simp) fun h₁ ku i8=>?_);replace ku:IsZip h₁ z TI TO .ellipsis:=ku;refine zz ?_;simp only[wD,wJ,xU,wO];refine zz (zz (wpAny_onRaise ?_));show wpAny _ _ (Builtin.SmallTypes.nextOf (.ref i1) >>= _) _ _ _;have k1:∀b∈f1,∀o,s.heap.get? b=some o->h₁.get? b=some o:=fun b hb o e=>i8.extBut b o (fun q=>D.z1 (q▸hb)) e;refine zz (D1.item i { s with heap:=h₁ } _ _ l1 (D1.frame _ _ _ nR k1) fun x h₂ As p1 Lp hs₂=>zq ?_);replace hs₂:Heap.SameBut i1 h₁ h₂:=hs₂;have Ej:IsPair h₂ TO a b:=hs₂.extBut _ _ D.TOi1 (i8.extBut _ _ D.TOz mI);refine zz (wpAny_seqItems (s:={ s with heap:=h₂,toks:=As }) Ej rfl ?_);refine zz (wpAny_updateSeq_pair (s:={ s with heap:=h₂,toks:=As }) Ej fun h₃ t5 gL=>?_);replace t5:IsPair h₃ TO x b:=t5;replace gL:Heap.SameBut TO h₂ h₃:=gL;refine zz (wpAny_letGo (zq ?_));refine zz (zz (wpAny_onRaise ?_));show wpAny _ _ (Builtin.SmallTypes.nextOf (.ref i2) >>= _) _ _ _;have k2:∀b∈f2,∀o,s.heap.get? b=some o->h₃.get? b=some o:=fun b hb o e =>
  gL.extBut b o (fun q=>D.t2 (q▸hb)) (hs₂.extBut b o (fun q=>D.UA (q▸hb)) (i8.extBut b o (fun q=>D.z2 (q▸hb)) e))
 refine zz (D2.item i { s with heap:=h₃,toks:=As } _ _ l2 (D2.frame _ _ _ st2 k2) fun y h₄ lT p2 Ln ky=>zq ?_);replace ky:Heap.SameBut i2 h₃ h₄:=ky;have Ei:IsPair h₄ TO x b:=ky.extBut _ _ D.TOi2 t5;refine zz (wpAny_seqItems (s:={ s with heap:=h₄,toks:=lT }) Ei rfl ?_);refine zz (wpAny_updateSeq_pair (s:={ s with heap:=h₄,toks:=lT }) Ei fun h₅ oH kx=>?_);replace oH:IsPair h₅ TO x y:=oH;replace kx:Heap.SameBut TO h₄ h₅:=kx;refine zz (wpAny_letGo (zq (zq ?_)));refine zz (wpAny_seqItems (s:={ s with heap:=h₅,toks:=lT }) oH rfl ?_);refine zz (wpAny_newTuple ?_);have hsz:h₅.objs.size=s.heap.objs.size:=by rw[kx.1,ky.1,gL.1,hs₂.1,i8.1]
 have Ii:IsZip h₅ z TI TO .ellipsis:=kx.extBut _ _ D.TOz.symm (ky.extBut _ _ D.i2z.symm (gL.extBut _ _ D.TOz.symm (hs₂.extBut _ _ D.i1z.symm ku)));have hk₅:∀c o,c≠z->c≠TO->c≠i1->c≠i2->s.heap.get? c=some o->h₅.get? c=some o:=fun c o c1 c2 c3 c4 e =>
  kx.extBut _ _ c2 (ky.extBut _ _ c4 (gL.extBut _ _ c2 (hs₂.extBut _ _ c3 (i8.extBut _ _ c1 e))))
 have Lo:S1 (i+1) h₅:=D1.frame _ _ _ Lp fun b hb o e=>kx.extBut b o (fun q=>D.t1 (q▸hb)) (ky.extBut b o (fun q=>D.Uz (q▸hb)) (gL.extBut b o (fun q=>D.t1 (q▸hb)) e));have Lm:S2 (i+1) h₅:=D2.frame _ _ _ Ln fun b hb o e=>kx.extBut b o (fun q=>D.t2 (q▸hb)) e;have MU:z<h₅.objs.size:=zn Ii;show wpAny _ _ (Builtin.SmallTypes.ownedTupleHandOut (.ref z) (.ref h₅.objs.size) >>= _) _ _ _;refine zz ?_;unfold Builtin.SmallTypes.ownedTupleHandOut;have OR:IsZip (h₅.push { cls:=.type "tuple",data:=.seq #[x,y] }) z TI TO .ellipsis:=zy _ Ii;refine zz (wpAny_setField_rec (s:={ s with heap:=h₅.push { cls:=.type "tuple",data:=.seq #[x,y] },toks:=lT }) OR (by simp) fun h₇ BH Ip=>?_);replace BH:IsZip h₇ z TI TO (rawInt h₅.objs.size):=BH;refine wpAny_setField_rec (s:={ s with heap:=h₇,toks:=lT }) BH (by simp) fun h₈ rD Io=>?_;replace rD:IsZip h₈ z TI TO (rawInt h₅.objs.size):=rD;have up:∀c o,c≠z->h₅.get? c=some o->h₈.get? c=some o:=fun c o c1 e=>Io.extBut _ _ c1 (Ip.extBut _ _ c1 (zy _ e));have IL:IsPair h₈ h₅.objs.size x y:=Io.extBut _ _ (zI MU) (Ip.extBut _ _ (zI MU) (zk _ rfl));rw[hsz]at rD IL;refine zq ⟨_,rfl,?_⟩;show Q (.ref h₅.objs.size) _;rw[hsz];exact hQ x y h₈ lT p1 p2 rD (up _ _ D.TOz oH) (D1.frame _ _ _ Lo fun b hb o e=>up b o (fun q=>D.z1 (q▸hb)) e) (D2.frame _ _ _ Lm fun b hb o e=>up b o (fun q=>D.z2 (q▸hb)) e) IL fun c o c1 c2 c3 c4 e=>up c o c1 (hk₅ c o c1 c2 c3 c4 e)
theorem Jn{z TI TO i1 i2:Addr}{f1 f2:List Addr}{n1:Nat}{P1:Nat->Value->Prop}{S1:Nat->Heap->Prop}{Q:Fin->Shared->Prop}(D:y8 z TI TO i1 i2 f1 f2)(D1:Draws prog w A i1 f1 n1 P1 S1)
  (hz:IsZip s.heap z TI TO .none) (ia:IsPair s.heap TI (.ref i1) (.ref i2)) (nR:S1 n1 s.heap)
  (hE:∀h' e,(∀c o,c≠z->c≠i1->s.heap.get? c=some o->h'.get? c=some o)->(∃o,h'.get? e=some o/\o.cls=.type "StopIteration")->E (.ref e) { s with heap:=h' }) :
  wpAny (model prog w) A (Builtin.«zip.__next__» ⟨[.ref z],[]⟩) Q E s:=by
 show wpAny _ _ (field (.ref z) 2 >>= _) _ _ _;refine zz (wpAny_field hz rfl (x:=.bool false) rfl ?_);show wpAny _ _ (field (.ref z) 3 >>= _) _ _ _;refine zz (wpAny_field hz rfl (x:=.ref TI) rfl ?_);refine zz (wpAny_seqItems ia rfl ?_);show wpAny _ _ (Builtin.SmallTypes.ownedTupleIsFree (.ref z) >>= _) _ _ _;refine zz ?_;unfold Builtin.SmallTypes.ownedTupleIsFree;refine zz (wpAny_field hz rfl (x:=.none) rfl (zq ?_));simp only[if_true];refine zz (wpAny_rule ?_);refine zz (wpAny_field hz rfl (x:=.ref TO) rfl ?_);refine zz (wpAny_setField_rec hz (by simp) fun h₁ ku i8=>?_);replace ku:IsZip h₁ z TI TO .ellipsis:=ku;refine zz ?_;simp only[wD,wJ,xU,wO];refine zz (zz (wpAny_onRaise ?_));show wpAny _ _ (Builtin.SmallTypes.nextOf (.ref i1) >>= _) _ _ _;have k1:∀b∈f1,∀o,s.heap.get? b=some o->h₁.get? b=some o:=fun b hb o e=>i8.extBut b o (fun q=>D.z1 (q▸hb)) e;refine zz (D1.done { s with heap:=h₁ } _ _ (D1.frame _ _ _ nR k1) fun h₂ e hs₂ he=>?_);replace hs₂:Heap.ExtBut i1 h₁ h₂:=hs₂;obtain⟨oe,Nd,P0⟩:=he;have Ij:IsZip h₂ z TI TO .ellipsis:=hs₂ _ _ D.i1z.symm ku;have Vk:e≠z:=fun x=>by subst x;rw[Ij]at Nd;cases Nd;simp at P0
 refine wpAny_setField_rec (s:={ s with heap:=h₂ }) Ij (by simp) fun h₃ _ gL=>hE h₃ e (fun c o c1 c3 x=>gL.extBut _ _ c1 (hs₂ _ _ c3 (i8.extBut _ _ c1 x))) ⟨oe,gL.extBut _ _ Vk Nd,P0⟩
theorem n9{z TI TO i1 i2:Addr}{f1 f2:List Addr}{n1 n2 i:Nat}{P1 P2:Nat->Value->Prop}{S1 S2:Nat->Heap->Prop}{a b:Value}{Q:Option Value->Shared->Prop}(D:y8 z TI TO i1 i2 f1 f2)
  (D1:Draws prog w A.in1 i1 f1 n1 P1 S1) (D2:Draws prog w A.in1 i2 f2 n2 P2 S2)
  (hz:IsZip s.heap z TI TO .none) (ia:IsPair s.heap TI (.ref i1) (.ref i2)) (mI:IsPair s.heap TO a b) (nR:S1 i s.heap) (st2:S2 i s.heap) (l1:i<n1) (l2:i<n2)
  (hQ:∀x y h' tk,P1 i x->P2 i y->IsZip h' z TI TO (rawInt s.heap.objs.size)->IsPair h' TO x y->S1 (i+1) h'->S2 (i+1) h'->IsPair h' s.heap.objs.size x y ->
   (∀c o,c≠z->c≠TO->c≠i1->c≠i2->s.heap.get? c=some o->h'.get? c=some o)->Q (some (.ref s.heap.objs.size)) { s with heap:=h',toks:=tk }) :
  wpAny (model prog w) A (pyNext (.ref z)) Q E s:=by
 have hT:s.TypeIs (.ref z) "zip":=⟨_,hz,rfl⟩;unfold pyNext;exact zz (wpAny_attempt (wpAny_callSpecial?_slot (name:=Str.ofString "__next__") hT F.slot_zip_next
  (wpAny_call_entry F.slot_zip_next hT F.entry_zip_next
   (E8 D D1 D2 hz ia mI nR st2 l1 l2 fun x y h' tk a1 a2 a3 a4 a5 a6 a7 a8=>zq (hQ x y h' tk a1 a2 a3 a4 a5 a6 a7 a8)) (F.args_zip_next_1 _))))
theorem pL{z TI TO i1 i2:Addr}{f1 f2:List Addr}{n1:Nat}{P1:Nat->Value->Prop}{S1:Nat->Heap->Prop}{Q:Option Value->Shared->Prop}(D:y8 z TI TO i1 i2 f1 f2)(D1:Draws prog w A.in1 i1 f1 n1 P1 S1)
  (hz:IsZip s.heap z TI TO .none) (ia:IsPair s.heap TI (.ref i1) (.ref i2)) (nR:S1 n1 s.heap)
  (hQ:∀h',(∀c o,c≠z->c≠i1->s.heap.get? c=some o->h'.get? c=some o)->Q none { s with heap:=h' }):wpAny (model prog w) A (pyNext (.ref z)) Q E s:=by
 have hT:s.TypeIs (.ref z) "zip":=⟨_,hz,rfl⟩;unfold pyNext;refine zz (wpAny_attempt (wpAny_callSpecial?_slot (name:=Str.ofString "__next__") hT F.slot_zip_next
  (wpAny_call_entry F.slot_zip_next hT F.entry_zip_next (Jn D D1 hz ia nR fun h' e hk he=>?_) (F.args_zip_next_1 _))))
 obtain⟨o,ho,hc⟩:=he;refine zz (wpAny_isInstance (T:="StopIteration") (b:=true) ⟨o,ho,hc⟩ isSubtype_stop ?_);exact zq (hQ _ hk)
noncomputable def cU(n:String)(h:Heap)(l1 l2:Addr):Heap :=
 ((((h.push { cls:=.type n,data:=.fields #[.ref l1,.int 0 0] }).push { cls:=.type n,data:=.fields #[.ref l2,.int 0 0] }).push { cls:=.type "tuple",data:=.seq #[.ref h.objs.size,.ref (h.objs.size+1)] }).push
  { cls:=.type "tuple",data:=.seq #[.none,.none] }).push { cls:=.type "zip",data:=.fields #[.none,.bool false,.bool false,.ref (h.objs.size+2),.ref (h.objs.size+3)] }
theorem pS(l1 l2:Addr)(xs ys:Array Value) :
  Meets (Builtin.«zip.__new__» ⟨[.type "zip",.ref l1,.ref l2],[]⟩) (fun _ R s=>IsTup s.heap l1 xs/\IsTup s.heap l2 ys /\
   R (.ok (.ret (.ref (s.heap.objs.size+4)))) { s with heap:=cU "tuple_iterator" s.heap l1 l2 }) :=
 .of_wp fun prog w A R s h=>by
  obtain⟨hp,g,d,tk,os⟩:=s;obtain⟨D7,qE,h⟩:=h;have Xn:=sub_zip;have Vy:IsTup (Shared.heap ⟨hp,g,d,tk,os⟩) l1 xs:=D7;have Vx:IsTup (Shared.heap ⟨hp.push { cls:=.type "tuple_iterator",data:=.fields #[.ref l1,.int 0 0] },g,d,tk,os⟩) l2 ys:=let ⟨o,e,r⟩:=qE;⟨o,zy _ e,r⟩;unfold cU at h;simp only[zX]at h;wp_walk using iter_tuple Vy,iter_tuple Vx;simp only[zX];exact⟨_,rfl,h⟩
end
section
variable {prog:Program}{w:World}{A:Around}{E:Value->Shared->Prop}{s:Shared}
theorem zip_parts(n:String)(h:Heap)(l1 l2:Addr):IsZip (cU n h l1 l2) (h.objs.size+4) (h.objs.size+2) (h.objs.size+3) .none/\IsPair (cU n h l1 l2) (h.objs.size+2) (.ref h.objs.size) (.ref (h.objs.size+1)) /\
  IsPair (cU n h l1 l2) (h.objs.size+3) .none .none/\(cU n h l1 l2).get? h.objs.size=some { cls:=.type n,data:=.fields #[.ref l1,.int 0 0] }/\(cU n h l1 l2).get? (h.objs.size+1)=some { cls:=.type n,data:=.fields #[.ref l2,.int 0 0] } /\
  ∀c o,h.get? c=some o->(cU n h l1 l2).get? c=some o:=by
 have z1:(h.push { cls:=.type n,data:=.fields #[.ref l1,.int 0 0] }).objs.size=h.objs.size+1:=zX ..;have z2:((h.push { cls:=.type n,data:=.fields #[.ref l1,.int 0 0] }).push { cls:=.type n,data:=.fields #[.ref l2,.int 0 0] }).objs.size=h.objs.size+2:=by rw[zX,z1]
 have z3:(((h.push { cls:=.type n,data:=.fields #[.ref l1,.int 0 0] }).push { cls:=.type n,data:=.fields #[.ref l2,.int 0 0] }).push { cls:=.type "tuple",data:=.seq #[.ref h.objs.size,.ref (h.objs.size+1)] }).objs.size=h.objs.size+3:=by rw[zX,z2]
 have z4:((((h.push { cls:=.type n,data:=.fields #[.ref l1,.int 0 0] }).push { cls:=.type n,data:=.fields #[.ref l2,.int 0 0] }).push { cls:=.type "tuple",data:=.seq #[.ref h.objs.size,.ref (h.objs.size+1)] }).push
  { cls:=.type "tuple",data:=.seq #[.none,.none] }).objs.size=h.objs.size+4:=by rw[zX,z3]
 unfold cU;refine⟨?_,?_,?_,?_,?_,fun c o e=>zy _ (zy _ (zy _ (zy _ (zy _ e))))⟩
 ·rw[<- z4];exact zk _ rfl
 ·refine zy _ (zy _ ?_)
  rw[<- z2];exact zk _ rfl
 ·refine zy _ ?_
  rw[<- z3];exact zk _ rfl
 ·exact zy _ (zy _ (zy _ (zy _ (zk _ rfl))))
 ·refine zy _ (zy _ (zy _ ?_))
  rw[<- z1];exact zk _ rfl
theorem EH{l1 l2:Addr}{xs ys:Array Value}{Q:Value->Shared->Prop}(D7:IsTup s.heap l1 xs)(qE:IsTup s.heap l2 ys)(h:Q (.ref (s.heap.objs.size+4)) { s with heap:=cU "tuple_iterator" s.heap l1 l2 }) :
  wpAny (model prog w) A (call (.type "zip") [.ref l1,.ref l2]) Q E s:=by
 refine callType_new F.called_zip (by decide) (F.typeCall_zip_2 _ _) (F.newCall_zip_2 _ _) (fun obj=>F.args_object_init_3 obj _ _) F.entry_zip_new (pS l1 l2 xs ys) ⟨D7,qE,?_⟩;show _/\_;exact⟨⟨_,(zip_parts _ _ _ _).1,rfl⟩,h⟩
theorem EI{l1 l2:Addr}{xs ys:Array Value}{Q:Value->Shared->Prop}(D7:s.heap.IsList l1 xs)(qE:s.heap.IsList l2 ys)(h:Q (.ref (s.heap.objs.size+4)) { s with heap:=cU "list_iterator" s.heap l1 l2 }) :
  wpAny (model prog w) A (call (.type "zip") [.ref l1,.ref l2]) Q E s:=by
 refine callType_new F.called_zip (by decide) (F.typeCall_zip_2 _ _) (F.newCall_zip_2 _ _) (fun obj=>F.args_object_init_3 obj _ _) F.entry_zip_new (meets_zip_new l1 l2 xs ys) ⟨D7,qE,?_⟩;have e:zipH5 s.heap l1 l2=cU "list_iterator" s.heap l1 l2:=by
  unfold cU;simp only[zipH5,zipH4,zipH3,zipH2,zipH1,zX,wT,wU]
 have e4:(zipH4 s.heap l1 l2).objs.size=s.heap.objs.size+4:=by simp only[zipH4,zipH3,zipH2,zipH1,zX,wT,wU]
 rw[e,e4];show _/\_;exact⟨⟨_,(zip_parts _ _ _ _).1,rfl⟩,h⟩
end
section
variable {X:Cx}{pins:List (Addr×Obj)}{σ:St}{H:Hp}{s:Shared}{h':Heap}
theorem u4{t':Nat}(ch:List Addr)(I:Inv X pins σ H s)(k':∀c o,c ∉ ch->s.heap.get? c=some o->h'.get? c=some o)(f:∀b∈ch,eD X pins H b):Inv X pins σ H { s with heap:=h',toks:=t' }:=by
 have na:∀c u,H c=some u->c ∉ ch:=fun c u e hc=>by have:=(f c hc).1;rw[e]at this;cases this
 refine I.step (g':=s.gens) (d':=s.drawn) (ch:=ch) (fun c hc=>?_) (fun c o _ _ hc e _=>k' c o hc e) (fun c o _ _ hc e _=>⟨o.slots,k' c o hc e⟩) (fun _ _ _ _ n=>n)
  (fun c o hc e=>⟨o,k' c o hc e⟩) (fun _ _ e=>e) (fun _ _ _ e=>e) (fun c ps e=>⟨#[],by rw[e];simp⟩) (fun m hm=>?_) (fun c u e=>?_) I.bare
 ·obtain⟨_,a1,_,a3,a4,a5⟩:=f c hc
  exact⟨a3,a1,a4,a5⟩
 ·obtain⟨o,es,ep,ho,r⟩:=hm
  exact⟨o,es,ep,k' _ o (fun hc=>(f _ hc).2.1 rfl) ho,r⟩
 ·refine(I.av c u e).iH (fun d v hd q=>?_) (fun _ q=>q) fun _ _ q=>q
  rcases hd with z|z
  ·exact k' d v (by rw[z];exact na c u e) q
  ·exact k' d v (na d _ z) q
end
noncomputable def Jj(q:Hp->Addr->List V->Prop)(a b:Addr):It :=
 ⟨fun i H=>∃xs ys x y,q H a xs/\q H b ys/\xs[i]?=some x/\ys[i]?=some y,fun i H v H'=>∃p x y,v=.ref p/\H p=none/\H'=upd H p (.tup [x,y])/\(∀xs,q H a xs->xs[i]?=some x)/\∀ys,q H b ys->ys[i]?=some y,
  fun i H=>∃xs ys,q H a xs/\q H b ys/\xs.length=i⟩
structure Ci (P:Program) (w:World) (K:Q_) (q:Hp->Addr->List V->Prop) (S:Nat->Addr->Addr->Heap->Prop) (T:Addr->Array Value->Heap->Prop) (n:String):Prop where
 it:∀i it a h,S i it a h->∃o vs,h.get? it=some o/\o.cls=.type n/\o.data=.fields vs
 fr:∀i it a h h',S i it a h->(∀o,h.get? it=some o->h'.get? it=some o)->S i it a h'
 dr:∀(A:Around) (it a:Addr) (items:Array Value),A.handled=none->a≠it->Draws P w A it [it,a] items.size (fun i v=>items[i]?=some v) (fun i h=>S i it a h/\T a items h)
 tt:∀a items h,T a items h->∃o,h.get? a=some o/\(o.cls=.type "list"\/o.cls=.type "tuple")
 sq:∀(X:Cx) (pins:List (Addr×Obj)) (σ:St) (H:Hp) (s:Shared) (a:Addr) (xs:List V),X.prog=P->X.w=w->X.K=K->Inv X pins σ H s->q H a xs->∃its,Vals xs its/\T a its.toArray s.heap
 inj:∀(X:Cx) (pins:List (Addr×Obj)) (σ:St) (H:Hp) (s:Shared) (a:Addr) (xs ys:List V),X.prog=P->X.w=w->X.K=K->Inv X pins σ H s->q H a xs->q H a ys->xs=ys
 ne:n≠"list"/\n≠"tuple"
theorem Jl{P:Program}{w:World}{K:Q_}:Ci P w K (aJ K) (fun i it a h=>h.IsListIter it a i) (fun a items h=>h.IsList a items) "list_iterator" where
 it:=fun i it a h st=>let ⟨o,h1,c,d⟩:=st;⟨o,_,h1,c,d⟩
 fr:=fun i it a h h' st k=>st.at k
 dr:=fun A it a items hh ne=>Draws.list hh it a ne items
 tt:=fun a items h t=>let ⟨o,h1,c,_⟩:=t;⟨o,h1,.inl c⟩
 sq:=fun X pins σ H s a xs hP hw hK I hq=>by
  subst hP hw hK;obtain⟨its,rv,p,hz⟩:=I.list hq;exact⟨its,rv,p.isList⟩
 inj:=fun X pins σ H s a xs ys hP hw hK I h1 h2=>by subst hP hw hK;exact I.nu h1 h2
 ne:=⟨by decide,by decide⟩
theorem KS{P:Program}{w:World}{K:Q_}:Ci P w K (cz K) (fun i it a h=>IsTupIter h it a i) (fun a items h=>IsTup h a items) "tuple_iterator" where
 it:=fun i it a h st=>let ⟨o,h1,c,d⟩:=st;⟨o,_,h1,c,d⟩
 fr:=fun i it a h h' st k=>let ⟨o,h1,r⟩:=st;⟨o,k _ h1,r⟩
 dr:=fun A it a items hh ne=>EB hh it a ne items
 tt:=fun a items h t=>let ⟨o,h1,c,_⟩:=t;⟨o,h1,.inr c⟩
 sq:=fun X pins σ H s a xs hP hw hK I hq=>by
  subst hP hw hK;obtain⟨its,rv,p,hz⟩:=I.tuple hq;exact⟨its,rv,p⟩
 inj:=fun X pins σ H s a xs ys hP hw hK I h1 h2=>by subst hP hw hK;exact I.kZ h1 h2
 ne:=⟨by decide,by decide⟩
structure Qs (z TI TO i1 i2:Addr):Prop where
 TIz:TI≠z
 TOz:TO≠z
 i1z:i1≠z
 i2z:i2≠z
 TITO:TI≠TO
 TIi1:TI≠i1
 TIi2:TI≠i2
 TOi1:TO≠i1
 TOi2:TO≠i2
 i12:i1≠i2
theorem Sy(n:Nat):Qs (n+4) (n+2) (n+3) n (n+1):=by
 constructor <;> (intro h;have h:(_:Nat)=_:=h;omega)
theorem sd{P:Program}{w:World}{K:Q_}{q:Hp->Addr->List V->Prop}{S:Nat->Addr->Addr->Heap->Prop}{T:Addr->Array Value->Heap->Prop}{n:String}(Z:Ci P w K q S T n){es:List Expr}{x1:Nat}{pos:Pos}{a b z TI TO i1 i2:Addr}(ne:Qs z TI TO i1 i2)
  (fr:∀c∈[z,TI,TO,i1,i2],c≠a/\c≠b) :
  Turn P w K (.Tuple es x1 pos) (Jj q a b) [z,TI,TO,i1,i2] z (fun i h=>IsZip h z TI TO .none/\IsPair h TI (.ref i1) (.ref i2)/\(∃u v,IsPair h TO u v)/\S i i1 a h/\S i i2 b h) where
 mem:=by simp
 obj:=fun i h st c hc=>by
  obtain⟨hz,ia,⟨u,v,mI⟩,s1,s2⟩:=st;simp only[zg,zE,or_false]at hc;rcases hc with rfl|rfl|rfl|rfl|rfl
  ·exact⟨_,hz,fun v e=>by cases e⟩
  ·exact⟨_,ia,fun v e=>by cases e⟩
  ·exact⟨_,mI,fun v e=>by cases e⟩
  ·obtain⟨o,vs,h1,_,d⟩:=Z.it _ _ _ _ s1
   exact⟨o,h1,fun v e=>by rw[d]at e;cases e⟩
  ·obtain⟨o,vs,h1,_,d⟩:=Z.it _ _ _ _ s2
   exact⟨o,h1,fun v e=>by rw[d]at e;cases e⟩
 keep:=fun i h h' st k=>by
  obtain⟨hz,ia,⟨u,v,mI⟩,s1,s2⟩:=st;exact⟨k z (by simp) _ hz,k TI (by simp) _ ia,⟨u,v,k TO (by simp) _ mI⟩,Z.fr _ _ _ _ _ s1 fun o e=>k i1 (by simp) o e,Z.fr _ _ _ _ _ s2 fun o e=>k i2 (by simp) o e⟩
 item:=by
  intro X hP hw hK hc i pins s σ H E I hf st hg;obtain⟨hz,ia,⟨u,v,mI⟩,s1,s2⟩:=st;obtain⟨xs,ys,x,y,Iv,Na,hx,hy⟩:=hg;obtain⟨tQ,C2,T1⟩:=Z.sq X pins σ H s a xs hP hw hK I Iv;obtain⟨HX,C0,T2⟩:=Z.sq X pins σ H s b ys hP hw hK I Na;obtain⟨u1,PH,TQ⟩:=C2.get hx;obtain⟨u2,PF,LK⟩:=C0.get hy;have na:∀c∈[z,TI,TO,i1,i2],c≠a:=fun c hc=>(fr c hc).1;have nb:∀c∈[z,TI,TO,i1,i2],c≠b:=fun c hc=>(fr c hc).2;have D1:=Z.dr X.A.in1 i1 a tQ.toArray (I.ok.hd hc) (Ne.symm (na i1 (by simp)));have D2:=Z.dr X.A.in1 i2 b HX.toArray (I.ok.hd hc) (Ne.symm (nb i2 (by simp)));have D:y8 z TI TO i1 i2 [i1,a] [i2,b]:=⟨ne.TIz,ne.TOz,ne.i1z,ne.i2z,ne.TITO,ne.TIi1,ne.TIi2,ne.TOi1,ne.TOi2,by simp[Ne.symm ne.i1z,na z],by simp[Ne.symm ne.i2z,nb z],by simp[ne.TOi1,na TO],by simp[ne.TOi2,nb TO],by simp[ne.i12,nb i1],by simp[Ne.symm ne.i12,na i2]⟩;refine n9 D D1 D2 hz ia mI ⟨s1,T1⟩ ⟨s2,T2⟩ (by rw[zl];exact(zv.mp PH).1) (by rw[zl];exact(zv.mp PF).1) fun v1 v2 h1 tk p1 p2 ho Rv nR st2 hT hk=>?_;have e1:v1=u1:=by
   have:tQ.toArray[i]?=some u1:=by simpa using PH
   rw[this]at p1;cases p1;rfl
  have e2:v2=u2:=by
   have:HX.toArray[i]?=some u2:=by simpa using PF
   rw[this]at p2;cases p2;rfl
  subst e1 e2;refine⟨_,rfl,wpAny_letOwnedTupleGo_zip (s:={ s with heap:=h1,toks:=tk }) ho fun h2 US sb=>?_⟩;replace sb:Heap.SameBut z h1 h2:=sb;have Pu:z<s.heap.objs.size:=zn hz;have keep:∀c o,c ∉ [z,TI,TO,i1,i2]->s.heap.get? c=some o->h2.get? c=some o:=fun c o hc e=>by
   simp only[zg,zE,or_false,not_or]at hc;exact(sb.2 c hc.1).trans (hk c o hc.1 hc.2.2.1 hc.2.2.2.1 hc.2.2.2.2 e)
  have I1:Inv X pins σ H { s with heap:=h2,toks:=tk }:=u4 _ I keep hf;have dS:H s.heap.objs.size=none:=I.av.fresh (zr _);have DX:h2.get? s.heap.objs.size=some { cls:=.type "tuple",data:=.seq #[v1,v2] }:=(sb.2 _ (zI Pu)).trans hT;have yg:rL X pins s.heap.objs.size:=mS I (zr _);have I2:Inv X pins σ (upd H s.heap.objs.size (.tup [x,y])) { s with heap:=h2,toks:=tk } :=
   lG I1 dS yg ⟨by show 2<=zp;decide,[v1,v2],.cons TQ (.cons LK .nil),⟨⟨_,DX,rfl,0,rfl⟩,fun o q=>by rw[DX]at q;cases q;exact⟨rfl,rfl⟩⟩⟩
  refine⟨.ref s.heap.objs.size,_,I2,rfl,⟨_,x,y,rfl,dS,rfl,fun zs hz=>by rw[Z.inj X pins σ H s a _ _ hP hw hK I hz Iv];exact hx,fun zs hz=>by rw[Z.inj X pins σ H s b _ _ hP hw hK I hz Na];exact hy⟩,⟨US,?_,⟨_,_,(sb.2 _ ne.TOz).trans Rv⟩,?_,?_⟩,fun c hc=>?_⟩
  ·exact(sb.2 _ ne.TIz).trans (hk _ _ ne.TIz ne.TITO ne.TIi1 ne.TIi2 ia)
  ·exact Z.fr _ _ _ _ _ nR.1 fun o e=>(sb.2 _ ne.i1z).trans e
  ·exact Z.fr _ _ _ _ _ st2.1 fun o e=>(sb.2 _ ne.i2z).trans e
  ·have IJ:H c=none:=(hf c hc).1
   have lt:c<s.heap.objs.size:=by
    simp only[zg,zE,or_false]at hc;rcases hc with rfl|rfl|rfl|rfl|rfl
    ·exact Pu
    ·exact zn ia
    ·exact zn mI
    ·obtain⟨o,vs,h1,_⟩:=Z.it _ _ _ _ s1
     exact zn h1
    ·obtain⟨o,vs,h1,_⟩:=Z.it _ _ _ _ s2
     exact zn h1
   rw[aB (zA lt)];exact IJ
 done:=by
  intro X hP hw hK hc i pins s σ H E I hf st hg;obtain⟨hz,ia,_,s1,s2⟩:=st;obtain⟨xs,ys,Iv,Na,hx⟩:=hg;obtain⟨tQ,C2,T1⟩:=Z.sq X pins σ H s a xs hP hw hK I Iv;have na:∀c∈[z,TI,TO,i1,i2],c≠a:=fun c hc=>(fr c hc).1;have nb:∀c∈[z,TI,TO,i1,i2],c≠b:=fun c hc=>(fr c hc).2;have D1:=Z.dr X.A.in1 i1 a tQ.toArray (I.ok.hd hc) (Ne.symm (na i1 (by simp)));have D:y8 z TI TO i1 i2 [i1,a] [i2,b]:=⟨ne.TIz,ne.TOz,ne.i1z,ne.i2z,ne.TITO,ne.TIi1,ne.TIi2,ne.TOi1,ne.TOi2,by simp[Ne.symm ne.i1z,na z],by simp[Ne.symm ne.i2z,nb z],by simp[ne.TOi1,na TO],by simp[ne.TOi2,nb TO],by simp[ne.i12,nb i1],by simp[Ne.symm ne.i12,na i2]⟩;have e:tQ.toArray.size=i:=by rw[zl,<- C2.length];exact hx
  exact pL D D1 hz ia ⟨by rw[e];exact s1,T1⟩ fun h' hk=>⟨rfl,u4 (t':=s.toks) [z,TI,TO,i1,i2] I (fun c o hc e=>by
   simp only[zg,zE,or_false,not_or]at hc;exact hk c o hc.1 hc.2.2.2.1 e) hf⟩
 self:=fun _ _ _ _ _ st h=>wpAny_pyIter_zip st.1 h
noncomputable def MS(K:Q_)(ta:TA):TI:=fun σ H R=>ta σ H fun vs H1=>∃a b,vs=[.ref a,.ref b]/\(((∃xs ys,aJ K H1 a xs/\aJ K H1 b ys)/\R (Jj (aJ K) a b) H1)\/((∃xs ys,cz K H1 a xs/\cz K H1 b ys)/\R (Jj (cz K) a b) H1))
theorem L5{X:Cx}{es:List Expr}{x1:Nat}{tp:Pos}{e1 e2:Expr}{ta:TA}{p pos:Pos}(hg:Gl X "zip")(hm:X.mg "zip" = none)(ha:PA X [e1,e2] ta)(hs:starEach [e1,e2] X.env=[(false,eval e1 X.env),(false,eval e2 X.env)])(gu:starEach [e2] X.env=[(false,eval e2 X.env)]) :
  PI X (.Tuple es x1 tp) (.Call (.Name "zip" p) [e1,e2] [] pos) (MS X.K ta):=by
 intro pins s σ H R I h;refine Call_ (fL I hg hm boot_zip (W_ (aF (ha pos pins s σ H _ I h) fun us s1 ⟨vs,H1,I1,r1,q1⟩=>?_) (by rw[hs,gu]) (by rw[gu];rfl)));obtain⟨a,b,e,q⟩:=q1;subst e;cases r1 with
 |cons r rr =>
  cases rr with
  |cons r' rr =>
   cases rr;cases r;cases r';have ne:=Sy s1.heap.objs.size;have ge:∀c∈[s1.heap.objs.size+4,s1.heap.objs.size+2,s1.heap.objs.size+3,s1.heap.objs.size,s1.heap.objs.size+1],s1.heap.objs.size<=c:=fun c hc=>by
    simp only[zg,zE,or_false]at hc;omega
   have fp:∀c∈[s1.heap.objs.size+4,s1.heap.objs.size+2,s1.heap.objs.size+3,s1.heap.objs.size,s1.heap.objs.size+1],eD X pins H1 c:=fun c hc=>I1.kE (ge c hc) (I1.av.fresh (ge c hc));rcases q with ⟨⟨xs,ys,h1,h2⟩,q⟩|⟨⟨xs,ys,h1,h2⟩,q⟩
   ·obtain⟨tQ,C2,p1,_⟩:=I1.list h1
    obtain⟨HX,C0,p2,_⟩:=I1.list h2;obtain⟨g1,g2,g3,g4,g5,g6⟩:=zip_parts "list_iterator" s1.heap a b;obtain⟨o1,w1,_⟩:=id p1.isList;obtain⟨o2,w2,_⟩:=id p2.isList;have la:=zn w1;have lb:=zn w2;refine EI p1.isList p2.isList ?_;have I2:Inv X pins σ H1 { s1 with heap:=cU "list_iterator" s1.heap a b }:=I1.kept (t':=s1.toks) g6;refine wpAny_pyIter_zip (s:={ s1 with heap:=cU "list_iterator" s1.heap a b }) g1 ?_;exact⟨_,_,_,_,H1,rfl,I2,sd Jl ne (fun c hc=>⟨zI (zj la (ge c hc)),zI (zj lb (ge c hc))⟩),⟨g1,g2,⟨_,_,g3⟩,⟨_,g4,rfl,rfl⟩,⟨_,g5,rfl,rfl⟩⟩,fp,q⟩
   ·obtain⟨tQ,C2,p1,_⟩:=I1.tuple h1
    obtain⟨HX,C0,p2,_⟩:=I1.tuple h2;obtain⟨g1,g2,g3,g4,g5,g6⟩:=zip_parts "tuple_iterator" s1.heap a b;obtain⟨o1,w1,_⟩:=id p1;obtain⟨o2,w2,_⟩:=id p2;have la:=zn w1;have lb:=zn w2;refine EH p1 p2 ?_;have I2:Inv X pins σ H1 { s1 with heap:=cU "tuple_iterator" s1.heap a b }:=I1.kept (t':=s1.toks) g6;refine wpAny_pyIter_zip (s:={ s1 with heap:=cU "tuple_iterator" s1.heap a b }) g1 ?_;exact⟨_,_,_,_,H1,rfl,I2,sd KS ne (fun c hc=>⟨zI (zj la (ge c hc)),zI (zj lb (ge c hc))⟩),⟨g1,g2,⟨_,_,g3⟩,⟨_,g4,rfl,rfl⟩,⟨_,g5,rfl,rfl⟩⟩,fp,q⟩
theorem E9{xs ys:List D}{i:Nat}(h:i<(xs.zip ys).length):xs[i]?=some ((xs.zip ys)[i]).1/\ys[i]?=some ((xs.zip ys)[i]).2:=by
 have h1:i<xs.length:=by rw[yI]at h;omega
 have h2:i<ys.length:=by rw[yI]at h;omega
 rw[List.getElem_zip,zw h1,zw h2];exact⟨rfl,rfl⟩
theorem LE.compZ{K:Q_}{i j:Nat}{fa fb fe:DE}(σ:St)(H:Hp)(Q:VK)(h:LE K (fun ρ=>do
  let x<-fa ρ
  let y<-fb ρ
  let s<-mR x y
  need (s.ds.length<=zp)
  let ys<-dW s.c1 s.c2 fe ((ρ.set i none).set j none) s.ds
  bu (.lst ys)) σ H Q):rA (MS K (cM (LE K fa) (cM (LE K fb) gC))) (p6 K 2 (gN (cN 0) (gN (cN 1) p7))) 2 Fi (LE K fe) σ H Q:=by
 obtain⟨ι,ρ,M,d,M',S,R,e,k⟩:=h;have e0:=aa e;clear e;obtain⟨x,M1,e1,e⟩:=e0;have e0:=aa e;clear e;obtain⟨y,M2,e2,e⟩:=e0;have e0:=aa e;clear e;obtain⟨src,M3,e3,e⟩:=e0;have e0:=aa e;clear e;obtain⟨_,Mb,e4,e⟩:=e0;have cy:=aG e4;clear e4;obtain⟨hn,rfl⟩:=cy;have e0:=aa e;clear e;obtain⟨all,M4,e5,e⟩:=e0;refine⟨ι,ρ,M,x,M1,S,R,e1,fun v1 H1 ι1 r1 S1 X1=>⟨ι1,ρ,M1,y,M2,S1,R.mono X1,e2,fun v2 H2 ι2 r2 S2 X2=>?_⟩⟩;have r1:=r1.mono X2;have R2:=(R.mono X1).mono X2;have key:∀(q:Hp->Addr->List V->Prop) (a b:Addr) (xs ys:List D),Mb=M2->src.ds=xs.zip ys->xs.length=ys.length->(∀ι3 H3 M3,Ext K ι2 H2 ι3 H3->aK K ι3 M3 H3->fK src.c1 M3->fK src.c2 M3->∃us ws,q H3 a us/\q H3 b ws/\aC K ι3 H3 xs us/\aC K ι3 H3 ys ws) ->
   ∃W:Nat->Nat->List V->Hp->Prop,(∃m,W 0 m [] H2)/\pk (Jj q a b) (p6 K 2 (gN (cN 0) (gN (cN 1) p7))) 2 Fi (LE K fe) σ (fun ys H'=>∀p,H' p=none->Q (.ref p) (upd H' p (.lst ys))) W:=by
  intro q a b xs ys hM oC hlen hq;subst hM;refine⟨fun i' m zs H'=>m=src.ds.length-i'/\i'<=src.ds.length/\zs.length<=i'/\∃ι' ds rest M5,aK K ι' M5 H'/\Ext K ι2 H2 ι' H'/\aC K ι' H' ds zs/\dW src.c1 src.c2 fe ((ρ.set i none).set j none) (src.ds.drop i') M5=some (.ok rest,M4)/\all=ds++rest,
   ⟨_,rfl,yq _,zr _,ι2,[],all,_,S2,Ext.refl,.nil,e5,rfl⟩,?_⟩
  rintro n m zs H' ⟨rfl,hi,hy,ι',ds,rest,M5,S5,X5,r5,e6,ea⟩;by_cases bU:n<src.ds.length
  ·right
   rw[yk bU]at e6;have dU:=aa e6;clear e6;obtain⟨_,_,e7,e6⟩:=dU;have ug:=cm e7;clear e7;obtain⟨tu,rfl⟩:=ug;have dU:=aa e6;clear e6;obtain⟨_,_,e7,e6⟩:=dU;have ug:=cm e7;clear e7;obtain⟨tq,rfl⟩:=ug;have dU:=aa e6;clear e6;obtain⟨y',M6,e7,e6⟩:=dU;have dU:=aa e6;clear e6;obtain⟨ys',M7,e8,e6⟩:=dU;have dU:=af e6;clear e6;obtain⟨rfl,rfl⟩:=dU;obtain⟨us,ws,q1,q2,ra,rb⟩:=hq ι' H' _ X5 S5 tu tq;have hz:xs[n]?=some (src.ds[n]).1/\ys[n]?=some (src.ds[n]).2:=by
    have h0:n<(xs.zip ys).length:=oC▸bU
    have:=E9 h0
    simp only[oC];exact this
   obtain⟨u,hu,ru⟩:=ra.get hz.1;obtain⟨w,hw,rw'⟩:=rb.get hz.2;refine⟨⟨us,ws,u,w,q1,q2,hu,hw⟩,by omega,fun v H'' os ho yl=>?_⟩;obtain⟨p,x1,y1,rfl,hp,rfl,z1,z2⟩:=yl;have t1:=z1 us q1;rw[hu]at t1;cases t1;have t2:=z2 ws q2;rw[hw]at t2;cases t2;obtain⟨o1,o2,rfl⟩:∃o1 o2,os=[o1,o2]:=by
    rcases os with _|⟨o1,_|⟨o2,_|⟨o3,l⟩⟩⟩ <;> first|exact⟨_,_,rfl⟩|(exfalso;simp at ho)
   have X6:Ext K ι' H' ι' (upd H' p (.tup [u,w])):=Ext.dn hp;have S6:aK K ι' _ (upd H' p (.tup [u,w])):=S5.dn hp;refine⟨p,[u,w],rfl,.inl (.inl aT),rfl,u,[w],rfl,w,[],rfl,rfl,[some u,some w],rfl,rfl,?_⟩;have RR:bE K ι' (upd H' p (.tup [u,w])) (some (src.ds[n]).1::some (src.ds[n]).2::(ρ.set i none).set j none) (some u::some w::σ) :=
    (((R2.mono X5).mono X6).comp (rw'.mono X6) i).comp (ru.mono X6) (j+1)
   show LE K fe (some u::some w::σ) _ _;refine⟨ι',_,_,y',M6,S6,RR,e7,fun v7 H7 ι7 r7 S7 X7=>?_⟩;exact⟨src.ds.length-(n+1),by omega,rfl,bU,by rw[zf];exact wC hy,ι7,ds++[y'],ys',M6,S7,(X5.trans X6).trans X7,((r5.mono X6).mono X7).append (.cons r7 .nil),e8,by rw[ea,wc];rfl⟩
  ·left
   have ei:n=src.ds.length:=by omega
   subst ei;rw[yF]at e6;have dU:=aa e6;clear e6;obtain⟨_,_,e7,e6⟩:=dU;have ug:=cm e7;clear e7;obtain⟨tu,rfl⟩:=ug;have dU:=aa e6;clear e6;obtain⟨_,_,e7,e6⟩:=dU;have ug:=cm e7;clear e7;obtain⟨tq,rfl⟩:=ug;have dU:=af e6;clear e6;obtain⟨rfl,rfl⟩:=dU;rw[zJ]at ea;subst ea;obtain⟨us,ws,q1,q2,ra,rb⟩:=hq ι' H' _ X5 S5 tu tq;refine⟨⟨us,ws,q1,q2,?_⟩,by omega,fj S5 r5 e fun v H5 ι5 r5 S5 X5'=>k v H5 ι5 r5 S5 (((X1.trans X2).trans X5).trans X5')⟩;rw[<- ra.length,oC,yI,hlen,wd]
 cases r1 with
 |tup t q =>
  cases r2 with
  |tup t' q' =>
   have aZ:=aa e3;clear e3;obtain⟨_,_,e6,e3⟩:=aZ;have dU:=aG e6;clear e6;obtain⟨hl,rfl⟩:=dU;have aZ:=af e3;clear e3;obtain⟨rfl,rfl⟩:=aZ;exact⟨_,_,rfl,.inr ⟨⟨_,_,bT t,bT t'⟩,key _ _ _ _ _ rfl rfl hl fun ι3 H3 M3 x3 _ _ _=>⟨_,_,bT (x3.tup _ _ t),bT (x3.tup _ _ t'),q.mono x3,q'.mono x3⟩⟩⟩
  |_=>exact(ah e3).elim
 |ob t =>
  cases r2 with
  |ob t' =>
   have aZ:=aa e3;clear e3;obtain⟨xs,_,e6,e3⟩:=aZ;have dU:=bw e6;clear e6;obtain⟨g1,rfl⟩:=dU;have aZ:=aa e3;clear e3;obtain⟨ys,_,e6,e3⟩:=aZ;have dU:=bw e6;clear e6;obtain⟨g2,rfl⟩:=dU;have aZ:=aa e3;clear e3;obtain⟨_,_,e6,e3⟩:=aZ;have dU:=aG e6;clear e6;obtain⟨hl,rfl⟩:=dU;have aZ:=af e3;clear e3;obtain⟨rfl,rfl⟩:=aZ;obtain⟨a,vs,h1,h2,h3,h4⟩:=aH S2 (.ob t) g1;obtain⟨b,ws,k1,k2,k3,k4⟩:=aH S2 (.ob t') g2;cases h1;cases k1;refine⟨_,_,rfl,.inl ⟨⟨_,_,aJ.of h3,aJ.of k3⟩,key _ _ _ _ _ rfl rfl hl fun ι3 H3 M3 x3 S3 tu tq=>?_⟩⟩;have tu:M3[_]?=some (MO.lst xs):=tu;have tq:M3[_]?=some (MO.lst ys):=tq;obtain⟨a2,Hj,m1,m2,m3,m4⟩:=aH S3 (.ob (x3.pre _ _ h2)) tu;obtain⟨b2,Pb,n1,n2,n3,n4⟩:=aH S3 (.ob (x3.pre _ _ k2)) tq;cases m1;cases n1;exact⟨_,_,aJ.of m3,aJ.of n3,m4,n4⟩
  |_=>exact(ah e3).elim
 |_=>exact(ah e3).elim
end L3
namespace L3
open PySem PySem.Spec PyProof.Rows L2
structure Sound (Γ:Ctx) (n:Nat):Prop where
 E:∀(S:Sc) (X:Cx) (e:Expr) (i:IE),aL Γ S X->cE S n e=some i->PE X e (LE X.K (ae Γ i))
 Es:∀(S:Sc) (X:Cx) (es:List Expr) (i:cH),aL Γ S X->mL S n es=some i->PA X es (LA X.K (aS Γ i))/\es.all aU=true
 O:∀(S:Sc) (X:Cx) (e:Option Expr) (i:lQ),aL Γ S X->cO S n e=some i->PO X e (LO X.K (gF Γ i))
 T:∀(S:Sc) (X:Cx) (tg e:Expr) (i:IT),aL Γ S X->cT S n e=some i->PI X tg e (LI X.K (eZ Γ i))/\∀x,foldedSetIterable e X.env x=pure x
 C:∀(S:Sc) (X:Cx) (e:Expr) (i:IC),aL Γ S X->cC S n e=some i->PT X e (LT X.K (bg Γ i))
 Co:∀(S:Sc) (X:Cx) (e:List Expr) (i:mP),aL Γ S X->EO S n e=some i->jz X e (LT X.K (ir Γ i))
section
variable {Γ:Ctx}{n:Nat}{K:Q_}
inductive V3 {α β:Type} (o:Option α) (f:α->Option β) (b:β):Prop
 |mk (a:α) (e:o=some a) (h:f a=some b)
theorem ai{α β:Type}{o:Option α}{f:α->Option β}{b:β}(h:(o >>= f)=some b):V3 o f b:=by
 cases o with
 |none=>cases h
 |some a=>exact⟨a,rfl,h⟩
theorem Jy{ρ:Ev}{i:Nat}{M M':MH}{d:D}(e:kW ρ i M=some (.ok d,M')):ρ[i]?=some (some d)/\M'=M:=by
 unfold kW at e;cases q:ρ[i]? with
 |none=>rw[q]at e;exact(ah e).elim
 |some o =>
  cases o with
  |none=>rw[q]at e;exact(ah e).elim
  |some d'=>rw[q]at e;cases e;exact⟨rfl,rfl⟩
theorem LE.var{i:Nat}(σ:St)(H:Hp)(Q:VK)(h:LE K (ae Γ (.var i)) σ H Q):cZ i σ H Q:=by
 obtain⟨ι,ρ,M,d,M',S,R,e,k⟩:=h;have e:kW ρ i M=some (.ok d,M'):=e;obtain⟨hd,rfl⟩:=Jy e;obtain⟨v,hv,rv⟩:=R.val i d hd;exact⟨v,hv,k v H ι rv S Ext.refl⟩
theorem LE.const{d:D}{v:V}(hv:∀ι H,Rep K ι H d v)(σ:St)(H:Hp)(Q:VK)(h:LE K (fun _=>pure d) σ H Q):tC v σ H Q:=by
 obtain⟨ι,ρ,M,d',M',S,R,e,k⟩:=h;have e0:=af e;clear e;obtain⟨rfl,rfl⟩:=e0;exact k v H ι (hv ι H) S Ext.refl
theorem LE.chain{op op':CmpOp}{fa fb fc:DE}(σ:St)(H:Hp)(Q:VK)(h:LE K (fun ρ=>do
  let x<-fa ρ
  let y<-fb ρ
  let k<-bS op x y
  if k=true then do let z<-fc ρ;let k'<-bS op' y z;pure (.bl k') else pure (.bl false)) σ H Q):si (y9 K (uc op)) (y9 K (uc op')) (LE K fa) (LE K fb) (LE K fc) σ H Q:=by
 obtain⟨ι,ρ,M,d,M',S,R,e,k⟩:=h;have e0:=aa e;clear e;obtain⟨x,M1,e1,e⟩:=e0;have e0:=aa e;clear e;obtain⟨y,M2,e2,e⟩:=e0;have e0:=aa e;clear e;obtain⟨b,M3,e3,e⟩:=e0;refine⟨ι,ρ,M,x,M1,S,R,e1,fun v1 H1 ι1 r1 S1 X1=>?_⟩;refine⟨ι1,ρ,M1,y,M2,S1,R.mono X1,e2,fun v2 H2 ι2 r2 S2 X2=>?_⟩;refine⟨ι2,M2,M3,x,y,.bl b,S2,r1.mono X2,r2,by unfold uc;rw[pO e3];rfl,fun v3 H3 ι3 r3 S3 X3=>?_⟩;cases r3;refine⟨b,rfl,?_⟩;cases b with
 |true =>
  rw[if_pos rfl]at e ⊢;have e0:=aa e;clear e;obtain⟨z,M4,e4,e⟩:=e0;have e0:=aa e;clear e;obtain⟨b',M5,e5,e⟩:=e0;refine⟨ι3,ρ,M3,z,M4,S3,((R.mono X1).mono X2).mono X3,e4,fun v4 H4 ι4 r4 S4 X4=>?_⟩;have e0:=af e;clear e;obtain⟨rfl,rfl⟩:=e0;exact⟨ι4,M4,_,y,z,.bl b',S4,(r2.mono X3).mono X4,r4,by unfold uc;rw[pO e5];rfl,fun v5 H5 ι5 r5 S5 X5=>k v5 H5 ι5 r5 S5 ((((X1.trans X2).trans X3).trans X4).trans X5)⟩
 |false =>
  rw[if_neg zt]at e ⊢;have e0:=af e;clear e;obtain⟨rfl,rfl⟩:=e0;exact k _ H3 ι3 (.bl _) S3 ((X1.trans X2).trans X3)
theorem LE.and{fa fb:DE}(σ:St)(H:Hp)(Q:VK)(h:LE K (fun ρ=>do let x<-fa ρ;let k<-lift (bz x);if k=true then fb ρ else pure (.bl false)) σ H Q):Hw (LE K fa) (LE K fb) σ H Q:=by
 obtain⟨ι,ρ,M,d,M',S,R,e,k⟩:=h;have e0:=aa e;clear e;obtain⟨x,M1,e1,e⟩:=e0;have e0:=aa e;clear e;obtain⟨b,M2,e2,e⟩:=e0;have aM:=ba e2;clear e2;obtain⟨hb,rfl⟩:=aM;refine⟨ι,ρ,M,x,_,S,R,e1,fun v1 H1 ι1 r1 S1 X1=>?_⟩;cases r1 <;> simp[bz]at hb;subst hb;refine⟨_,rfl,?_⟩;split at e
 ·rename_i hb
  rw[if_pos hb];exact⟨ι1,ρ,_,d,M',S1,R.mono X1,e,fun v H' ι' r' S' X'=>k v H' ι' r' S' (X1.trans X')⟩
 ·rename_i hb
  rw[if_neg hb];have e0:=af e;clear e;obtain⟨rfl,rfl⟩:=e0;exact k _ H1 ι1 (.bl _) S1 X1
theorem LE.or{fa fb:DE}(σ:St)(H:Hp)(Q:VK)(h:LE K (fun ρ=>do let x<-fa ρ;let k<-lift (bz x);if k=true then pure (.bl true) else fb ρ) σ H Q):Lb (LE K fa) (LE K fb) σ H Q:=by
 obtain⟨ι,ρ,M,d,M',S,R,e,k⟩:=h;have e0:=aa e;clear e;obtain⟨x,M1,e1,e⟩:=e0;have e0:=aa e;clear e;obtain⟨b,M2,e2,e⟩:=e0;have aM:=ba e2;clear e2;obtain⟨hb,rfl⟩:=aM;refine⟨ι,ρ,M,x,_,S,R,e1,fun v1 H1 ι1 r1 S1 X1=>?_⟩;cases r1 <;> simp[bz]at hb;subst hb;refine⟨_,rfl,?_⟩;split at e
 ·rename_i hb
  rw[if_pos hb];have e0:=af e;clear e;obtain⟨rfl,rfl⟩:=e0;exact k _ H1 ι1 (.bl _) S1 X1
 ·rename_i hb
  rw[if_neg hb];exact⟨ι1,ρ,_,d,M',S1,R.mono X1,e,fun v H' ι' r' S' X'=>k v H' ι' r' S' (X1.trans X')⟩
theorem LE.not{fa:DE}(σ:St)(H:Hp)(Q:VK)(h:LE K (fun ρ=>do let x<-fa ρ;let k<-lift (bz x);pure (.bl (!k))) σ H Q):Hq (LE K fa) σ H Q:=by
 obtain⟨ι,ρ,M,d,M',S,R,e,k⟩:=h;have e0:=aa e;clear e;obtain⟨x,M1,e1,e⟩:=e0;have e0:=aa e;clear e;obtain⟨b,M2,e2,e⟩:=e0;have aM:=ba e2;clear e2;obtain⟨hb,rfl⟩:=aM;have e0:=af e;clear e;obtain⟨rfl,rfl⟩:=e0;refine⟨ι,ρ,M,x,_,S,R,e1,fun v1 H1 ι1 r1 S1 X1=>?_⟩;cases r1 <;> simp[bz]at hb;subst hb;exact⟨_,rfl,k _ H1 ι1 (.bl _) S1 X1⟩
theorem LE.ite{fc:Ev->Mo Bool}{fa fb:DE}(σ:St)(H:Hp)(Q:VK)(h:LE K (fun ρ=>do let k<-fc ρ;if k=true then fa ρ else fb ρ) σ H Q):Ph (LT K fc) (LE K fa) (LE K fb) σ H Q:=by
 obtain⟨ι,ρ,M,d,M',S,R,e,k⟩:=h;have e0:=aa e;clear e;obtain⟨b,M1,e1,e⟩:=e0;refine⟨ι,ρ,M,b,M1,S,R,e1,fun H1 ι1 S1 X1=>?_⟩;split at e
 ·rename_i hb
  rw[if_pos hb];exact⟨ι1,ρ,_,d,M',S1,R.mono X1,e,fun v H' ι' r' S' X'=>k v H' ι' r' S' (X1.trans X')⟩
 ·rename_i hb
  rw[if_neg hb];exact⟨ι1,ρ,_,d,M',S1,R.mono X1,e,fun v H' ι' r' S' X'=>k v H' ι' r' S' (X1.trans X')⟩
theorem LE.tup{fa:Ev->Mo (List D)}(σ:St)(H:Hp)(Q:VK)(h:LE K (fun ρ=>do let xs<-fa ρ;need (xs.length<=zp);pure (.tup xs)) σ H Q):Fj (LA K fa) σ H Q:=by
 obtain⟨ι,ρ,M,d,M',S,R,e,k⟩:=h;have e0:=aa e;clear e;obtain⟨xs,M1,e1,e⟩:=e0;have e0:=aa e;clear e;obtain⟨_,_,e2,e⟩:=e0;have aM:=aG e2;clear e2;obtain⟨hn,rfl⟩:=aM;have e0:=af e;clear e;obtain⟨rfl,rfl⟩:=e0;refine⟨ι,ρ,M,xs,_,S,R,e1,fun vs H1 ι1 r1 S1 X1=>⟨by rw[<- r1.length];exact hn,jP S1 r1 fun v H' ι' r' S' X'=>k v H' ι' r' S' (X1.trans X')⟩⟩
theorem LE.lst{fa:Ev->Mo (List D)}(σ:St)(H:Hp)(Q:VK)(h:LE K (fun ρ=>do let xs<-fa ρ;need (xs.length<=zp);bu (.lst xs)) σ H Q):Ld (LA K fa) σ H Q:=by
 obtain⟨ι,ρ,M,d,M',S,R,e,k⟩:=h;have e0:=aa e;clear e;obtain⟨xs,M1,e1,e⟩:=e0;have e0:=aa e;clear e;obtain⟨_,_,e2,e⟩:=e0;have aM:=aG e2;clear e2;obtain⟨hn,rfl⟩:=aM;refine⟨ι,ρ,M,xs,_,S,R,e1,fun vs H1 ι1 r1 S1 X1=>⟨by rw[<- r1.length];exact hn,fj S1 r1 e fun v H' ι' r' S' X'=>k v H' ι' r' S' (X1.trans X')⟩⟩
theorem LE.aY(σ:St)(H:Hp)(Q:VK)(h:LE K (fun _=>bu (.aY [])) σ H Q):CM σ H Q:=by
 obtain⟨ι,ρ,M,d,M',S,R,e,k⟩:=h;intro p hp;have e0:=gH e;clear e;obtain⟨rfl,rfl⟩:=e0;exact k _ _ (ι++[p]) (.ob (by rw[<- S.len,zd (zr _),yN];rfl)) (S.new hp ⟨[],rfl,.nil⟩) (Ext.new hp)
theorem LE.slc{fa:DE}{fl fh:Ev->Mo (Option Int)}(σ:St)(H:Hp)(Q:VK)(h:LE K (fun ρ=>do let x<-fa ρ;let l<-fl ρ;let h<-fh ρ;fF x l h) σ H Q):Pf (Qu K) (LE K fa) (LO K fl) (LO K fh) σ H Q:=by
 obtain⟨ι,ρ,M,d,M',S,R,e,k⟩:=h;have e0:=aa e;clear e;obtain⟨x,M1,e1,e⟩:=e0;have e0:=aa e;clear e;obtain⟨l,M2,e2,e⟩:=e0;have e0:=aa e;clear e;obtain⟨r,M3,e3,e⟩:=e0;refine⟨ι,ρ,M,x,M1,S,R,e1,fun v1 H1 ι1 r1 S1 X1=>?_⟩;refine⟨ι1,ρ,M1,l,M2,S1,R.mono X1,e2,fun H2 ι2 S2 X2=>?_⟩;refine⟨ι2,ρ,M2,r,M3,S2,(R.mono X1).mono X2,e3,fun H3 ι3 S3 X3=>?_⟩;exact⟨ι3,M3,M',x,d,S3,(r1.mono X2).mono X3,e,fun v H' ι' r' S' X'=>k v H' ι' r' S' (((X1.trans X2).trans X3).trans X')⟩
theorem LE.call{fa:Ev->Mo (List D)}{g:List D->Mo D}{m:Nat}(σ:St)(H:Hp)(Q:VK)(hm:∀ds M d M',g ds M=some (.ok d,M')->ds.length=m)(h:LE K (fun ρ=>do let xs<-fa ρ;g xs) σ H Q):Hv (eY K m g) [] E0 (LA K fa) σ H Q:=by
 obtain⟨ι,ρ,M,d,M',S,R,e,k⟩:=h;have e0:=aa e;clear e;obtain⟨xs,M1,e1,e⟩:=e0;refine⟨ι,ρ,M,xs,M1,S,R,e1,fun vs H1 ι1 r1 S1 X1=>?_⟩;show eY K m g (vs++[]) H1 Q E0;rw[zJ];exact⟨by rw[<- r1.length];exact hm _ _ _ _ e,ι1,M1,M',xs,d,S1,r1,e,fun v H' ι' r' S' X'=>k v H' ι' r' S' (X1.trans X')⟩
theorem LE.blt{fa:Ev->Mo (List D)}{g:List D->Mo D}(σ:St)(H:Hp)(Q:VK)(h:LE K (fun ρ=>do let xs<-fa ρ;g xs) σ H Q):u6 (Qv K g) (LA K fa) σ H Q:=by
 obtain⟨ι,ρ,M,d,M',S,R,e,k⟩:=h;have e0:=aa e;clear e;obtain⟨xs,M1,e1,e⟩:=e0;refine⟨ι,ρ,M,xs,M1,S,R,e1,fun vs H1 ι1 r1 S1 X1=>?_⟩;exact⟨ι1,M1,M',xs,d,S1,r1,e,fun v H' ι' r' S' X'=>k v H' ι' r' S' (X1.trans X')⟩
theorem LA.nil(σ:St)(H:Hp)(Q:List V->Hp->Prop)(h:LA K (fun _=>pure []) σ H Q):gC σ H Q:=by
 obtain⟨ι,ρ,M,d,M',S,R,e,k⟩:=h;have e0:=af e;clear e;obtain⟨rfl,rfl⟩:=e0;exact k [] H ι .nil S Ext.refl
theorem LA.cons{fa:DE}{fs:Ev->Mo (List D)}(σ:St)(H:Hp)(Q:List V->Hp->Prop)(h:LA K (fun ρ=>do let x<-fa ρ;let xs<-fs ρ;pure (x::xs)) σ H Q):cM (LE K fa) (LA K fs) σ H Q:=by
 obtain⟨ι,ρ,M,d,M',S,R,e,k⟩:=h;have e0:=aa e;clear e;obtain⟨x,M1,e1,e⟩:=e0;have e0:=aa e;clear e;obtain⟨xs,M2,e2,e⟩:=e0;have e0:=af e;clear e;obtain⟨rfl,rfl⟩:=e0;refine⟨ι,ρ,M,x,M1,S,R,e1,fun v1 H1 ι1 r1 S1 X1=>?_⟩;exact⟨ι1,ρ,M1,xs,_,S1,R.mono X1,e2,fun vs H2 ι2 r2 S2 X2=>k _ H2 ι2 (.cons (r1.mono X2) r2) S2 (X1.trans X2)⟩
theorem LO.none(σ:St)(H:Hp)(Q:Option Int->Hp->Prop)(h:LO K (fun _=>pure Option.none) σ H Q):u5 σ H Q:=by
 obtain⟨ι,ρ,M,d,M',S,R,e,k⟩:=h;have e0:=af e;clear e;obtain⟨rfl,rfl⟩:=e0;exact k H ι S Ext.refl
theorem LO.some{fa:DE}(σ:St)(H:Hp)(Q:Option Int->Hp->Prop)(h:LO K (fun ρ=>do
  let x<-fa ρ
  (match x with
  |.int i=>pure (Option.some i)
  |_=>Mo.stop)) σ H Q):Ho (LE K fa) σ H Q:=by
 obtain⟨ι,ρ,M,d,M',S,R,e,k⟩:=h;have e0:=aa e;clear e;obtain⟨x,M1,e1,e⟩:=e0;refine⟨ι,ρ,M,x,M1,S,R,e1,fun v1 H1 ι1 r1 S1 X1=>?_⟩;cases r1 with
 |int i=>have e0:=af e;clear e;obtain⟨rfl,rfl⟩:=e0;exact⟨i,rfl,k H1 ι1 S1 X1⟩
 |_=>exact(ah e).elim
theorem LT.test{fa:DE}(σ:St)(H:Hp)(Q:Bool->Hp->Prop)(h:LT K (fun ρ=>do let x<-fa ρ;lift (bz x)) σ H Q):Au (LE K fa) σ H Q:=by
 obtain⟨ι,ρ,M,b,M',S,R,e,k⟩:=h;have e0:=aa e;clear e;obtain⟨x,M1,e1,e⟩:=e0;have e0:=ba e;clear e;obtain⟨hb,rfl⟩:=e0;refine⟨ι,ρ,M,x,_,S,R,e1,fun v1 H1 ι1 r1 S1 X1=>?_⟩;cases r1 <;> simp[bz]at hb;subst hb;exact⟨_,rfl,k H1 ι1 S1 X1⟩
theorem LT.not{fa:Ev->Mo Bool}(σ:St)(H:Hp)(Q:Bool->Hp->Prop)(h:LT K (fun ρ=>do let k<-fa ρ;pure (!k)) σ H Q):Lc (LT K fa) σ H Q:=by
 obtain⟨ι,ρ,M,b,M',S,R,e,k⟩:=h;have e0:=aa e;clear e;obtain⟨x,M1,e1,e⟩:=e0;have e0:=af e;clear e;obtain⟨rfl,rfl⟩:=e0;exact⟨ι,ρ,M,x,_,S,R,e1,fun H1 ι1 S1 X1=>k H1 ι1 S1 X1⟩
theorem LT.and{fa fb:Ev->Mo Bool}(σ:St)(H:Hp)(Q:Bool->Hp->Prop)(h:LT K (fun ρ=>do let k<-fa ρ;if k=true then fb ρ else pure false) σ H Q):Lh (LT K fa) (LT K fb) σ H Q:=by
 obtain⟨ι,ρ,M,b,M',S,R,e,k⟩:=h;have e0:=aa e;clear e;obtain⟨x,M1,e1,e⟩:=e0;refine⟨ι,ρ,M,x,M1,S,R,e1,fun H1 ι1 S1 X1=>?_⟩;split at e
 ·rename_i hb
  rw[if_pos hb];exact⟨ι1,ρ,_,b,M',S1,R.mono X1,e,fun H' ι' S' X'=>k H' ι' S' (X1.trans X')⟩
 ·rename_i hb
  rw[if_neg hb];have e0:=af e;clear e;obtain⟨rfl,rfl⟩:=e0;exact k H1 ι1 S1 X1
theorem LT.or{fa fb:Ev->Mo Bool}(σ:St)(H:Hp)(Q:Bool->Hp->Prop)(h:LT K (fun ρ=>do let k<-fa ρ;if k=true then pure true else fb ρ) σ H Q):Pg (LT K fa) (LT K fb) σ H Q:=by
 obtain⟨ι,ρ,M,b,M',S,R,e,k⟩:=h;have e0:=aa e;clear e;obtain⟨x,M1,e1,e⟩:=e0;refine⟨ι,ρ,M,x,M1,S,R,e1,fun H1 ι1 S1 X1=>?_⟩;split at e
 ·rename_i hb
  rw[if_pos hb];have e0:=af e;clear e;obtain⟨rfl,rfl⟩:=e0;exact k H1 ι1 S1 X1
 ·rename_i hb
  rw[if_neg hb];exact⟨ι1,ρ,_,b,M',S1,R.mono X1,e,fun H' ι' S' X'=>k H' ι' S' (X1.trans X')⟩
theorem sV{X:Cx}{a:Expr}{fa:DE}(ha:PE X a (LE X.K fa))(he:∀whole,isTrue a X.env whole=(do let v<-whole;standAt a.pos;holding [v] (truthy v))):PT X a (LT X.K fun ρ=>do let x<-fa ρ;ka x):=by
 intro pins s σ H Q I h;obtain⟨ι,ρ,M,b,M',S,R,e,k⟩:=h;have e0:=aa e;clear e;obtain⟨x,M1,e1,e⟩:=e0;refine isTrue_plain (aF (ha pins s σ H (fun v H1=>∃ι M M' d b,aK X.K ι M H1/\Rep X.K ι H1 d v/\ka d M=some (.ok b,M')/\(M'=M->Q b H1)) I ⟨ι,ρ,M,x,M1,S,R,e1,fun v1 H1 ι1 r1 S1 X1=>⟨ι1,M1,M',x,b,S1,r1,e,fun z=>by subst z;exact k H1 ι1 S1 X1⟩⟩) fun v s1 ⟨x,H1,I1,r1,q1⟩=>JD pins s1 σ H1 x v Q I1 r1 q1) (he _)
end
end L3
namespace L3
open PySem PySem.Spec PyProof.Rows L2
section
variable {Γ:Ctx}{n:Nat}
theorem az{x:Str}{l:List Str}(h:l.contains x=true):x∈l:=by simpa using h
noncomputable def eu(cells:List (Str×Addr)):List (Str×NameKind)->List (Str×Addr)->List (Str×Addr)
 |[],acc=>acc
 |p::r,acc=>eu cells r (if p.2==.free then (p.1,(cells.lookup p.1).getD 0)::acc else acc)
theorem qM{cells:List (Str×Addr)}{y:Str}{c:Addr}:∀{names:List (Str×NameKind)} {acc:List (Str×Addr)},(∀p∈names,p.2=.free->∃c,cells.lookup p.1=some c)->(acc.lookup y=some c->cells.lookup y=some c) ->
  (eu cells names acc).lookup y=some c->cells.lookup y=some c
 |[],acc,_,ha,h=>ha h
 |p::r,acc,hf,ha,h=>by
  unfold eu at h;refine qM (names:=r) (fun q hq=>hf q (zV _ hq)) (fun h'=>?_) h;by_cases hp:p.2=.free
  ·rw[if_pos (by simpa using hp)]at h'
   obtain⟨c',hc'⟩:=hf p zR hp;rw[hc',yO,yr]at h';by_cases hy:y=p.1
   ·subst hy
    simp at h';subst h';exact hc'
   ·have:(y==p.1)=false:=beq_eq_false_iff_ne.mpr hy
    rw[this]at h';exact ha h'
  ·rw[if_neg (by simpa using hp)]at h'
   exact ha h'
theorem uo{cells:List (Str×Addr)}{y:Str}:∀{names:List (Str×NameKind)} {acc:List (Str×Addr)},(∃c,acc.lookup y=some c)->∃c,(eu cells names acc).lookup y=some c
 |[],_,h=>h
 |p::r,acc,h=>by
  unfold eu;refine uo (names:=r) ?_;split
  ·rw[yr]
   split
   ·exact⟨_,rfl⟩
   ·exact h
  ·exact h
theorem um{cells:List (Str×Addr)}{y:Str}:∀{names:List (Str×NameKind)} {acc:List (Str×Addr)},(y,NameKind.free)∈names->∃c,(eu cells names acc).lookup y=some c
 |[],_,h=>by simp at h
 |p::r,acc,h=>by
  unfold eu;rcases zg.mp h with h|h
  ·subst h
   refine uo ?_;rw[if_pos (by simp),yr];simp
  ·exact um h
theorem q9{scope:Scope}{env:Env}(h:∀p∈scope.names,p.2=.free->∃c,env.cells.lookup p.1=some c):closureFor scope env=pure (eu env.cells scope.names []):=by
 have gen:∀(names:List (Str×NameKind)) (acc:List (Str×Addr)),(∀p∈names,p.2=.free->∃c,env.cells.lookup p.1=some c) ->
   (forIn names acc (fun (x:Str×NameKind) (r:List (Str×Addr))=>if (x.2==NameKind.free)=true then (cellOf env x.1 >>= fun a=>(pure (ForInStep.yield ((x.1,a)::r)):Sem (ForInStep (List (Str×Addr))))) else pure (ForInStep.yield r)):Sem (List (Str×Addr)))=pure (eu env.cells names acc):=by
  intro names;induction names with
  |nil=>intro acc _;rfl
  |cons p r ih =>
   intro acc hf;rw[xU];obtain⟨name,kind⟩:=p;dsimp only;by_cases hk:kind=.free
   ·subst hk
    obtain⟨c,hc⟩:=hf (name,.free) zR rfl;have e:cellOf env name=pure c:=by unfold cellOf;rw[hc]
    rw[if_pos (by rfl),e];simp only[pure_bind];rw[ih _ fun q hq=>hf q (zV _ hq)]
    conv=>rhs;unfold eu
    dsimp only;rw[if_pos (by rfl),hc];rfl
   ·have hb:(kind==NameKind.free)=false:=by simpa using hk
    rw[if_neg (by rw[hb];exact zt)];simp only[pure_bind];rw[ih _ fun q hq=>hf q (zV _ hq)]
    conv=>rhs;unfold eu
    dsimp only;rw[if_neg (by rw[hb];exact zt)]
 unfold closureFor;refine Eq.trans ?_ (gen scope.names [] h);exact bind_pure _
theorem qK{S:Sc}{X:Cx}{sc:Scope}{xs:List Str}(cn:X.N=S.N)(dC:∀x k,S.sc.names.lookup x=some k->∃k',X.env.scope.names.lookup x=some k'/\(k'=k\/(k=.free/\k'=.cell)))(hx:X.Ok)(h:cX S sc xs=true):dX X sc (eu X.env.cells sc.names []) xs (xs++blank S.N xs):=by
 unfold cX at h;simp only[zx,zB,bne_iff_ne,ne_eq,beq_iff_eq,xk,decide_eq_true_eq]at h;obtain⟨⟨⟨⟨⟨⟨h1,h2⟩,h5⟩,h6⟩,h7⟩,h8⟩,h9⟩:=h;have hout:∀y,sc.names.lookup y=some .free->X.env.kindOf y=some .cell\/X.env.kindOf y=some .free:=fun y hy=>by
  rcases h6 _ (lookup_mem hy) with z|z
  ·exact absurd rfl z
  ·have z':S.sc.names.lookup y=some .cell\/S.sc.names.lookup y=some .free:=z
   rcases z' with z|z
   ·obtain⟨k',q1,rfl|⟨q2,_⟩⟩:=dC _ _ z
    ·exact .inl q1
    ·cases q2
   ·obtain⟨k',q1,rfl|⟨_,rfl⟩⟩:=dC _ _ z
    ·exact .inr q1
    ·exact .inl q1
 have oB:∀p∈sc.names,p.2=.free->∃c,X.env.cells.lookup p.1=some c:=fun p hp hf=>by
  refine hx.has p.1 (hout p.1 ?_);rw[(h7 p hp).1,hf]
 refine⟨h1,fun y hy=>(h5 y hy).1,fun x hx=>(h2 x hx).1.1,fun y hy hl=>by rw[(h7 y hy).1,hl],fun y hy=>?_,q9 oB,fun y c=>qM oB (fun z=>by cases z),fun y hy=>um (lookup_mem hy),hout,h9,fun i y hy=>?_,fun i y hy=>?_,?_⟩
 ·rcases (h5 _ (lookup_mem hy)).2 with z|z
  ·exact absurd rfl z
  ·rcases z with z|z
   ·exact .inl (by simpa using z)
   ·exact .inr z
 ·rw[zD (zv.mp hy).1]
  exact hy
 ·have hy':(blank S.N xs)[i]?=some y:=by
   rw[zd (Nat.le_add_left ..),wq]at hy;exact hy
  unfold blank at hy';rw[ze]at hy';cases q:S.N[i]? with
  |none=>rw[q]at hy';cases hy'
  |some z =>
   rw[q]at hy';simp only[yU,Option.some.injEq]at hy';by_cases hz:z∈xs
   ·rw[if_pos (by simpa using hz)]at hy'
    subst hy';refine⟨fun e=>(h2 _ e).2 rfl,by decide,.inr fun hv=>?_⟩;have nb:∀k,sc.names.lookup ("":Str)=some k->False:=fun k e=>(h7 _ (lookup_mem e)).2 rfl;rcases hv with e|e|e
    ·exact nb _ e
    ·exact nb _ e
    ·exact nb _ e
   ·rw[if_neg (by simpa using hz)]at hy'
    subst hy';exact⟨hz,h8 _ (zF q),.inl (by rw[cn];exact q)⟩
 ·show (xs++blank S.N xs).length=X.N.length+xs.length
  unfold blank;rw[zf,zu,cn,wY]
theorem lL{S:Sc}{X:Cx}{sc:Scope}{xs:List Str}(C:aL Γ S X)(hx:X.Ok)(h:cX S sc xs=true):dX X sc (eu X.env.cells sc.names []) xs (xs++blank S.N xs):=qK C.n C.sc hx h
theorem jX{S:Sc}{X:Cx}{sc:Scope}{x:List Str}(C:aL Γ S X)(h:cX S sc x=true)(cl:List (Str×Addr))(Ca:Addr)(s:Shared)(H:Hp)(fp:List Addr):aL Γ (S.comp sc x) (bj X sc cl Ca (x++blank S.N x) s H fp) where
 n:=rfl
 sc:=fun y k hy=>by
  have e:(relabel sc X.env).names.lookup y=(sc.names.lookup y).map fun k=>if (k==NameKind.free&&X.env.scope.kind==.function&&X.env.kindOf y==some .cell) then NameKind.cell else k:=fM;have hy':sc.names.lookup y=some k:=hy;rw[hy']at e;refine⟨_,e,?_⟩;dsimp only;split
  ·rename_i hc
   simp only[zx,beq_iff_eq]at hc;exact .inr ⟨hc.1.1,rfl⟩
  ·exact .inl rfl
 calm:=C.calm
 hu:=C.hu
 d9:=rfl
 fns:=C.fns
 gls:=C.gls
 bo:=C.bo
 cls:=C.cls
 kl:=C.kl
 lD:=C.lD
 HS:=C.HS
 rfs:=C.rfs
 nd:=by
  unfold cX at h;simp only[zx,decide_eq_true_eq]at h;exact h.2
theorem lx{X:Cx}{sc:Scope}{cl:List (Str×Addr)}{xs N':List Str}(CS:dX X sc cl xs N'){i:Nat}{x:Str}{px:Pos}(h:xs[i]?=some x)(Ca:Addr)(s:Shared)(H:Hp)(fp:List Addr):PG (bj X sc cl Ca N' s H fp) (.Name x px) (cN i) :=
 gG CS.nd (CS.n0 i x h) (.inl (lookup_relabel_local (CS.loc x (zF h)))) (.inr (lookup_relabel_local (CS.loc x (zF h))))
theorem FW{S:Sc}{X:Cx}{sc:Scope}{x:Str}{px pos:Pos}{elt iter:Expr}{ifs:List Expr}{j:Nat}{fs:Ev->Mo Src}{fc:Ev->Mo Bool}{fe:DE}(C:aL Γ S X)(h:cX S sc [x]=true)(hi:PI X (.Name x px) iter (LI X.K fs))(hs:∀x,foldedSetIterable iter X.env x=pure x)
  (htc:∀X',aL Γ (S.comp sc [x]) X'->X'.K=X.K->jz X' ifs (LT X'.K fc)) (hte:∀X',aL Γ (S.comp sc [x]) X'->X'.K=X.K->PE X' elt (LE X'.K fe)) :
  PE X (.ListComp elt [⟨.Name x px,iter,ifs,0⟩] sc pos) (LE X.K (fun ρ=>do
   let s<-fs ρ
   need (s.ds.length<=zp)
   let ys<-dJ s.ck fc fe (ρ.set j none) s.ds
   bu (.lst ys))):=by
 intro pins s σ H Q I q;have CS:=lL C I.ok h;exact pN C.calm CS (fun _ _ _ _=>lx CS rfl _ _ _ _) hi (fun Ca s H fp=>htc _ (jX C h _ Ca s H fp) rfl) (fun Ca s H fp=>hte _ (jX C h _ Ca s H fp) rfl) hs pins s σ H Q I (LE.comp σ H Q q)
theorem KL{x:Str}{m:Nat}{b:Bl}(h:GZ x m=some b):bootBuiltins x=some (Cc b)/\∃y:String,x=Str.ofString y:=by
 unfold GZ at h;have key:∀(y:String) (k:Nat),(x==(Str.ofString y)&&m==k)=true->x=Str.ofString y:=fun y k e=>by
  simp only[zx,beq_iff_eq]at e;exact e.1
 split at h
 ·rename_i e;cases h;rw[key _ _ e];exact⟨by decide +kernel,_,rfl⟩
 split at h
 ·rename_i e;cases h;rw[key _ _ e];exact⟨by decide +kernel,_,rfl⟩
 split at h
 ·rename_i e;cases h;rw[key _ _ e];exact⟨by decide +kernel,_,rfl⟩
 split at h
 ·rename_i e;cases h;rw[key _ _ e];exact⟨by decide +kernel,_,rfl⟩
 split at h
 ·rename_i e;cases h;rw[key _ _ e];exact⟨by decide +kernel,_,rfl⟩
 split at h
 ·rename_i e;cases h;rw[key _ _ e];exact⟨by decide +kernel,_,rfl⟩
 split at h
 ·rename_i e;cases h;rw[key _ _ e];exact⟨by decide +kernel,_,rfl⟩
 split at h
 ·rename_i e;cases h;rw[key _ _ e];exact⟨by decide +kernel,_,rfl⟩
 split at h
 ·rename_i e;cases h;rw[key _ _ e];exact⟨by decide +kernel,_,rfl⟩
 split at h
 ·rename_i e;cases h;rw[key _ _ e];exact⟨by decide +kernel,_,rfl⟩
 split at h
 ·rename_i e;cases h;rw[key _ _ e];exact⟨by decide +kernel,_,rfl⟩
 ·cases h
theorem ki{b:Expr}(h:HV b=true):z0 b:=by
 intro o i;cases b <;> first
  |rfl
  |exact absurd h zt
end
end L3
namespace L3
open PySem PySem.Spec PyProof.Rows L2
theorem Du:typeLookup (.type "list_reverseiterator") "__len__" = pure none:=by rw[typeLookup_type,builtinLookup_eq_fast];kernel_rfl
theorem Gu:typeLookup (.type "list_reverseiterator") "__length_hint__" = pure (some (.builtin "list_reverseiterator.__length_hint__")):=by rw[typeLookup_type,builtinLookup_eq_fast];kernel_rfl
section
variable {prog:Program}{w:World}{A:Around}{s:Shared}{R:Result->Shared->Prop}{E:Value->Shared->Prop}
variable {I:Addr}{fp wr:List Addr}{G:Array GenState->Array GenState->Prop}{n:Nat}{P:Nat->Value->Prop}{St:Nat->Shared->Prop}
theorem BP(W:WalksS prog w A.in1 I fp wr G n P St)(hT:∀i s,St i s->s.TypeIs (.ref I) "list_reverseiterator")(S:Addr)(res:Value)(c₀:Nat)(cw:St 0 s)(t6:S ∉ fp)(hI:I∈fp)
  (hS:s.heap.get? S=some { cls:=.type "list",data:=.seq #[] c₀ })
  (hR:∀s' acc' c',Moved (S::wr) G s s'->s'.heap.get? S=some { cls:=.type "list",dict:=none,data:=.seq acc' c',slots:=#[] }->ItemsOf P acc' n->R (.ok (.ret res)) s') (hn:n<=zp) :
  wpAny (model prog w) A.in1 (Builtin.List.listExtendWith (.ref S) (.ref I) res)
   (fun fin s'=>match fin with|.done f=>R (.ok f) s'|.again c'=>c'.quiet=true/\codeAny (model prog w) A c' R s') (fun e s'=>R (.error e) s') s:=by
 have Vw:S≠I:=fun e=>t6 (e▸hI);unfold Builtin.List.listExtendWith;refine zz (wpAny_typeOf (hT 0 _ cw) ?_);have h1:Builtin.List.listSameRef (.ref S) (.ref I)=false:=by simp[Builtin.List.listSameRef,Vw]
 rw[if_neg (by rw[h1];decide)];refine zz (W.self 0 _ _ _ cw ?_);refine zz (wpAny_holding ?_);unfold Builtin.List.listLengthHint;refine zz (wpAny_specialOf (hT 0 _ cw) Du ?_);show wpAny _ A.in1 (specialOf (Value.ref I) (Str.ofString "__length_hint__") >>= _) _ _ _;refine zz (wpAny_specialOf (hT 0 _ cw) Gu ?_)
 (generalize vR:("list_reverseiterator.__length_hint__":String)=Ic;(fail_if_success (clear vR Ic));wp_delta;rw[show splitId Ic=some ("list_reverseiterator","__length_hint__") from by subst vR;decide +kernel];subst vR)
 refine zz (wpAny_isInstance (b:=true) (hT 0 _ cw) (by rw[isSubtype_type];kernel_rfl) ?_);refine zq ?_;rw[if_neg (by decide)];exact zq ⟨plainId_quiet F.plain_extend_loop _,codeAny_extend_loopS W hn _ t6 _ n 0 _ _ _ rfl (yq _) cw hS (ItemsOf.nil P) fun s' acc' c' hm hS' iR=>hR s' acc' c' hm hS' iR⟩
theorem qZ(W:WalksS prog w A.in1 I fp wr G n P St)(hT:∀i s,St i s->s.TypeIs (.ref I) "list_reverseiterator")(S:Addr)(cw:St 0 s)(t6:S ∉ fp)(hI:I∈fp)
  (hS:s.heap.get? S=some { cls:=.type "list",data:=.seq #[] })
  (hR:∀s' acc' c',Moved (S::wr) G s s'->s'.heap.get? S=some { cls:=.type "list",dict:=none,data:=.seq acc' c',slots:=#[] }->ItemsOf P acc' n->R (.ok (.ret .none)) s') (hn:n<=zp) :
  wpAny (model prog w) A.in1 (Builtin.«list.__init__» ⟨[.ref S,.ref I],[]⟩)
   (fun fin s'=>match fin with|.done f=>R (.ok f) s'|.again c'=>c'.quiet=true/\codeAny (model prog w) A c' R s') (fun e s'=>R (.error e) s') s:=by
 show wpAny _ A.in1 (do let old<-Builtin.List.listItems (.ref S);Builtin.List.listUpdate (.ref S) (fun _=>#[]);letGo old.toList.reverse;Builtin.List.listExtendWith (.ref S) (.ref I) .none) _ _ s;refine zz ?_;unfold Builtin.List.listItems;refine zz (wpAny_seqItems hS rfl (zq ?_));show wpAny _ A.in1 (updateSeq S (fun _=>#[]) >>= fun _=>letGo (#[]:Array Value).toList.reverse >>= fun _=>Builtin.List.listExtendWith (.ref S) (.ref I) .none) _ _ s;refine zz (wpAny_updateSeq hS rfl ?_);have OZ:=yv (Obj.mapSeq (fun _=>(#[]:Array Value))) hS rfl;have dv:∀b o,b≠S->s.heap.get? b=some o->(s.heap.update S (Obj.mapSeq (fun _=>(#[]:Array Value)))).get? b=some o :=
  fun b o hb e=>(zQ _ _ (Ne.symm hb)).trans e
 refine zz (wpAny_letGo ?_);refine BP W hT S .none _ (W.frame 0 s _ s.toks cw (zr _) fun b hb o e=>dv b o (fun h=>t6 (h▸hb)) e) t6 hI OZ (fun s' acc' c' hm hS' iR=>?_) hn;exact hR s' acc' c' (Moved.trans W.gtrans ((Moved.refl W.grefl).then_heap (zr _) fun b o hb e=>dv b o (fun h=>hb (h▸zR)) e) hm) hS' iR
theorem rm{l:Addr}{items:Array Value}{Q:Value->Shared->Prop}(hh:A.handled=none)(hit:s.heap.IsRevIter I l ((items.size:Int)-1))(hl:s.heap.IsList l items)(hsz:items.size<=zp)
  (hQ:∀h' tk c',(∀b o,b≠I->s.heap.get? b=some o->h'.get? b=some o)->h'.get? s.heap.objs.size=some { cls:=.type "list",dict:=none,data:=.seq items.reverse c',slots:=#[] }->Q (.ref s.heap.objs.size) { s with heap:=h',toks:=tk }) :
  wpAny (model prog w) A (call (.type "list") [.ref I]) Q E s:=by
 obtain⟨oi,PM,Vn,_⟩:=id hit;obtain⟨ol,tW,PZ,_⟩:=id hl;have hZ:l≠I:=fun z=>by
  rw[z,PM]at tW;cases tW;rw[Vn]at PZ;exact absurd PZ (by decide)
 have W:=(Walks.listRev (prog:=prog) (w:=w) (A:=A.in1.in1) hh I l hZ items).toS;have hfp:∀b∈[I,l],b<s.heap.objs.size:=fun b hb=>by
  rcases zg.mp hb with rfl|hb
  ·exact zn PM
  ·rw[zG.mp hb];exact zn tW
 have t6:s.heap.objs.size ∉ [I,l]:=fun hm=>yx _ (hfp _ hm);refine callType_codes (Q₁:=fun obj s₁=>obj=.ref s.heap.objs.size/\s₁={ s with heap:=s.heap.push { cls:=.type "list",data:=.seq #[] } }) F.called_list (F.typeCall_list_1 _) F.entry_list_init
  (code_list_new _ ⟨rfl,rfl⟩) fun obj s₁ h₁=>?_
 obtain⟨rfl,rfl⟩:=h₁;have hS:(s.heap.push { cls:=.type "list",data:=.seq #[] }).get? s.heap.objs.size=some { cls:=.type "list",data:=.seq #[] }:=zk _ rfl;have cw:(0:Nat)<=items.size/\(s.heap.push { cls:=.type "list",data:=.seq #[] }).IsRevIter I l ((items.size:Int)-1-((0:Nat):Int))/\(s.heap.push { cls:=.type "list",data:=.seq #[] }).IsList l items :=
  ⟨yq _,by rw[show ((items.size:Int)-1-((0:Nat):Int))=(items.size:Int)-1 by simp];exact hit.at fun o e=>zy _ e,hl.at fun o e=>zy _ e⟩
 refine⟨⟨_,hS,rfl⟩,F.args_list_init_2 _ _,qZ W (fun i s st=>st.2.1.typeIs) _ cw t6 (zR ..) hS (fun s' acc' c' hm hS' iR=>⟨rfl,?_⟩) hsz⟩;have ea:acc'=items.reverse:=by
  refine Array.ext_getElem? fun j=>?_;by_cases hj:j<items.size
  ·have hj':j<acc'.size:=by rw[iR.1];exact hj
   have:=iR.2 j _ (yQ hj')
   rw[yQ hj',Array.getElem?_reverse hj,this]
  ·rw[xw (by rw[iR.1];omega),xw (by rw[Array.size_reverse];omega)]
 subst ea;obtain⟨h',g',d',tk',os'⟩:=s';have e1:g'=s.gens:=hm.gens;have e2:d'=s.drawn:=hm.drawn;have e3:os'=s.os:=hm.os;subst e1 e2 e3;refine hQ h' tk' c' (fun b o hb e=>?_) hS';refine hm.heap b o (fun hx=>?_) (zy _ e);rcases zg.mp hx with z|z
 ·exact yx _ (z▸zn e)
 ·exact hb (zG.mp z)
end
section
variable {X:Cx}{pins:List (Addr×Obj)}{σ:St}{H:Hp}{s:Shared}{h':Heap}
theorem Gj{t':Nat}{p:Addr}{φ:Heap->Prop}(I:Inv X pins σ (upd H p (.ext φ)) s)(hp:H p=none)(hf:X.s₀.heap.objs.size<=p)(k:∀b o,b≠p->s.heap.get? b=some o->h'.get? b=some o) :
  Inv X pins σ H { s with heap:=h',toks:=t' }:=by
 have np:∀b u,H b=some u->b≠p:=fun b u e z=>by rw[z,hp]at e;cases e
 have ne:∀{b u},upd H p (.ext φ) b=some u->u≠.ext φ->b≠p:=fun {b u} e n z=>by
  rw[z,aT]at e;cases e;exact n rfl
 have nn:∀{b},upd H p (.ext φ) b=none->b≠p:=fun {b} e z=>by
  rw[z,aT]at e;cases e
 have hL:p≠X.env.locals:=fun z=>nn I.free z.symm;refine I.step (g':=s.gens) (d':=s.drawn) (ch:=[p]) (fun b hb=>?_) (fun b o _ _ hc e _=>k b o (fun z=>hc (by simp[z])) e) (fun b o _ _ hc e _=>⟨o.slots,k b o (fun z=>hc (by simp[z])) e⟩)
  (fun b o hc _ n=>by rw[aB (fun z=>hc (by simp[z]))]at n;exact n)
  (fun b o hc e=>⟨o,k b o (fun z=>hc (by simp[z])) e⟩) (fun b xs e=>by rw[aB (ne e (by intro z;cases z))]at e;exact e) (fun b o u e=>by rw[aB (ne e (by intro z;cases z))]at e;exact e)
  (fun b ps e=>⟨#[],by rw[aB (ne e (by intro z;cases z))]at e;rw[e];simp⟩) (fun m hm=>?_) (fun b u e=>?_) I.bare
 ·have e:b=p:=by simpa using hb
  subst e;exact⟨.inr hf,hL,fun x c e=>nn (I.cW x c e),fun q hq=>nn (I.pin q hq).2.1⟩
 ·obtain⟨o,es,ep,ho,r⟩:=hm
  exact⟨o,es,ep,k _ o (Ne.symm hL) ho,r⟩
 ·have hb:=np b u e
  refine(I.av b u (by rw[aB hb];exact e)).iH (fun c v hc q=>k c v ?_ q) ?_ ?_
  ·rcases hc with z|z
   ·rw[z];exact hb
   ·exact ne z (by intro z;cases z)
  ·exact fun c z=>by rw[aB (ne z (by intro z;cases z))]at z;exact z
  ·exact fun c xs z=>by rw[aB (ne z (by intro z;cases z))]at z;exact z
end
section
variable {X:Cx}
theorem aJ.Q5{K:Q_}{H:Hp}{p a:Addr}{ho:HO}{xs:List V}(hp:H p=none)(h:aJ K H a xs):aJ K (upd H p ho) a xs:=by
 rcases h with (h|⟨o,h⟩)|h
 ·exact .inl (.inl (by rw[aB (aP h hp)];exact h))
 ·exact .inl (.inr ⟨o,by rw[aB (aP h hp)];exact h⟩)
 ·exact .inr h
theorem rY:∀{xs ys:List V} {us ws:List Value},Vals xs us->Vals ys ws->Vals (xs++ys) (us++ws)
 |_,_,_,_,.nil,h=>h
 |_,_,_,_,.cons a r,h=>.cons a (rY r h)
theorem rX:∀{xs:List V} {us:List Value},Vals xs us->Vals xs.reverse us.reverse
 |_,_,.nil=>.nil
 |_,_,.cons a r=>by rw[yB,yB];exact rY (rX r) (.cons a .nil)
theorem sI{K:Q_}{ι:List Addr}{H:Hp}:∀{xs ys:List D} {us ws:List V},aC K ι H xs us->aC K ι H ys ws->aC K ι H (xs++ys) (us++ws)
 |_,_,_,_,.nil,h=>h
 |_,_,_,_,.cons a r,h=>.cons a (sI r h)
theorem sH{K:Q_}{ι:List Addr}{H:Hp}:∀{xs:List D} {us:List V},aC K ι H xs us->aC K ι H xs.reverse us.reverse
 |_,_,.nil=>.nil
 |_,_,.cons a r=>by rw[yB,yB];exact sI (sH r) (.cons a .nil)
noncomputable def AH(X:Cx)(p a:Addr)(n:Nat)(h:Heap):Prop:=X.s₀.heap.objs.size<=p/\h.IsRevIter p a ((n:Int)-1)
theorem rh:cD X (.type "reversed") (fun xs H Q=>∃a ys,xs=[.ref a]/\aJ X.K H a ys/\∀p,H p=none->Q (.ref p) (upd H p (.ext (AH X p a ys.length)))):=by
 intro pins s σ H xs us Q I rv h;obtain⟨a,ys,rfl,hq,q⟩:=h;obtain⟨u,rfl,ru⟩:=vals1 rv;cases ru;obtain⟨its,rel,pl,hz⟩:=I.list hq;have hl:its.length=ys.length:=rel.length.symm;refine call_reversed_list pl.isList ?_;have e:((its.toArray.size:Int)-1)=(ys.length:Int)-1:=by rw[zl,hl]
 rw[e];refine⟨.ref s.heap.objs.size,_,I.laid (t':=s.toks) (o:=.ext (AH X s.heap.objs.size a ys.length)) (fun b o e=>zy _ e) (zr _) ?_,rfl,q _ (I.av.fresh (zr _))⟩;exact⟨⟨I.sz,_,zk _ rfl,rfl,rfl⟩,⟨_,zk _ rfl⟩,fun h1 h2 ⟨z,o,e1,e2⟩ k=>⟨z,o,k o e1,e2⟩⟩
theorem uu(hc:X.calm=true):cD X (.type "list") (fun xs H Q=>∃p a ys H0,xs=[.ref p]/\H0 p=none/\H=upd H0 p (.ext (AH X p a ys.length))/\aJ X.K H0 a ys/\∀l,H0 l=none->Q (.ref l) (upd H0 l (.lst ys.reverse))):=by
 intro pins s σ H xs us Q I rv h;obtain⟨p,a,ys,H0,rfl,hp,rfl,hq,q⟩:=h;obtain⟨u,rfl,ru⟩:=vals1 rv;cases ru;obtain⟨its,rel,pl,hz⟩:=I.list (aJ.Q5 hp hq);have hl:its.length=ys.length:=rel.length.symm;obtain⟨⟨hf,hit⟩,_,_⟩:=I.av p _ aT;have e:((its.toArray.size:Int)-1)=(ys.length:Int)-1:=by rw[zl,hl]
 rw[<- e]at hit;refine rm (I.ok.hd hc) hit pl.isList (by rw[zl,hl];exact hz) fun h' tk c' kp eS=>?_;have I1:Inv X pins σ H0 { s with heap:=h',toks:=tk }:=Gj I hp hf kp;have fr:(upd H0 p (.ext (AH X p a ys.length))) s.heap.objs.size=none:=I.av.fresh (zr _);have hZ:s.heap.objs.size≠p:=fun z=>by rw[z,aT]at fr;cases fr
 rw[aB hZ]at fr;refine⟨.ref s.heap.objs.size,_,lG I1 fr (mS I (zr _)) (show bJ X.prog X.w _ h' _ (.lst ys.reverse) from ⟨by rw[wz];exact hz,its.reverse,c',rX rel,?_⟩),rfl,q _ fr⟩;rw[eS];simp
theorem C5{Γ:Ctx}{S:Sc}{f g:Str}{a:Expr}{p1 p2 p3 p4:Pos}{fa:DE}(C:aL Γ S X)(h:AI S f g=true)(hp:aU a=true)(ha:PE X a (LE X.K fa)) :
  PE X (.Call (.Name f p1) [.Call (.Name g p2) [a] [] p3] [] p4) (LE X.K (fun ρ=>do let x<-fa ρ;let ds<-km x;bu (.lst ds.reverse))):=by
 unfold AI at h;simp only[zx,beq_iff_eq]at h;obtain⟨⟨⟨⟨⟨⟨⟨h1,h2⟩,h3⟩,h4⟩,h5⟩,h6⟩,h7⟩,h8⟩:=h;subst h1 h2;obtain⟨o1,o2,o3⟩:=bh h3;obtain⟨q1,q2,q3⟩:=bh h4;have pr:=gY (p:=p2) (pos:=p3) rh (C.bA h6) (C.bo _ (az h8)) PyProof.Rows.boot_reversed (ay ha bq (aw hp)) q3 q1 (aw hp) rfl;refine PE.imp (gY (uu C.calm) (C.bA h5) (C.bo _ (az h7)) PyProof.Rows.boot_list (ay pr bq) o3 o1) fun σ H Q q=>?_;obtain⟨ι,ρ,M,d,M',S',R,e,k⟩:=q;obtain⟨x,M1,e1,ea⟩:=aa e;obtain⟨ds,M2,e2,eb⟩:=aa ea;refine⟨ι,ρ,M,x,M1,S',R,e1,fun v1 H1 ι1 r1 S1 X1=>?_⟩;have fact:M2=M1/\∃p vs,v1=.ref p/\aJ X.K H1 p vs/\aC X.K ι1 H1 ds vs:=by
  cases r1 with
  |fl t q=>obtain⟨rfl,rfl⟩:=af e2;exact⟨rfl,_,_,rfl,t.seq,q⟩
  |ob t =>
   obtain⟨g,rfl⟩:=bw e2;obtain⟨p,ws,g1,g2,g3,g4⟩:=aH S1 (.ob t) g;exact⟨rfl,p,ws,g1,aJ.of g3,g4⟩
  |_=>exact(ah e2).elim
 obtain⟨rfl,p,vs,rfl,hq,hr⟩:=fact;obtain⟨rfl,rfl⟩:=gH eb;refine⟨p,vs,rfl,hq,fun it hit=>⟨it,p,vs,H1,rfl,hit,rfl,hq,fun l hl=>?_⟩⟩;have X4:Ext X.K ι1 H1 (ι1++[l]) (upd H1 l (.lst vs.reverse)):=Ext.new hl;exact k _ _ _ (.ob (by rw[<- S1.len,zd (zr _),yN];rfl)) (S1.new hl ⟨vs.reverse,rfl,sH (hr.mono X4)⟩) (X1.trans X4)
end
theorem rev_eq{e a:Expr}{g:Str}{p q:Pos}(h:FD e=some (g,p,a,q)):e=.Call (.Name g p) [a] [] q:=by
 unfold FD at h;split at h
 ·cases h;rfl
 ·cases h
end L3
namespace L3
open PySem PySem.Spec PyProof.Rows L2
section
variable {X:Cx}
theorem EN:cD X (.type "int") (fun xs H Q=>∃b:Bool,xs=[.bl b]/\Q (.int (if b then 1 else 0)) H):=by
 intro pins s σ H xs us Q I rv h;obtain⟨b,rfl,q⟩:=h;obtain⟨u,rfl,ru⟩:=vals1 rv;cases ru;exact call_int_bool ⟨.int (if b then 1 else 0),H,I.tok _,⟨_,rfl⟩,q⟩
theorem DT{Γ:Ctx}{S:Sc}{f:Str}{a:Expr}{p1 p4:Pos}{fa:DE}(C:aL Γ S X)(h:(f==("int":Str)&&bM f&&S.bA f&&S.bo.contains f)=true)(hp:aU a=true)(ha:PE X a (LE X.K fa)) :
  PE X (.Call (.Name f p1) [a] [] p4) (LE X.K (fun ρ=>do let x<-fa ρ;let b<-lift (bz x);pure (.int (if b then 1 else 0)))):=by
 simp only[zx,beq_iff_eq]at h;obtain⟨⟨⟨h1,h2⟩,h3⟩,h4⟩:=h;subst h1;obtain⟨o1,o2,o3⟩:=bh h2;refine PE.imp (gY EN (C.bA h3) (C.bo _ (az h4)) PyProof.Rows.boot_int (ay ha bq (aw hp)) o3 o1 (aw hp) rfl) fun σ H Q q=>?_;obtain⟨ι,ρ,M,d,M',S',R,e,k⟩:=q;obtain⟨x,M1,e1,ea⟩:=aa e;obtain⟨b,M2,e2,eb⟩:=aa ea;obtain⟨hb,rfl⟩:=ba e2;obtain⟨rfl,rfl⟩:=af eb;refine⟨ι,ρ,M,x,_,S',R,e1,fun v1 H1 ι1 r1 S1 X1=>?_⟩;cases r1 with
 |bl c=>cases hb;exact⟨_,rfl,k _ H1 ι1 (.int _) S1 X1⟩
 |_=>cases hb
end
end L3
namespace L3
open PySem PySem.Spec PyProof.Rows L2
section
variable {Γ:Ctx}
theorem FV{S:Sc}{X:Cx}{sc:Scope}{x y:Str}{px py pt pz q pos:Pos}{kt:Nat}{elt a b:Expr}{i j:Nat}{fa fb fe:DE}(C:aL Γ S X)(hz:Ae S=true)(h:cX S sc [x,y]=true)(ha:PE X a (LE X.K fa))(hb:PE X b (LE X.K fb))(pa:aU a=true)(pb:aU b=true)
  (hte:∀X',aL Γ (S.comp sc [x,y]) X'->X'.K=X.K->PE X' elt (LE X'.K fe)) :
  PE X (.ListComp elt [⟨.Tuple [.Name x px,.Name y py] kt pt,.Call (.Name "zip" pz) [a,b] [] q,[],0⟩] sc pos) (LE X.K (fun ρ=>do
   let x<-fa ρ
   let y<-fb ρ
   let s<-mR x y
   need (s.ds.length<=zp)
   let ys<-dW s.c1 s.c2 fe ((ρ.set i none).set j none) s.ds
   bu (.lst ys))):=by
 intro pins s σ H Q I w;have CS:=lL C I.ok h;unfold Ae at hz;rw[zx]at hz;have s2:starEach [b] X.env=[(false,eval b X.env)]:=aw pb;exact pN C.calm CS (fun Ca s H fp=>og (X:=bj X sc (eu X.env.cells sc.names []) Ca ([x,y]++blank S.N [x,y]) s H fp) C.calm (fg (lx CS (i:=0) rfl _ _ _ _) (fg (lx CS (i:=1) rfl _ _ _ _) ma))) (L5 (C.bA hz.1) (C.bo _ (az hz.2)) (ay ha (ay hb bq s2) (aw pa)) (by rw[aw pa,s2]) s2)
  (fun _ _ _ _=>vp) (fun Ca s H fp=>hte _ (jX C h _ Ca s H fp) rfl) (fun _=>rfl) pins s σ H Q I (LE.compZ σ H Q w)
end
end L3
namespace L3
open PySem PySem.Spec PyProof.Rows L2
theorem DS{prog:Program}{w:World}{A:Around}{E:Value->Shared->Prop}{x:Value}{Tx:String}{tp:Addr}{n:Nat}{cs:List Value}{vs:List Bool}{s:Shared}{Q:Fin->Shared->Prop}
  (hx:s.TypeIs x Tx) (Im:s.heap.get? tp=some { cls:=.type "tuple",data:=.seq cs.toArray n }) (ha:AnswersAll (fun s=>s.TypeIs x Tx) x cs vs)
  (hq:∀tk',Q (.done (.ret (.bool (vs.any id)))) { s with toks:=tk' }):wpAny (model prog w) A (Builtin.«isinstance.nested» ⟨[x,.ref tp,rawInt 0],[]⟩) Q E s:=by
 have hs:=hx;obtain⟨h,g,d,t,os⟩:=s;have Vv:(⟨h,g,d,t,os⟩:Shared).TypeIs (.ref tp) "tuple":=⟨_,Im,rfl⟩;have f1:=F.isi_sub_tuple
 repeat (any_goals (first|assumption|wp_step))
 refine wpAny_arrayLoop ?_;simp only[yO,wy];refine isinstance_items (dep:=0) (fun _ tk h=>h.toks tk) cs vs _ _ ha hs fun tk'=>?_;cases hv:vs.any id with
 |true =>
  simp only[if_true]
  repeat (any_goals (first|assumption|wp_step))
  exact hv▸hq tk'
 |false =>
  simp only[yo,if_false]
  repeat (any_goals (first|assumption|wp_step))
  exact hv▸hq tk'
section
variable {X:Cx}{pins:List (Addr×Obj)}{σ:St}{H:Hp}{s:Shared}{ι:List Addr}{M:MH}
theorem aE(k:Ty):typeOf (.type (tyName k))=pure (.type "type"):=by
 cases k
 ·exact F.isi_meta_int
 ·exact F.isi_meta_str
 ·exact F.isi_meta_bool
 ·exact F.isi_meta_list
 ·exact F.isi_meta_tuple
 ·exact F.isi_meta_dict
theorem Cf(I:Inv X pins σ H s)(S:aK X.K ι M H){dx:D}{x:V}{u:Value}(r:Rep X.K ι H dx x)(ru:RelV x u){k0:Ty}{b0:Bool}{M0:MH}(e0:c9 k0 dx M=some (.ok b0,M0)) :
  ∃Tx,s.TypeIs u Tx/\∀(k:Ty) (b:Bool) (M':MH),c9 k dx M=some (.ok b,M')->M'=M/\Answers (fun s=>s.TypeIs u Tx) u (.type (tyName k)) b:=by
 have lst:∀{a:Addr} {vs:List V},aJ X.K H a vs->s.TypeIs (.ref a) "list"/\∀k:Ty,Answers (fun s=>s.TypeIs (.ref a) "list") (.ref a) (.type (tyName k)) (k==.list):=fun {a vs} hq=>by
  obtain⟨its,_,pl,_⟩:=I.list hq;obtain⟨o,ho,hc,_⟩:=pl.isList;refine⟨⟨o,ho,hc⟩,fun k=>?_⟩;cases k
  ·exact .of_false_list (by decide +kernel) (aE _) F.sub_list_int
  ·exact .of_false_list (by decide +kernel) (aE _) F.sub_list_str
  ·exact .of_false_list (by decide +kernel) (aE _) F.sub_list_bool
  ·exact .of_true (aE .list) F.sub_list_list
  ·exact .of_false_list (by decide +kernel) (aE _) F.sub_list_tuple
  ·exact .of_false_list (by decide +kernel) (aE _) F.sub_list_dict
 cases r with
 |non =>
  cases ru;refine⟨"NoneType",rfl,fun k b M' e=>?_⟩;obtain⟨rfl,rfl⟩:=af e;refine⟨rfl,?_⟩;cases k
  ·exact .of_false_none (by decide +kernel) (aE _) F.sub_NoneType_int
  ·exact .of_false_none (by decide +kernel) (aE _) F.sub_NoneType_str
  ·exact .of_false_none (by decide +kernel) (aE _) F.sub_NoneType_bool
  ·exact .of_false_none (by decide +kernel) (aE _) F.sub_NoneType_list
  ·exact .of_false_none (by decide +kernel) (aE _) F.sub_NoneType_tuple
  ·exact .of_false_none (by decide +kernel) (aE _) F.sub_NoneType_dict
 |bl c =>
  cases ru;refine⟨"bool",rfl,fun k b M' e=>?_⟩;obtain⟨rfl,rfl⟩:=af e;refine⟨rfl,?_⟩;cases k
  ·exact .of_true (aE .int) F.sub_bool_int
  ·exact .of_false_bool (by decide +kernel) (aE _) F.sub_bool_str
  ·exact .of_true (aE .bool) F.sub_bool_bool
  ·exact .of_false_bool (by decide +kernel) (aE _) F.sub_bool_list
  ·exact .of_false_bool (by decide +kernel) (aE _) F.sub_bool_tuple
  ·exact .of_false_bool (by decide +kernel) (aE _) F.sub_bool_dict
 |int c =>
  obtain⟨t,rfl⟩:=ru;refine⟨"int",rfl,fun k b M' e=>?_⟩;obtain⟨rfl,rfl⟩:=af e;refine⟨rfl,?_⟩;cases k
  ·exact .of_true (aE .int) F.sub_int_int
  ·exact .of_false_int (by decide +kernel) (aE _) F.sub_int_str
  ·exact .of_false_int (by decide +kernel) (aE _) F.sub_int_bool
  ·exact .of_false_int (by decide +kernel) (aE _) F.sub_int_list
  ·exact .of_false_int (by decide +kernel) (aE _) F.sub_int_tuple
  ·exact .of_false_int (by decide +kernel) (aE _) F.sub_int_dict
 |str c =>
  obtain⟨t,rfl⟩:=ru;refine⟨"str",rfl,fun k b M' e=>?_⟩;obtain⟨rfl,rfl⟩:=af e;refine⟨rfl,?_⟩;cases k
  ·exact .of_false_str (by decide +kernel) (aE _) F.sub_str_int
  ·exact .of_true (aE .str) F.sub_str_str
  ·exact .of_false_str (by decide +kernel) (aE _) F.sub_str_bool
  ·exact .of_false_str (by decide +kernel) (aE _) F.sub_str_list
  ·exact .of_false_str (by decide +kernel) (aE _) F.sub_str_tuple
  ·exact .of_false_str (by decide +kernel) (aE _) F.sub_str_dict
 |tup t q =>
  cases ru;obtain⟨its,_,⟨o,ho,hc,_⟩,_⟩:=I.tuple (bT t);refine⟨"tuple",⟨o,ho,hc⟩,fun k b M' e=>?_⟩;obtain⟨rfl,rfl⟩:=af e;refine⟨rfl,?_⟩;cases k
  ·exact .of_false_tuple (by decide +kernel) (aE _) F.sub_tuple_int
  ·exact .of_false_tuple (by decide +kernel) (aE _) F.sub_tuple_str
  ·exact .of_false_tuple (by decide +kernel) (aE _) F.sub_tuple_bool
  ·exact .of_false_tuple (by decide +kernel) (aE _) F.sub_tuple_list
  ·exact .of_true (aE .tuple) F.sub_tuple_tuple
  ·exact .of_false_tuple (by decide +kernel) (aE _) F.sub_tuple_dict
 |fl t q =>
  cases ru;refine⟨"list",(lst t.seq).1,fun k b M' e=>?_⟩;obtain⟨rfl,rfl⟩:=af e;exact⟨rfl,(lst t.seq).2 k⟩
 |@ob _ a t =>
  cases ru;have VP:=aa e0;clear e0;obtain⟨o,_,e1,e0⟩:=VP;have VO:=dY e1;clear e1;obtain⟨g,rfl⟩:=VO;cases o with
  |lst ds =>
   obtain⟨p,ws,g1,hi,h3,h4⟩:=aH S (.ob t) g;cases g1;refine⟨"list",(lst (aJ.of h3)).1,fun k b M' e=>?_⟩;obtain⟨o2,_,e1,e⟩:=aa e;obtain⟨g',rfl⟩:=dY e1;rw[g]at g';cases g';obtain⟨rfl,rfl⟩:=af e;exact⟨rfl,(lst (aJ.of h3)).2 k⟩
  |ins _ _=>exact(ah e0).elim
  |aY kvs =>
   obtain⟨p,ws,g1,hi,h3,h4⟩:=c8 S (.ob t) g;cases g1;have hT:s.TypeIs (.ref a) "dict":=(jJ (X:=X) I (x:=.ref a) (v:=.ref a) rfl (.inr (.inr (.inl ⟨rfl,.inl ⟨ws,h3⟩⟩)))).1;refine⟨"dict",hT,fun k b M' e=>?_⟩;obtain⟨o2,_,e1,e⟩:=aa e;obtain⟨g',rfl⟩:=dY e1;rw[g]at g';cases g';obtain⟨rfl,rfl⟩:=af e;refine⟨rfl,?_⟩;cases k
   ·exact .of_false_dict (by decide +kernel) (aE _) F.sub_dict_int
   ·exact .of_false_dict (by decide +kernel) (aE _) F.sub_dict_str
   ·exact .of_false_dict (by decide +kernel) (aE _) F.sub_dict_bool
   ·exact .of_false_dict (by decide +kernel) (aE _) F.sub_dict_list
   ·exact .of_false_dict (by decide +kernel) (aE _) F.sub_dict_tuple
   ·exact .of_true (aE .dict) F.sub_dict_dict
noncomputable def Jh(K:Q_)(k1 k2:Ty):List V->Hp->VK->Prop:=fun xs H Q=>∃ι M M1 M2 dx x b1 b2 p,xs=[x,.ref p]/\H p=some (.tup [.ty (tyName k1),.ty (tyName k2)])/\aK K ι M H/\Rep K ι H dx x/\c9 k1 dx M=some (.ok b1,M1)/\c9 k2 dx M1=some (.ok b2,M2)/\(M1=M->M2=M->Q (.bl (b1||b2)) H)
theorem EM(k1 k2:Ty):cD X (.builtin "isinstance") (Jh X.K k1 k2):=by
 intro pins s σ H xs us Q I rv h;obtain⟨ι,M,M1,M2,dx,x,b1,b2,p,rfl,hp,S,r,e1,e2,q⟩:=h;obtain⟨u,w',rfl,ru,rw'⟩:=vals2 rv;cases rw';obtain⟨Tx,hT,an⟩:=Cf I S r ru e1;obtain⟨rfl,a1⟩:=an k1 b1 M1 e1;obtain⟨rfl,a2⟩:=an k2 b2 M2 e2;obtain⟨_,its,rt,⟨o,ho,hc,n,hd⟩,hs⟩:=I.av p _ hp;obtain⟨kM,gu⟩:=hs o ho;obtain⟨c1,c2,e3,r1,r2⟩:=vals2 rt;subst e3;cases r1;cases r2;obtain⟨c,VS,dat,sl⟩:=o;simp only at hc hd kM gu;subst hc hd kM gu;refine call_isinstance (S:=fun _ R s=>s.TypeIs u Tx/\s.heap.get? p=some { cls:=.type "tuple",data:=.seq #[.type (tyName k1),.type (tyName k2)] n }/\∀tk,R (.ok (.ret (.bool ([b1,b2].any id)))) { s with toks:=tk })
  (fun _ _ _ _ _ hs=>isinstance_outer (DS (cs:=[.type (tyName k1),.type (tyName k2)]) (vs:=[b1,b2]) hs.1 hs.2.1 ⟨a1,a2,trivial⟩ hs.2.2) (Shared.TypeIs.not_mainsLoader hs.1)) ⟨hT,ho,fun tk=>?_⟩
 have eb:[b1,b2].any id=(b1||b2):=by cases b1 <;> cases b2 <;> rfl
 rw[eb];exact⟨.bl _,H,I.tok _,rfl,q rfl rfl⟩
theorem LE.isI2{k1 k2:Ty}{fa:DE}(σ:St)(H:Hp)(Q:VK)(h:LE X.K (fun ρ=>do let x<-fa ρ;let k<-c9 k1 x;let l<-c9 k2 x;pure (.bl (k||l))) σ H Q):u6 (Jh X.K k1 k2) (cM (LE X.K fa) (cM (Fj (cM (tC (.ty (tyName k1))) (cM (tC (.ty (tyName k2))) gC))) gC)) σ H Q:=by
 obtain⟨ι,ρ,M,d,M',S,R,e,q⟩:=h;have e0:=aa e;clear e;obtain⟨x,M1,e1,e⟩:=e0;have e0:=aa e;clear e;obtain⟨b1,M2,e2,e⟩:=e0;have e0:=aa e;clear e;obtain⟨b2,M3,e3,e⟩:=e0;have e0:=af e;clear e;obtain⟨rfl,rfl⟩:=e0;refine⟨ι,ρ,M,x,M1,S,R,e1,fun v H1 ι1 r1 S1 X1=>⟨by show 2<=zp;decide,fun p hp=>?_⟩⟩;exact⟨ι1,M1,M2,_,x,v,b1,b2,p,rfl,aT,S1.dn hp,r1.mono (Ext.dn hp),e2,e3,fun z1 z2=>by subst z1 z2;exact q _ _ ι1 (.bl _) (S1.dn hp) (X1.trans (Ext.dn hp))⟩
theorem BD{Γ:Ctx}{S:Sc}{f u1 u2:Str}{k1 k2:Ty}{a:Expr}{p1 p2 p3 p4 p5:Pos}{kt:Nat}{fa:DE}(C:aL Γ S X)(hs:i6 S f u1=true)(gu:i6 S f u2=true)(Vd:kY u1=some k1)(Vc:kY u2=some k2)(ha:PE X a (LE X.K fa))(hp:aU a=true) :
  PE X (.Call (.Name f p1) [a,.Tuple [.Name u1 p2,.Name u2 p3] kt p4] [] p5) (LE X.K (fun ρ=>do let x<-fa ρ;let k<-c9 k1 x;let l<-c9 k2 x;pure (.bl (k||l)))):=by
 unfold i6 at hs gu;simp only[zx,beq_iff_eq]at hs gu;obtain⟨⟨⟨⟨⟨⟨h1,h2⟩,h3⟩,h4⟩,h5⟩,h6⟩,h7⟩:=hs;obtain⟨⟨⟨_,g5⟩,g6⟩,g7⟩:=gu;subst h1;obtain⟨o1,o2,o3⟩:=bh h2;obtain⟨q1,q2,q3⟩:=bh h5;obtain⟨w1,w2,w3⟩:=bh g5;have TX:PE X (.Name u1 p2) (tC (.ty (tyName k1))):=me (C.bA h6) (C.bo _ (az h7)) (pA Vd) rfl q3 q1;have TV:PE X (.Name u2 p3) (tC (.ty (tyName k2))):=me (C.bA g6) (C.bo _ (az g7)) (pA Vc) rfl w3 w1;exact PE.imp (dH (EM k1 k2) (C.bA h3) (C.bo _ (az h4)) G_ (ay ha (ay (sZ (ay TX (ay TV bq))) bq) (aw hp)) o3 o1 (aw hp) rfl) LE.isI2
end
end L3
namespace L3
open PySem PySem.Spec PyProof.Rows L2
section
variable {Γ:Ctx}{K:Q_}{X:Cx}
theorem JF{e:Expr}{x:Str}(h:Fs e=some x):∃k p,e=.Constant (.str x) k p:=by
 cases e with
 |Constant c k p =>
  replace h:Lj c=some x:=h;cases c with
  |str y=>cases h;exact⟨k,p,rfl⟩
  |_=>cases h
 |_=>cases h
theorem LE.weak{f:DE}{σ:St}{H:Hp}{Q R:VK}(h:LE K f σ H Q)(k:∀v H,Q v H->R v H):LE K f σ H R:=by
 obtain⟨ι,ρ,M,d,M',S,R',e,q⟩:=h;exact⟨ι,ρ,M,d,M',S,R',e,fun v H' ι' r S' X'=>k _ _ (q v H' ι' r S' X')⟩
theorem oq{r:Expr->Option IE}(hr:∀e i,r e=some i->PE X e (LE X.K (ae Γ i))){pos:Pos}:∀{ks:List (Option Expr)} {vs:List Expr} {xs:List Str} {es:cH},ou r ks vs=some (xs,es) ->
  ks.all (·.isSome)=true/\ks.length=vs.length/\∃gW,E3 X pos ks vs gW/\∀σ H (Q:List (V×V)->Hp->Prop),LA X.K (aS Γ es) σ H (fun us H'=>xs.length=us.length->Q ((xs.map V.str).zip us) H')->k9 gW σ H Q
 |[],[],xs,es,h=>by
  cases h;refine⟨rfl,rfl,[],JY,fun σ H Q h=>?_⟩
  have:=LA.nil σ H _ h
  exact this rfl
 |[],_::_,_,_,h=>by cases h
 |_::_,[],_,_,h=>by cases h
 |k::ks,v::vs,xs,es,h=>by
  cases k with
  |none=>cases h
  |some k =>
   replace h:(do let x<-Fs k;let e<-r v;let p<-ou r ks vs;some (x::p.1,cH.cons e p.2))=some (xs,es):=h;obtain⟨x,h1,h⟩:=ai h;obtain⟨e,h2,h⟩:=ai h;obtain⟨p,h3,h⟩:=ai h;cases h;obtain⟨kk,kp,rfl⟩:=JF h1;obtain⟨g1,g2,gW,g3,g4⟩:=oq hr (pos:=pos) (xs:=p.1) (es:=p.2) h3;refine⟨by rw[zK,g1];rfl,by rw[zi,zi,g2],_,FN fJ (hr _ _ h2) g3,fun σ H Q h=>?_⟩
   have:=LA.cons σ H _ h
   show LE X.K (ae Γ e) σ H _;refine LE.weak this fun y H2 q=>g4 σ H2 _ ?_;obtain⟨ι,ρ,M,d,M',S,R',e,q⟩:=q;exact⟨ι,ρ,M,d,M',S,R',e,fun v H' ι' r S' X' hl=>q v H' ι' r S' X' (by rw[zi,zi,hl])⟩
theorem oa{ι:List Addr}{H:Hp}:∀{r:List (Ky×D)} {r':List (Key×V)} {kvs:List (Ky×D)} {vs:List (Key×V)},KR K ι H r r'->KR K ι H kvs vs->KR K ι H (iP kvs r) (hV vs r')
 |[],_,_,_,.nil,h=>h
 | (k,v)::r,(k',u)::r',kvs,vs,.cons h1 t,h=>by
  obtain⟨e,rv⟩:=h1;simp only at e rv;subst e;show KR K ι H (iP (iy kvs k v) r) (hV (putK vs k u) r');exact oa t (h.put k rv)
theorem Cw{ι:List Addr}{H:Hp}:∀{ks:List Str} {ds:List D} {vs:List V},aC K ι H ds vs->KR K ι H ((ks.map Sum.inr).zip ds) ((ks.map Sum.inr).zip vs)
 |[],_,_,_=>.nil
 |_::_,_,_,.nil=>.nil
 |k::ks,_,_,.cons r t=>.cons ⟨rfl,r⟩ (Cw t)
theorem Cv:∀(ks:List Str) (vs:List V),(ks.map V.str).zip vs=((ks.map (Sum.inr:Str->Key)).zip vs).map fun kv=>(kV kv.1,kv.2)
 |[],_=>rfl
 |_::_,[]=>rfl
 |k::ks,v::vs=>by
  rw[zH,zH,yV,yV,zH,Cv ks vs];rfl
theorem LE.Ry{fa:Ev->Mo (List D)}{ks:List Str}{gW:List (TE×TE)}(ht:∀σ H (Q:List (V×V)->Hp->Prop),LA K fa σ H (fun us H'=>ks.length=us.length->Q ((ks.map V.str).zip us) H')->k9 gW σ H Q)(σ:St)(H:Hp)(Q:VK)
  (h:LE K (fun ρ=>do let o<-bu (.aY []);let xs<-fa ρ;oP ks o xs) σ H Q):Hu gW σ H Q:=by
 obtain⟨ι,ρ,M,d,M',S,R,e,k⟩:=h;intro p hp;have e0:=aa e;clear e;obtain⟨o,M1,e1,e⟩:=e0;have aD:=gH e1;clear e1;obtain⟨rfl,rfl⟩:=aD;have e0:=aa e;clear e;obtain⟨xs,M2,e2,e⟩:=e0;have S1:aK K (ι++[p]) (M++[.aY []]) (upd H p (.dK [])):=S.new hp ⟨[],rfl,.nil⟩;have X1:Ext K ι H (ι++[p]) (upd H p (.dK [])):=Ext.new hp;have Vf:(ι++[p])[M.length]?=some p:=by rw[<- S.len,zd (zr _),yN];rfl
 refine ht σ _ _ ⟨ι++[p],ρ,_,xs,M2,S1,R.mono X1,e2,fun us H2 ι2 r2 S2 X2 hl=>?_⟩;replace e:(do let kvs<-getD M.length;need (kvs.isEmpty=true/\ks.length=xs.length/\ks.length<=15);du M.length (.aY (iP [] ((ks.map Sum.inr).zip xs)));pure (D.ob M.length)) M2=some (.ok d,M'):=e;have e0:=aa e;clear e;obtain⟨kvs,_,e3,e⟩:=e0;have aZ:=p0 e3;clear e3;obtain⟨g,rfl⟩:=aZ;have e0:=aa e;clear e;obtain⟨_,_,e3,e⟩:=e0;have aZ:=aG e3;clear e3;obtain⟨⟨n1,n2,n3⟩,rfl⟩:=aZ;have e0:=aa e;clear e;obtain⟨_,_,e3,e⟩:=e0;have aZ:=jM e3;clear e3;obtain⟨_,rfl⟩:=aZ;have e0:=af e;clear e;obtain⟨rfl,rfl⟩:=e0;have ek:kvs=[]:=yc.mp n1;subst ek;have IB:=X2.pre _ _ Vf;obtain⟨a,ws,h1,h2,h3,h4⟩:=c8 S2 (.ob IB) g;cases h1;cases h4;refine⟨h3,(ks.map Sum.inr).zip us,Cv _ _,?_,?_⟩
 ·rw[yI,zu,hl,wd,<- hl]
  exact n3
 ·have X3:Ext K ι2 H2 ι2 (upd H2 p (.dK (hV [] ((ks.map Sum.inr).zip us)))):=Ext.write h3 (Bu _)
  exact k _ _ ι2 (.ob IB) (S2.put IB ⟨_,rfl,oa (Cw (r2.mono X3)) .nil⟩) ((X1.trans X2).trans X3)
end
end L3
namespace L3
open PySem PySem.Spec PyProof.Rows L2
theorem lU:Slot "set_iterator" "__next__" "set_iterator.__next__" :=
 Slot.of (owner:="set_iterator") (n:="__next__") (by rw[typeLookup_type,builtinLookup_eq_fast];kernel_rfl) (by decide +kernel) (by decide +kernel) (by decide +kernel) (by first|exact .inl (by decide +kernel)|exact .inr (by decide +kernel)) (by rw[isSubtype_type];kernel_rfl)
theorem GQ:entryFor table "set_iterator.__next__" = some Builtin.«set_iterator.__next__»:=entryFor_of_tree (by kernel_rfl)
theorem KP(a:Value):argsOk "set_iterator.__next__" ⟨[a],[]⟩:=by unfold argsOk;kernel_rfl
theorem Ez:entryFor table "set.__iter__" = some Builtin.«frozenset.__iter__»:=entryFor_alias (id':="frozenset.__iter__") (by kernel_rfl) (by decide +kernel) (by decide +kernel) (by kernel_rfl)
theorem sx:Slot "set_iterator" "__iter__" "set_iterator.__iter__" :=
 Slot.of (owner:="set_iterator") (n:="__iter__") (by rw[typeLookup_type,builtinLookup_eq_fast];kernel_rfl) (by decide +kernel) (by decide +kernel) (by decide +kernel) (by first|exact .inl (by decide +kernel)|exact .inr (by decide +kernel)) (by rw[isSubtype_type];kernel_rfl)
theorem EA:entryFor table "set_iterator.__iter__" = some Builtin.«dict_keyiterator.__iter__»:=entryFor_alias (id':="dict_keyiterator.__iter__") (by kernel_rfl) (by decide +kernel) (by decide +kernel) (by kernel_rfl)
theorem G8(a:Value):argsOk "set_iterator.__iter__" ⟨[a],[]⟩:=by unfold argsOk;kernel_rfl
section
variable {prog:Program}{w:World}{A:Around}{E:Value->Shared->Prop}{s:Shared}{I a:Addr}{so:Obj}{ep:Nat}{t:SetTable}
structure iq (h:Heap) (a:Addr) (so:Obj) (ep:Nat) (t:SetTable):Prop where
 g:h.get? a=some so
 x:so.ExactSet
 d:so.data=.set #[] ep t
 f:t.fits 0=true
theorem iq.at{h h':Heap}(S:iq h a so ep t)(k:∀o,h.get? a=some o->h'.get? a=some o):iq h' a so ep t:=⟨k _ S.g,S.x,S.d,S.f⟩
theorem iq.st{Q:(Array (Int×Value)×Nat×SetTable)->Shared->Prop}(S:iq s.heap a so ep t)(h:Q (#[],ep,t) s):wpAny (model prog w) A (setState a) Q E s:=wpAny_setState_of S.g S.d S.f h
theorem rT{Q:Bool->Shared->Prop}(q:Q (w.params.followText "set-order") s):wpAny (model prog w) A setsByText Q E s:=by
 unfold setsByText;exact zz (wpAny_askSetting (zq q))
noncomputable def E2(h:Heap)(I a:Addr)(ep:Nat):Prop:=∃o,h.get? I=some o/\o.cls=.type "set_iterator"/\o.data=.fields #[.int 0 0,.int 0 0,.ref a,.int 0 0,.int ep 0]
theorem E2.ty(x:E2 s.heap I a ep):s.TypeIs (.ref I) "set_iterator":=let ⟨o,h,c,_⟩:=x;⟨o,h,c⟩
theorem Kt{Q:Option (Value×Nat)->Shared->Prop}(S:iq s.heap a so ep t)(q:Q none s):wpAny (model prog w) A (setNext a 0 0 ep) Q E s:=by
 unfold setNext;refine zz (S.st ?_);dsimp only;refine zz (rT ?_);cases hb:w.params.followText "set-order" with
 |true =>
  rw[if_pos rfl,if_neg (by simp)];refine zz ?_;unfold setWalk;refine zz (S.st ?_);dsimp only;refine zz (rT ?_);rw[hb,if_pos rfl];exact zz (wpAny_askSetting (zq (zq q)))
 |false =>
  rw[if_neg zt];split
  ·rename_i z
   have z:(!t.plain&&decide (0 > 1))=true:=z;simp at z
  ·refine zz (m:=if (!t.led&&!(#[]:Array (Int×Value)).isEmpty)=true then unsupported "set:maker-not-led" else pure ()) ?_
   rw[if_neg (by simp)];exact zq (zq (by simpa using q))
theorem NH{Q:Option Value->Shared->Prop}(hh:A.handled=none)(st:E2 s.heap I a ep)(S:iq s.heap a so ep t)(q:∀h',Heap.ExtBut I s.heap h'->Q none { s with heap:=h' }):wpAny (model prog w) A (pyNext (.ref I)) Q E s:=by
 obtain⟨o,k1,k2,k3⟩:=id st;unfold pyNext;refine zz (wpAny_attempt (wpAny_callSpecial?_slot (name:=Str.ofString "__next__") st.ty lU (wpAny_call_entry lU st.ty GQ ?_ (KP _))));unfold Builtin.«set_iterator.__next__»;refine zz (zq ?_);refine zz (wpAny_fieldsOf k1 k3 ?_);dsimp only;refine zz ?_;unfold setEntries;refine zz (S.st (zq ?_));rw[if_neg (by simp)];refine zz (Kt S ?_);refine zz (wpAny_setField k1 k3 (by simp) ?_);refine zz ?_;simp only[newExc,newTuple];refine zz (wpAny_newObj_type (zz (m:=firstArgMember _ _) (wpAny_of_eq (a:=Value.none) (by first|rfl|(simp only[firstArgMember];rfl)) ?_)) (by size_fits))
 refine wpAny_newObj_type ?_ (by size_fits);simp only[raiseNew];refine zz (wpAny_handled ?_);rw[show A.in1.handled=none from hh];refine zz (zq (wpAny_throw ?_));exact zz (wpAny_isInstance (T:="StopIteration") (b:=true) ⟨_,zk _ rfl,rfl⟩ isSubtype_stop (zq (q _ (((Heap.SameBut.update ..).extBut.push _).push _))))
theorem Ks{Q:Value->Shared->Prop}(st:E2 s.heap I a ep)(q:Q (.ref I) s):wpAny (model prog w) A (pyIter (.ref I)) Q E s:=by
 refine wpAny_pyIter_slot st.ty sx (wpAny_call_entry sx st.ty EA ?_ (G8 _));show wpAny _ _ (ret (.ref I)) _ _ s;exact zq ⟨_,rfl,"set_iterator",_,st.ty,lU.lookup,q⟩
theorem Kr(hh:A.handled=none)(nI:a≠I):Walks prog w A I [I,a] [I] 0 (fun _ _=>False) (fun _ h=>E2 h I a ep/\iq h a so ep t) where
 sub:=fun b hb=>zg.mpr (.inl (zG.mp hb))
 frame:=fun i h h' st k=>⟨let ⟨o,e,r⟩:=st.1;⟨o,k I (by simp) o e,r⟩,st.2.at fun o e=>k a (by simp) o e⟩
 item:=fun i s Q E hi _ _=>absurd hi (Nat.not_lt_zero _)
 done:=fun s Q E st q=>NH hh st.1 st.2 fun h' eb=>q h' s.toks fun b o hb e=>eb b o (by simpa using hb) e
 self:=fun i s Q E st q=>Ks st.1 q
theorem Ku{Q:Value->Shared->Prop}(S:iq s.heap a so ep t)
  (q:Q (.ref s.heap.objs.size) { s with heap:=s.heap.push { cls:=.type "set_iterator",data:=.fields #[.int 0 0,.int 0 0,.ref a,.int 0 0,.int ep 0] } }):wpAny (model prog w) A (pyIter (.ref a)) Q E s:=by
 have ty:s.TypeIs (.ref a) "set":=⟨so,S.g,S.x.1⟩;refine wpAny_pyIter_slot ty PySem.F.slot_set_iter (wpAny_call_entry PySem.F.slot_set_iter ty Ez ?_ (PySem.F.args_set_iter_1 _));unfold Builtin.«frozenset.__iter__»;refine zz (zq ?_);refine zz (zz ?_);unfold setEntries;refine zz (S.st (zq (zq ?_)));refine zz ?_;unfold setDrawn;refine zz (S.st ?_);dsimp only;refine zz (rT (zq ?_));have hc:(!w.params.followText "set-order"&&(!t.plain&&decide ((0:Nat) > 1)))=false:=by simp
 show wpAny _ _ (if (!w.params.followText "set-order"&&(!t.plain&&decide ((0:Nat) > 1)))=true then _ else _) _ _ _;rw[hc,if_neg zt];refine zz (zq ?_);refine zz (wpAny_setEpoch_of S.g S.d S.f ?_);exact zz (wpAny_newObj_type (zq ⟨_,rfl,"set_iterator",_,⟨_,zk _ rfl,rfl⟩,lU.lookup,q⟩))
theorem Kv{Q:Bool->Shared->Prop}(ty:s.TypeIs (.ref a) "set")(q:Q false s):wpAny (model prog w) A (Builtin.List.listLengthHint (.ref a)) Q E s:=by
 unfold Builtin.List.listLengthHint;refine zz (wpAny_specialOf ty PySem.F.slot_set_len.lookup ?_);generalize vR:("set.__len__":String)=Ic
 wp_delta
 rw[show splitId Ic=some ("set","__len__") from by subst vR;decide +kernel];subst vR;refine zz (wpAny_isInstance (T:="set") (b:=true) ty (by rw[isSubtype_type];kernel_rfl) ?_);refine wpAny_ite_split (fun z=>absurd z (by decide)) (fun _=>wpAny_ite_split (fun _=>?_) (fun z=>absurd (by decide +kernel) z));exact zz (wpAny_typeOf ty (zq q))
theorem NG:Y6 prog w "set" a a 0 (fun _ _=>False) (fun h=>iq h a so ep t) where
 type:=fun _ S=>⟨so,S.g,S.x.1⟩
 there:=fun _ S=>⟨zn S.g,zn S.g⟩
 keep:=fun _ _ S k=>S.at fun o e=>k a (.inl rfl) o e
 notList:=by decide
 notTuple:=by decide
 hint:=fun _ _ _ _ S q=>Kv ⟨so,S.g,S.x.1⟩ q
 iter:=fun _ _ hh S=>⟨_,_,fun _ _ q=>Ku S q,Kr hh (zA (zn S.g)),⟨_,zk _ rfl,rfl,rfl⟩,S.at fun o e=>zy _ e⟩
end
section
variable {X:Cx}
theorem mD{T:String}{a d:Addr}{P:Nat->Value->Prop}{OK:Heap->Prop}{pins:List (Addr×Obj)}{σ:St}{H:Hp}{s:Shared}{Q:VK}(K:Y6 X.prog X.w T a d 0 P OK)(hc:X.calm=true)(I:Inv X pins σ H s)(ok:OK s.heap)(q:∀p,H p=none->Q (.ref p) (upd H p (.lst []))) :
  wpAny (model X.prog X.w) X.A (call (.builtin "sorted") [.ref a]) (EP X pins σ Q) X.xe s:=by
 refine Calls.call_function_entry kind_sorted plain_sorted entry_sorted (args_sorted1 _) ?_;unfold Builtin.«sorted»;refine zz (m:=checkCount "sorted" 1 1 _) (zq ?_);refine zz (PySem.W.kdu_collect (A:=X.A.in1) K (I.ok.hd hc) ok (by decide) fun h' tk acc kk iR=>?_);have ha:acc.toList=[]:=by
  have:=iR.1
  simpa using this
 rw[ha];have I1:Inv X pins σ H { s with heap:=h',toks:=tk }:=I.kept (t':=tk) kk;refine zz (wpAny_newList ?_ (by decide));have DZ:(h'.push (seqObj "list" ([]:List Value).toArray 0)).get? h'.objs.size=some (seqObj "list" ([]:List Value).toArray 0):=zk _ rfl;refine zz (wpAny_holding (wpAny_call_entry slot_list_sort ⟨_,DZ,rfl⟩ entry_list_sort (list_sort_tree (ns:=[]) DZ .nil (by decide) fun out ns' a1 a2 a3=>⟨_,rfl,?_⟩) (args_list_sort _)));refine zq ⟨_,rfl,?_⟩;have hn:ns'=[]:=xN.mp (by simpa using a2.length_eq);subst hn;have ho:out.toList=[]:=by cases h:out.toList with
  |nil=>rfl
  |cons x r=>rw[h]at a1;cases a1
 have fr:H h'.objs.size=none:=I1.av.fresh (zr _);refine⟨.ref h'.objs.size,upd H h'.objs.size (.lst []),?_,rfl,q _ fr⟩;obtain⟨c1,h1⟩:=sortedHeap_at (out:=out) DZ;refine I1.laid (t':=tk) (fun b o e=>?_) (zr _) ⟨by decide,[],c1,.nil,?_⟩
 ·have hb:b<h'.objs.size:=zn e
  show (sortedHeap (h'.push (seqObj "list" ([]:List Value).toArray 0)) h'.objs.size [] out).get? b=some o;rw[sortedHeap_old (zA hb) (by rw[zX];exact xF hb)];exact zy _ e
 ·obtain rfl:out=#[]:=xM.mp ho
  exact h1
theorem EJ(hc:X.calm=true):cD X (.type "set") (fun xs H Q=>∃p,xs=[.ref p]/\aJ X.K H p []/\∀q,H q=none->Q (.ref q) (upd H q (.ext fun h=>∃so ep t,iq h q so ep t))):=by
 intro pins s σ H xs us Q I rv h;obtain⟨p,rfl,hp,k⟩:=h;obtain⟨u,rfl,ru⟩:=vals1 rv;cases ru;obtain⟨its,rel,pl,hl⟩:=I.list hp;cases rel;refine call_set_list (ns:=[]) (I.ok.hd hc) pl.isList .nil (by decide) fun h' tk hS kk=>?_;have hE:∃so ep t,iq h' s.heap.objs.size so ep t:=by
  obtain⟨o,es,ep,t,g1,g2,g3,_,_,_,g7,g8⟩:=hS
  have:es.size=0:=by rw[g8];rfl
  obtain rfl:es=#[]:=Array.eq_empty_of_size_eq_zero this;exact⟨o,ep,t,g1,g2,g3,g7⟩
 refine⟨.ref s.heap.objs.size,_,I.laid (t':=tk) (o:=.ext fun h=>∃so ep t,iq h s.heap.objs.size so ep t) (fun b o e=>kk b o (zn e) e) (zr _) ?_,rfl,k _ (I.av.fresh (zr _))⟩;exact⟨hE,(by obtain⟨so,_,_,S⟩:=hE;exact⟨so,S.g⟩),fun h1 h2 x k=>(by obtain⟨so,ep,t,S⟩:=x;exact⟨so,ep,t,S.at k⟩)⟩
theorem lN(hc:X.calm=true):cD X (.builtin "sorted") (fun xs H Q=>∃a,xs=[.ref a]/\(H a=some (.ext fun h=>∃so ep t,iq h a so ep t)\/H a=some (.dK []))/\∀p,H p=none->Q (.ref p) (upd H p (.lst []))):=by
 intro pins s σ H xs us Q I rv h;obtain⟨a,rfl,ha,k⟩:=h;obtain⟨u,rfl,ru⟩:=vals1 rv;cases ru;rcases ha with ha|ha
 ·obtain⟨⟨so,ep,t,S⟩,_,_⟩:=I.av a _ ha
  exact mD NG hc I S k
 ·obtain⟨z,hd,rs,rel,dd⟩:=jb I.av (.inl ha)
  obtain⟨ep,Vt⟩:=dd.dictAt;cases rel;exact mD (PySem.W.kdl_dict (knd:=bO X.prog X.w) (kvs:=[]) (ep:=ep) hd) hc I Vt k
theorem Kg(a v:Value):argsOk "min" ⟨[a],[(Str.ofString "default",v)]⟩:=by unfold argsOk;kernel_rfl
theorem EK(hc:X.calm=true){pins:List (Addr×Obj)}{σ:St}{H:Hp}{s:Shared}{Q:VK}{p:Addr}{y:V}{u:Value}(I:Inv X pins σ H s)(hp:aJ X.K H p [])(ry:RelV y u)(q:Q y H) :
  wpAny (model X.prog X.w) X.A (call (.builtin "min") [.ref p] [(Str.ofString "default",u)]) (EP X pins σ Q) X.xe s:=by
 obtain⟨its,rel,pl,hl⟩:=I.list hp;cases rel;have OV:(toString "min"++toString ".loop":String) = "min.loop":=by decide
 refine kmb_tree PySem.F.kind_min PySem.F.plain_min PySem.F.entry_min (Kg _ _) ?_;show wpAny _ X.A.in1 (Builtin.Builtins.bindParams "min" ["key","default"] 0 ⟨[],[(Str.ofString "default",u)]⟩ >>= _) _ _ s;refine zz (wpAny_of_eq (show Builtin.Builtins.bindParams "min" ["key","default"] 0 ⟨[],[(Str.ofString "default",u)]⟩=pure [none,some u] from by kernel_rfl) ?_);refine zz (zq ?_);refine zz (wpAny_pyIter_list pl.isList ?_);refine zz (wpAny_newObj_type ?_);rw[OV];refine zq ⟨plainId_quiet PySem.F.plain_min_loop _,?_⟩;refine codeAny_builtin PySem.F.entry_min_loop ?_;rw[Around.under_plainId PySem.F.plain_min_loop _];dsimp only;generalize Ea:s.heap.push { cls:=.type "list_iterator",dict:=none,data:=.fields #[Value.ref p,Value.int 0 0] }=h1;generalize vS:h1.push { cls:=.type "list",dict:=none,data:=.seq ([]:List Value).toArray }=h2;have k1:∀b o,s.heap.get? b=some o->h2.get? b=some o:=fun b o e=>by
  rw[<- vS];exact zy _ (by rw[<- Ea];exact zy _ e)
 have hS:h2.get? h1.objs.size=some { cls:=.type "list",dict:=none,data:=.seq #[] }:=by rw[<- vS];exact zk _ rfl
 have hI:h2.IsListIter s.heap.objs.size p 0:=⟨_,by rw[<- vS];exact zy _ (by rw[<- Ea];exact zk _ rfl),rfl,rfl⟩;show wpAny _ X.A.in1 (seqItems? (.ref h1.objs.size) >>= _) _ _ { s with heap:=h2 };refine zz (wpAny_seqItems hS rfl ?_);show wpAny _ X.A.in1 (tryCatch (pyNext (.ref s.heap.objs.size)) _ >>= _) _ _ { s with heap:=h2 };refine zz (wpAny_tryCatch (wpAny_pyNext_list_end (A:=X.A.in1) (I.ok.hd hc) hI ((pl.at fun o e=>k1 p o e).isList) (by decide) fun h' eb=>?_));refine zz (wpAny_rule ?_);refine zq ⟨y,H,I.kept (t':=s.toks) fun b o e=>eb b o (zA (zn e)) (k1 b o e),ry,q⟩
end
end L3
namespace L3
open PySem PySem.Spec PyProof.Rows L2
section
variable {K:Q_}{ι:List Addr}{H:Hp}{M:MH}
theorem FR.look:∀{fs:List (Str×D)} {ws:List (Str×V)} {f:Str} {d:D},FR K ι H fs ws->fs.lookup f=some d->∃v,ws.lookup f=some v/\Rep K ι H d v
 |[],_,_,_,.nil,e=>by cases e
 | (a,x)::fs,(b,y)::ws,f,d,.cons r t,e=>by
  obtain⟨r1,r2⟩:=r;dsimp only at r1 r2;subst r1;rw[yr]at e ⊢;cases h:f==a with
  |true=>rw[h]at e;cases e;exact⟨y,rfl,r2⟩
  |false=>rw[h]at e;exact FR.look t e
theorem FR.none:∀{fs:List (Str×D)} {ws:List (Str×V)} {f:Str},FR K ι H fs ws->fs.lookup f=none->ws.lookup f=none
 |[],_,_,.nil,_=>rfl
 | (a,x)::fs,(b,y)::ws,f,.cons r t,e=>by
  obtain⟨r1,r2⟩:=r;dsimp only at r1 r2;subst r1;rw[yr]at e ⊢;cases h:f==a with
  |true=>rw[h]at e;cases e
  |false=>rw[h]at e;exact FR.none t e
theorem FR.put{f:Str}{d:D}{v:V}(q:Rep K ι H d v):∀{fs:List (Str×D)} {ws:List (Str×V)},FR K ι H fs ws->FR K ι H (putD f d fs) (dG f v ws)
 |[],_,.nil=>.cons ⟨rfl,q⟩ .nil
 | (a,x)::fs,(b,y)::ws,.cons r t=>by
  obtain⟨r1,r2⟩:=r;dsimp only at r1 r2;subst r1;unfold putD dG;by_cases h:a=f
  ·rw[if_pos h,if_pos h];exact .cons ⟨rfl,q⟩ t
  ·rw[if_neg h,if_neg h];exact .cons ⟨rfl,r2⟩ (FR.put q t)
theorem FR.length:∀{fs:List (Str×D)} {ws:List (Str×V)},FR K ι H fs ws->fs.length=ws.length
 |[],_,.nil=>rfl
 |_::_,_::_,.cons _ t=>by rw[zi,zi,FR.length t]
theorem jK(S:aK K ι M H){t C:Nat}{fs:List (Str×D)}{v:V}(r:Rep K ι H (.ob t) v)(g:M[t]?=some (.ins C fs)):∃a dx ws,v=.ref a/\ι[t]?=some a/\H a=some (.ins C dx ws)/\FR K ι H fs ws:=by
 cases r with
 |ob e =>
  obtain⟨dx,ws,h1,h2⟩:=S.obj _ _ _ e g;exact⟨_,dx,ws,rfl,e,h1,h2⟩
theorem LE.fld{fa:DE}{C:Nat}{f:Str}(c:ib K C)(n:eB K C f)(σ:St)(H:Hp)(Q:VK)(h:LE K (fun ρ=>do let x<-fa ρ;ua C f x) σ H Q):Le K (LE K fa) f σ H Q:=by
 obtain⟨ι,ρ,M,d,M',S,R,e,k⟩:=h;have e0:=aa e;clear e;obtain⟨x,M1,e1,e⟩:=e0;refine⟨ι,ρ,M,x,M1,S,R,e1,fun v1 H1 ι1 r1 S1 X1=>?_⟩;cases x with
 |ob t =>
  have e0:=aa e;clear e;obtain⟨p,M2,e2,e⟩:=e0;have aM:=pZ e2;clear e2;obtain⟨g,rfl⟩:=aM;have e0:=aa e;clear e;obtain⟨_,_,e3,e⟩:=e0;have aZ:=aG e3;clear e3;obtain⟨hc,rfl⟩:=aZ;have e0:=ba e;clear e;obtain⟨hl,rfl⟩:=e0;obtain⟨a,dx,ws,rfl,_,ha,fr⟩:=jK S1 r1 g;obtain⟨v,hv,rv⟩:=fr.look hl;exact⟨a,C,dx,ws,v,rfl,hc▸ha,c,n,hv,k v H1 ι1 rv S1 X1⟩
 |_=>exact(ah e).elim
theorem tR{C t:Nat}{m:Str}{M M':MH}{u:Unit}(h:hY C m (.ob t) M=some (.ok u,M')):M'=M/\∃fs,M[t]?=some (.ins C fs)/\fs.lookup m=none:=by
 have e0:=aa h;clear h;obtain⟨p,M2,e2,e⟩:=e0;have aM:=pZ e2;clear e2;obtain⟨g,rfl⟩:=aM;have e0:=aG e;clear e;obtain⟨⟨hc,hl⟩,rfl⟩:=e0;exact⟨rfl,p.2,hc▸g,ya.mp hl⟩
theorem LE.mcl{fo:DE}{fa:Ev->Mo (List D)}{g:List D->Mo D}{j C:Nat}{m:Str}(σ:St)(H:Hp)(Q:VK)(hm:∀ds M d M',g ds M=some (.ok d,M')->ds.length=j)
  (h:LE K (fun ρ=>do let x<-fo ρ;hY C m x;let xs<-fa ρ;g (x::xs)) σ H Q):rq C m (eY K j g) [] E0 (LE K fo) (LA K fa) σ H Q:=by
 obtain⟨ι,ρ,M,d,M',S,R,e,k⟩:=h;have e0:=aa e;clear e;obtain⟨x,M1,e1,e⟩:=e0;refine⟨ι,ρ,M,x,M1,S,R,e1,fun v1 H1 ι1 r1 S1 X1=>?_⟩;cases x with
 |ob t =>
  have e0:=aa e;clear e;obtain⟨_,M2,e2,e⟩:=e0;obtain⟨rfl,fs,g',hl⟩:=tR e2;have e0:=aa e;clear e;obtain⟨xs,M3,e3,e⟩:=e0;obtain⟨a,dx,ws,rfl,_,ha,fr⟩:=jK S1 r1 g';refine⟨a,dx,ws,rfl,ha,fr.none hl,ι1,ρ,_,xs,M3,S1,R.mono X1,e3,fun vs H2 ι2 r2 S2 X2=>?_⟩;show eY K j g (V.ref a::(vs++[])) H2 Q E0;rw[zJ];have hl:=hm _ _ _ _ e;exact⟨by rw[zi,<- r2.length];exact hl,ι2,M3,M',.ob t::xs,d,S2,.cons (r1.mono X2) r2,e,fun v H' ι' r' S' X'=>k v H' ι' r' S' ((X1.trans X2).trans X')⟩
 |_=>have e0:=aa e;clear e;obtain⟨_,_,e2,_⟩:=e0;exact(ah e2).elim
theorem LE.new{fa:Ev->Mo (List D)}{g:List D->Mo D}{j C:Nat}(σ:St)(H:Hp)(Q:VK)(hm:∀ds M d M',g ds M=some (.ok d,M')->ds.length=j)
  (h:LE K (fun ρ=>do let xs<-fa ρ;let o<-bu (.ins C []);let r<-g (o::xs);need (gk r=true);pure o) σ H Q):Hs C (eY K j g) [] E0 (LA K fa) σ H Q:=by
 obtain⟨ι,ρ,M,d,M',S,R,e,k⟩:=h;have e0:=aa e;clear e;obtain⟨xs,M1,e1,e⟩:=e0;refine⟨ι,ρ,M,xs,M1,S,R,e1,fun vs H1 ι1 r1 S1 X1=>?_⟩;intro x dx hx PY ne;have e0:=aa e;clear e;obtain⟨o,M2,e2,e⟩:=e0;have aM:=gH e2;clear e2;obtain⟨rfl,rfl⟩:=aM;have e0:=aa e;clear e;obtain⟨r,M3,e3,e⟩:=e0;have e0:=aa e;clear e;obtain⟨_,_,e4,e⟩:=e0;have cy:=aG e4;clear e4;obtain⟨hn,rfl⟩:=cy;have e0:=af e;clear e;obtain⟨rfl,rfl⟩:=e0;have hx':upd H1 dx (.own x) x=none:=by rw[aB (Ne.symm ne)];exact hx
 have S2:aK K ι1 M1 (upd H1 dx (.own x)):=S1.dn PY;have S3:aK K (ι1++[x]) (M1++[.ins C []]) (upd (upd H1 dx (.own x)) x (.ins C dx [])):=S2.new hx' ⟨dx,[],rfl,.nil⟩;have X2:Ext K ι1 H1 ι1 (upd H1 dx (.own x)):=Ext.dn PY;have X3:Ext K ι1 (upd H1 dx (.own x)) (ι1++[x]) (upd (upd H1 dx (.own x)) x (.ins C dx [])):=Ext.new hx';have rx:Rep K (ι1++[x]) (upd (upd H1 dx (.own x)) x (.ins C dx [])) (.ob M1.length) (.ref x):=.ob (by rw[<- S1.len,zd (zr _),yN];rfl);show eY K j g (V.ref x::(vs++[])) _ _ E0;rw[zJ];have hl:=hm _ _ _ _ e3;refine⟨by rw[zi,<- r1.length];exact hl,_,_,_,.ob M1.length::xs,r,S3,.cons rx (r1.mono (X2.trans X3)),e3,fun v H' ι' r' S' X'=>⟨?_,k _ H' ι' (rx.mono X') S' (((X1.trans X2).trans X3).trans X')⟩⟩;cases r' <;> first|rfl|cases hn
theorem LS.setF{fv fo:DE}{C:Nat}{f:Str}(c:ib K C)(n:eB K C f)(D:Ends)(σ:St)(H:Hp)(h:LS K (fun ρ=>do let v<-fv ρ;let x<-fo ρ;setF C f v x;pure (.nx ρ)) D σ H):LF K (LE K fo) (LE K fv) f D σ H:=by
 obtain⟨ι,ρ,M,fl,M',S,R,e,k⟩:=h;have e0:=aa e;clear e;obtain⟨d,M1,e1,e⟩:=e0;refine⟨ι,ρ,M,d,M1,S,R,e1,fun y H1 ι1 r1 S1 X1=>?_⟩;have e0:=aa e;clear e;obtain⟨x,M2,e2,e⟩:=e0;refine⟨ι1,ρ,M1,x,M2,S1,R.mono X1,e2,fun v H2 ι2 r2 S2 X2=>?_⟩;have e0:=aa e;clear e;obtain⟨_,M3,e3,e⟩:=e0;have e0:=af e;clear e;obtain⟨rfl,rfl⟩:=e0;cases x with
 |ob t =>
  have e0:=aa e3;clear e3;obtain⟨p,_,e4,e⟩:=e0;have cy:=pZ e4;clear e4;obtain⟨g,rfl⟩:=cy;have e0:=aa e;clear e;obtain⟨_,_,e5,e⟩:=e0;have NI:=aG e5;clear e5;obtain⟨⟨hc,hl⟩,rfl⟩:=NI;have e0:=jM e;clear e;obtain⟨_,rfl⟩:=e0;obtain⟨a,dx,ws,rfl,ha',ha,fr⟩:=jK S2 r2 g;rw[hc]at ha;have X3:Ext K ι2 H2 ι2 (upd H2 a (.ins C dx (dG f y ws))):=Ext.write ha (HQ _ _ _);refine⟨a,C,dx,ws,rfl,ha,c,n,?_,?_⟩
  ·rw[<- fr.length];omega
  ·refine k _ ι2 (S2.put ha' ⟨dx,_,rfl,?_⟩) ((X1.trans X2).trans X3) σ (((R.mono X1).mono X2).mono X3)
   exact FR.put ((r1.mono X2).mono X3) (Paired.pT fr fun _ _ z=>⟨z.1,z.2.mono X3⟩)
 |_=>exact(ah e3).elim
end
section
variable {Γ:Ctx}{S:Sc}{X:Cx}{r:Expr->Option IE}{rs:List Expr->Option cH}
theorem oj{a:Expr}{q:Str×Pos}(h:de a=some q):a=.Name q.1 q.2:=by
 cases a <;> first|cases h;rfl|cases h
theorem vh{b:Expr}{f:Str}{p q:Pos}{as:List Expr}(h:ij b=some (f,p,as,q)):b=.Call (.Name f p) as [] q:=by
 unfold ij at h;split at h
 ·cases h;rfl
 ·cases h
variable (hr:∀e i,r e=some i->PE X e (LE X.K (ae Γ i)))
include hr
theorem Et(C:aL Γ S X){o:Expr}{f:Str}{p:Pos}{i:IE}(h:GL r o f=some i):PE X (.Attribute o f p) (LE X.K (ae Γ i)):=by
 unfold GL at h;split at h
 ·rename_i q hq
  split at h
  ·rename_i hf
   obtain⟨x,h1,rfl⟩:=zo.mp h;have e:=oj hq;subst e;exact PE.imp (L8 (hr _ _ h1) rfl) (LE.fld C.cls (C.kl f (az hf)))
  ·cases h
 ·cases h
theorem F8(C:aL Γ S X){f:Expr}{as:List Expr}{ks:List Keyword}{p:Pos}{i:IE}(h:HR S r f as ks=some i):PE X (.Call f as ks p) (LE X.K (ae Γ i)):=by
 unfold HR at h;split at h
 ·rename_i g pg hq
  split at h
  ·rename_i a
   split at h
   ·rename_i b pb hd
    split at h
    ·rename_i hs
     simp only[zx,beq_iff_eq]at hs;obtain⟨rfl,h2,h3,h4,h5⟩:=hs;obtain⟨x,h6,h⟩:=ai h;obtain⟨y,h7,h⟩:=ai h;cases h;have e:=oj hq;subst e;have hk:ks=[⟨some "default",b,pb⟩]:=by
      unfold Qo at hd;split at hd
      ·split at hd
       ·rename_i hx
        cases hd;rw[beq_iff_eq]at hx;subst hx;rfl
       ·cases hd
      ·cases hd
     subst hk;intro pins s σ H Q I q;obtain⟨ι,ρ,M,d,M',Sm,R,e,k⟩:=q;have e0:=aa e;clear e;obtain⟨x',M1,e1,e⟩:=e0;have e0:=aa e;clear e;obtain⟨y',M2,e2,e⟩:=e0;obtain⟨o1,o2,o3⟩:=bh h2;refine wpAny_Call_Name_kw (fL I (C.bA h3) (C.bo _ (az h4)) boot_min ?_ o3 o1);refine callWith_kw ?_ (by rw[aw h5];rfl) (bD (by rw[zK,h5];rfl)) rfl rfl;refine aF (ay (hr _ _ h6) bq (aw h5) p pins s σ H (fun vs H1=>∃v,vs=[v]/\∃ι1,Rep X.K ι1 H1 x' v/\aK X.K ι1 M1 H1/\Ext X.K ι H ι1 H1) I ⟨ι,ρ,M,x',M1,Sm,R,e1,fun v H1 ι1 r1 S1 X1=>⟨v,rfl,ι1,r1,S1,X1⟩⟩) fun us s1 ⟨vs,H1,I1,rv,v,ev,ι1,r1,S1,X1⟩=>?_;subst ev;obtain⟨u,rfl,ru⟩:=vals1 rv;refine aF (J1 (nm:=some "default") (kpos:=pb) (hr _ _ h7) LY p pins s1 σ H1 (fun vs H2=>∃v2,vs=[v2]/\∃ι2,Rep X.K ι2 H2 y' v2/\aK X.K ι2 M2 H2/\Ext X.K ι1 H1 ι2 H2) I1 ⟨ι1,ρ,M1,y',M2,S1,R.mono X1,e2,fun v H2 ι2 r2 S2 X2=>⟨v,rfl,ι2,r2,S2,X2⟩⟩) fun Xy s2 ⟨Hj,H2,I2,C0,v2,VG,ι2,r2,S2,X2⟩=>?_;subst VG;obtain⟨u2,rfl,LK⟩:=vals1 C0;have r1':=r1.mono X2;cases x' with
     |ob t =>
      have e0:=aa e;clear e;obtain⟨ds,_,e3,e⟩:=e0;have aZ:=bw e3;clear e3;obtain⟨g,rfl⟩:=aZ;have e0:=aa e;clear e;obtain⟨_,_,e4,e⟩:=e0;have cy:=aG e4;clear e4;obtain⟨hn,rfl⟩:=cy;have e0:=af e;clear e;obtain⟨rfl,rfl⟩:=e0;obtain rfl:=yc.mp hn;obtain⟨a',ws,rfl,_,g3,g4⟩:=aH S2 r1' g;cases g4;cases ru;exact EK C.calm I2 (aJ.of g3) LK (k _ H2 ι2 r2 S2 (X1.trans X2))
     |_=>exact(ah e).elim
    ·cases h
   ·cases h
  ·cases h
 ·cases h
theorem Ft(C:aL Γ S X){f:Str}{as:List Expr}{p1 p4:Pos}{i:IE}{k:Option IE}(h:Lq S r f as k=some i)(hk:k=some i->PE X (.Call (.Name f p1) as [] p4) (LE X.K (ae Γ i))):PE X (.Call (.Name f p1) as [] p4) (LE X.K (ae Γ i)):=by
 unfold Lq at h;split at h
 ·rename_i a
  split at h
  ·rename_i g pg bs qg hg
   split at h
   ·rename_i b
    split at h
    ·rename_i MY
     split at h
     ·rename_i hs
      rw[beq_iff_eq]at MY;subst MY;unfold HB at hs;simp only[zx,beq_iff_eq]at hs;obtain⟨hp,⟨⟨⟨rfl,h2⟩,h3⟩,h4⟩,h5,h6⟩:=hs;obtain⟨x,h1,rfl⟩:=zo.mp h;rw[vh hg];obtain⟨o1,o2,o3⟩:=bh h2;refine PE.imp (dH (lN C.calm) (C.bA h3) (C.bo _ (az h4)) z_ (ay (gY (EJ C.calm) (C.bA h5) (C.bo _ (az h6)) boot_set (ay (hr _ _ h1) bq (aw hp)) (by decide) (by decide) (aw hp) rfl) bq rfl) o3 o1 rfl rfl) fun σ H Q q=>?_;obtain⟨ι,ρ,M,d,M',Sm,R,e,k⟩:=q;have e0:=aa e;clear e;obtain⟨x',M1,e1,e⟩:=e0;refine⟨ι,ρ,M,x',M1,Sm,R,e1,fun v1 H1 ι1 r1 S1 X1=>?_⟩;cases x' with
      |ob t =>
       have e0:=aa e;clear e;obtain⟨ds,_,e3,e⟩:=e0;have aZ:=bw e3;clear e3;obtain⟨g,rfl⟩:=aZ;have e0:=aa e;clear e;obtain⟨_,_,e4,e⟩:=e0;have cy:=aG e4;clear e4;obtain⟨hn,rfl⟩:=cy;have e0:=gH e;clear e;obtain⟨rfl,rfl⟩:=e0;obtain rfl:=yc.mp hn;obtain⟨a',ws,rfl,_,g3,g4⟩:=aH S1 r1 g;cases g4;refine⟨a',rfl,aJ.of g3,fun q hq=>?_⟩;refine⟨q,rfl,.inl aT,fun p hp=>?_⟩;have X2:=Ext.dn (K:=X.K) (ι:=ι1) (ho:=.ext fun h=>∃so ep t,iq h q so ep t) hq;have S2:=S1.dn (ho:=.ext fun h=>∃so ep t,iq h q so ep t) hq;exact k _ _ (ι1++[p]) (.ob (by rw[<- S1.len,zd (zr _),yN];rfl)) (S2.new hp ⟨[],rfl,.nil⟩) ((X1.trans X2).trans (Ext.new hp))
      |_=>exact(ah e).elim
     ·cases h
    ·exact hk h
   ·exact hk h
  ·split at h
   ·rename_i hn
    split at h
    ·rename_i hs
     unfold HB at hs;simp only[zx,beq_iff_eq]at hs;obtain⟨hp,⟨⟨rfl,h2⟩,h3⟩,h4⟩:=hs;obtain⟨x,h1,rfl⟩:=zo.mp h;obtain⟨o1,o2,o3⟩:=bh h2;refine PE.imp (dH (lN C.calm) (C.bA h3) (C.bo _ (az h4)) z_ (ay (hr _ _ h1) bq (aw hp)) o3 o1 (aw hp) rfl) fun σ H Q q=>?_;obtain⟨ι,ρ,M,d,M',Sm,R,e,k⟩:=q;have e0:=aa e;clear e;obtain⟨x',M1,e1,e⟩:=e0;refine⟨ι,ρ,M,x',M1,Sm,R,e1,fun v1 H1 ι1 r1 S1 X1=>?_⟩;cases x' with
     |ob t =>
      have e0:=aa e;clear e;obtain⟨ds,_,e3,e⟩:=e0;have aZ:=p0 e3;clear e3;obtain⟨g,rfl⟩:=aZ;have e0:=aa e;clear e;obtain⟨_,_,e4,e⟩:=e0;have cy:=aG e4;clear e4;obtain⟨hn,rfl⟩:=cy;have e0:=gH e;clear e;obtain⟨rfl,rfl⟩:=e0;obtain rfl:=yc.mp hn;obtain⟨a',ws,rfl,_,g3,g4⟩:=c8 S1 r1 g;cases g4;refine⟨a',rfl,.inr g3,fun p hp=>?_⟩;exact k _ _ (ι1++[p]) (.ob (by rw[<- S1.len,zd (zr _),yN];rfl)) (S1.new hp ⟨[],rfl,.nil⟩) (X1.trans (Ext.new hp))
     |_=>exact(ah e).elim
    ·cases h
   ·exact hk h
 ·exact hk h
variable (hrs:∀es i,rs es=some i->PA X es (LA X.K (aS Γ i))/\es.all aU=true)
include hrs
omit hr hrs in
theorem mh{o:Expr}{name:Str}{apos pos:Pos}{env:Env}{as:List Expr}(hb:attributeBase o name env (eval o env)=eval o env)(hp:as.all aU=true)(hn:as.length<29)(hl:(apos.endLine==pos.line)=true) :
  eval (.Call (.Attribute o name apos) as [] pos) env=(do
   let ov<-eval o env
   standAt apos.atName
   let (f,first)<-holding [ov] (getMethod ov name (do return (<- importBound o env).getD true))
   callWith pos f first (backTo pos (starEach as env)) (backToKw pos (keywordEach [] env))):=by
 rw[arm_eval_Call,hb];have OX:methodCallForm (as.length+([]:List Keyword).length) (backTo pos (starEach as env)) (backToKw pos (keywordEach [] env))=true:=by
  show ((backTo pos (starEach as env)).all (fun x=>!x.1)&&true&&decide (as.length+0+0<30))=true;rw[decide_eq_true (by omega),xJ,xJ];have hq:(backTo pos (starEach as env)).any (·.1)=false:=bD hp;rw[zB];intro x hx
  have:=yZ.mp hq x hx
  simpa using this
 have Nc:methodCallPos true o env apos pos=pure pos:=by unfold methodCallPos;simp[hl]
 simp only[methodCall,OX,calleeOf,if_true,Nc,pure_bind]
theorem DF(C:aL Γ S X){o:Expr}{m:Str}{p2 p3:Pos}{as:List Expr}{i:IE}(hm:kB.contains m=true)(h:tK r rs o m p2 p3 as=some i):PE X (.Call (.Attribute o m p2) as [] p3) (LE X.K (ae Γ i)):=by
 unfold tK at h;split at h
 ·rename_i q hq
  split at h
  ·rename_i hs
   rw[zx,decide_eq_true_eq]at hs;obtain⟨x,h1,h⟩:=ai h;obtain⟨xs,h2,h⟩:=ai h;cases h;have e:=oj hq;subst e;obtain⟨k,fa,fd,ps,g1,g2,g3,g4,g5⟩:=C.lD m (az hm);cases as with
   |nil =>
    cases h2;refine PE.imp (FQ (hr _ _ h1) C.cls g1 g3 g4 g2 .nil oh (mh rfl rfl hs.2 hs.1)) fun σ H Q q=>?_;obtain⟨ι,ρ,M,d,M',S',R,e,k⟩:=LE.mcl σ H Q g5 q;refine⟨ι,ρ,M,d,M',S',R,e,fun v H1 ι1 r1 S1 X1=>?_⟩;obtain⟨a,dx,fs,z1,z2,z3,z4⟩:=k v H1 ι1 r1 S1 X1;exact⟨a,dx,fs,z1,z2,z3,LA.nil σ H1 _ z4⟩
   |cons a as =>
    obtain⟨pa,pl⟩:=hrs _ _ h2;have pl':=pl;rw[zK,zx]at pl;exact PE.imp (vA (hr _ _ h1) C.cls g1 g3 g4 g2 .nil oh pa (aw pl.1) (bD pl.2) (mh rfl pl' hs.2 hs.1)) fun σ H Q q=>LE.mcl σ H Q g5 q
  ·cases h
 ·cases h
omit hr in
theorem Dw(C:aL Γ S X){f:Str}{a:Expr}{as:List Expr}{p1 p4:Pos}{i:IE}{k:Option IE}(h:F4 S f (rs (a::as)) k=some i)(hk:k=some i->PE X (.Call (.Name f p1) (a::as) [] p4) (LE X.K (ae Γ i))):PE X (.Call (.Name f p1) (a::as) [] p4) (LE X.K (ae Γ i)):=by
 unfold F4 at h;split at h
 ·rename_i hs
  unfold newOk at hs;simp only[zx,beq_iff_eq]at hs;obtain⟨⟨rfl,h2⟩,h3⟩:=hs;obtain⟨o1,o2,o3⟩:=bh h2;obtain⟨xs,h4,rfl⟩:=zo.mp h;obtain⟨k',fa,fd,ps,g1,g2,g3,g4,g5,g6⟩:=C.HS;obtain⟨pa,pl⟩:=hrs _ _ h4;rw[zK,zx]at pl;exact PE.imp (J3 g1 g4 g5 (C.bA h3) g2 g3 .nil oh pa o1 (aw pl.1) (bD pl.2)) fun σ H Q q=>LE.new σ H Q g6 q
 ·exact hk h
end
end L3
namespace L3
open PySem PySem.Spec PyProof.Rows L2
section
variable {Γ:Ctx}{n:Nat}
noncomputable def RI(_:Ctx):Prop:=True
noncomputable def RH(Γ:Ctx):Prop:=∀(S:Sc) (X:Cx) (f:Str) (a:Expr) (p1 p4:Pos) (fa:DE),aL Γ S X->(f==("sorted":Str)&&bM f&&S.bA f&&S.bo.contains f)=true->aU a=true->PE X a (LE X.K fa) ->
 PE X (.Call (.Name f p1) [a] [] p4) (LE X.K (fun ρ=>do let x<-fa ρ;let ds<-km x;let ys<-lift (Γ.srt ds);bu (.lst ys)))
noncomputable def RG(_:Ctx):Prop:=True
noncomputable def RJ(_:Ctx):Prop:=True
noncomputable def RF(_:Ctx):Prop:=True
noncomputable def gU(Γ:Ctx):Prop:=RI Γ/\RH Γ/\RG Γ/\RJ Γ/\RF Γ
theorem mw{o:Expr}{a:Str}{env:Env}{w':Sem Value}(h:Qr o=true):attributeBase o a env w'=w':=by
 cases o <;> first
  |rfl
  |exact absurd h zt
  | (rename_i f as ks p
     cases as with
     |nil=>exact absurd h zt
     |cons e es=>cases f <;> first|rfl|(cases ks <;> rfl))
theorem LE.neg{K:Q_}{fa:DE}(σ:St)(H:Hp)(Q:VK)(h:LE K (fun ρ=>do
  let x<-fa ρ
  (match x with
  |.int i=>pure (.int (-i))
  |_=>Mo.stop)) σ H Q):Pe (rU fun i=>.int (-i)) (LE K fa) σ H Q:=by
 obtain⟨ι,ρ,M,d,M',S,R,e,k⟩:=h;have e0:=aa e;clear e;obtain⟨x,M1,e1,e⟩:=e0;refine⟨ι,ρ,M,x,M1,S,R,e1,fun v H1 ι1 r1 S1 X1=>?_⟩;cases r1 with
 |int i=>have e0:=af e;clear e;obtain⟨rfl,rfl⟩:=e0;exact⟨i,rfl,k _ H1 ι1 (.int _) S1 X1⟩
 |_=>exact(ah e).elim
theorem Ka{α:Type}{l:List (Bool×α)}(h:l.any (·.1)=false):l.all (fun x=>!x.1)=true:=by
 rw[zB];intro x hx
 have:=yZ.mp h x hx
 simpa using this
theorem DR{S:Sc}{X:Cx}{f t:Str}{k:Ty}{a:Expr}{p1 p2 p3:Pos}{fa:DE}(C:aL Γ S X)(hs:i6 S f t=true)(hk:kY t=some k)(ha:PE X a (LE X.K fa))(hp:aU a=true) :
  PE X (.Call (.Name f p1) [a,.Name t p2] [] p3) (LE X.K (fun ρ=>do let x<-fa ρ;let b<-c9 k x;pure (.bl b))):=by
 unfold i6 at hs;simp only[zx,beq_iff_eq]at hs;obtain⟨⟨⟨⟨⟨⟨h1,h2⟩,h3⟩,h4⟩,h5⟩,h6⟩,h7⟩:=hs;subst h1;obtain⟨o1,o2,o3⟩:=bh h2;obtain⟨q1,q2,q3⟩:=bh h5;have pt:PE X (.Name t p2) (tC (.ty (tyName k))):=me (C.bA h6) (C.bo _ (az h7)) (pA hk) rfl q3 q1;exact PE.imp (dH (GY k) (C.bA h3) (C.bo _ (az h4)) G_ (ay ha (ay pt bq) (aw hp)) o3 o1 (aw hp) rfl) LE.isI
theorem B0{S:Sc}{X:Cx}{rs:List Expr->Option cH}(hrs:∀es i,rs es=some i->PA X es (LA X.K (aS Γ i))/\es.all aU=true){f:Str}{p1 pos:Pos}{a:Expr}{as:List Expr}{i:IE}(C:aL Γ S X)(h:B8 S f (a::as).length (rs (a::as))=some i):PE X (.Call (.Name f p1) (a::as) [] pos) (LE X.K (ae Γ i)):=by
 unfold B8 at h;split at h
 ·rename_i hs
  simp only[zx]at hs;obtain⟨o1,o2,o3⟩:=bh hs.1;split at h
  ·rename_i hf
   obtain⟨xs,h1,rfl⟩:=zo.mp h;obtain⟨k,fa,fd,ps,g1,g2,g3,g4,g5,g6⟩:=C.fns f (az hf);obtain⟨pa,pl⟩:=hrs _ _ h1;rw[zK,zx]at pl;exact PE.imp (vD g4 g5 (C.bA hs.2) g1 g2 g3 .nil oh pa o1 (aw pl.1) (bD pl.2)) fun σ H Q q=>LE.call σ H Q g6 q
  ·split at h
   ·rename_i hb
    split at h
    ·rename_i b Vr
     obtain⟨xs,h1,rfl⟩:=zo.mp h;obtain⟨pa,pl⟩:=hrs _ _ h1;rw[zK,zx]at pl;have II:=(KL Vr).1;have qD:=C.bo f (az hb);have hc:=KJ (X:=X) C.calm C.hu b;unfold Cc at II hc;split at II
     ·rename_i ht
      rw[if_pos ht]at hc;exact PE.imp (gY hc (C.bA hs.2) qD II pa o3 o1 (aw pl.1) (bD pl.2)) LE.blt
     ·rename_i ht
      rw[if_neg ht]at hc;exact PE.imp (dH hc (C.bA hs.2) qD II pa o3 o1 (aw pl.1) (bD pl.2)) LE.blt
    ·cases h
   ·cases h
 ·cases h
section
variable {S:Sc}{X:Cx}{r:Expr->Option IE}{rs:List Expr->Option cH}{ro:Option Expr->Option lQ}
theorem Br(C:aL Γ S X){x:Str}{pos:Pos}{i:IE}(h:Bs S x=some i):PE X (.Name x pos) (LE X.K (ae Γ i)):=by
 unfold Bs at h;split at h
 ·rename_i av
  obtain⟨o1,o2,o3⟩:=bh av;split at h
  ·rename_i hv
   obtain⟨j,hs,rfl⟩:=zo.mp h;exact PE.imp (eo (by rw[C.n];exact slot_get hs) (C.qk hv) o1 o2) (LE.var)
  ·split at h
   ·rename_i hg
    cases h;simp only[zx]at hg;obtain⟨d,u,v,g1,g2,g3,g4⟩:=C.gls x (az hg.2);refine PE.imp (vB (C.bA hg.1) g2 g3 o1) fun σ H Q h=>?_;refine LE.const g4 σ H Q ?_;have e:ae Γ (.glb x)=fun _=>(pure d:Mo D):=by funext ρ;show lift (Γ.gl x)=_;rw[g1];rfl
    rw[e]at h;exact h
   ·cases h
 ·cases h
theorem uY{c:Const}{k:Nat}{pos:Pos}{i:IE}(h:EG c=some i):PE X (.Constant c k pos) (LE X.K (ae Γ i)):=by
 cases c with
 |int j=>cases h;exact PE.imp Dp (LE.const fun _ _=>.int _)
 |bool j=>cases h;exact PE.imp OH (LE.const fun _ _=>.bl _)
 |none=>cases h;exact PE.imp L7 (LE.const fun _ _=>.non)
 |str j=>cases h;exact PE.imp fJ (LE.const fun _ _=>.str _)
 |_=>cases h
variable (hr:∀e i,r e=some i->PE X e (LE X.K (ae Γ i)))
include hr
theorem qL(C:aL Γ S X){a:Expr}{ops:List CmpOp}{bs:List Expr}{pos:Pos}{i:IE}(h:BZ r a ops bs=some i):PE X (.Compare a ops bs pos) (LE X.K (ae Γ i))/\PT X (.Compare a ops bs pos) (LT X.K (bg Γ (.cmp i))):=by
 unfold BZ at h;split at h
 ·split at h
  ·cases h
  ·rename_i hm
   obtain⟨x,h1,h⟩:=ai h;obtain⟨y,h2,h⟩:=ai h;cases h;exact⟨PE.imp (vC (jO C.hu _) (hr _ _ h1) (hr _ _ h2) (by simpa using hm)) (LE.bin mf),PT.imp (JU (jO C.hu _) (hr _ _ h1) (hr _ _ h2) (by simpa using hm)) fun σ H Q q=>LE.bin mf σ H _ (LT.test σ H Q q)⟩
 ·split at h
  ·cases h
  ·rename_i op op' b c hm
   obtain⟨x,h1,h⟩:=ai h;obtain⟨y,h2,h⟩:=ai h;obtain⟨z,h3,h⟩:=ai h;cases h;exact⟨PE.imp (FY (jO C.hu op) (jO C.hu op') (hr _ _ h1) (hr _ _ h2) (hr _ _ h3) (by show behindInMarks op' c=false;simpa using hm)) (LE.chain),PT.imp (FI (jO C.hu op) (jO C.hu op') (hr _ _ h1) (hr _ _ h2) (hr _ _ h3) (by show behindInMarks op' c=false;simpa using hm)) fun σ H Q q=>LE.chain σ H _ (LT.test σ H Q q)⟩
 ·cases h
theorem B9{op:BoolOp}{es:List Expr}{pos:Pos}{i:IE}(h:Cb r op es pos=some i):PE X (.BoolOp op es pos) (LE X.K (ae Γ i)):=by
 unfold Cb at h;split at h
 ·obtain⟨x,h1,h⟩:=ai h
  obtain⟨y,h2,h⟩:=ai h;cases h;cases op with
  |And=>exact PE.imp (Dq (hr _ _ h1) (Dk (hr _ _ h2))) (LE.and)
  |Or=>exact PE.imp (HG (hr _ _ h1) (Dk (hr _ _ h2))) (LE.or)
 ·obtain⟨x,h1,h⟩:=ai h
  obtain⟨y,h2,h⟩:=ai h;cases h;cases op with
  |And=>exact PE.imp (Dq (hr _ _ h1) (hr _ _ h2)) (LE.and)
  |Or=>exact PE.imp (HG (hr _ _ h1) (hr _ _ h2)) (LE.or)
 ·cases h
theorem Ff{op:UnaryOp}{a:Expr}{pos:Pos}{i:IE}(h:Pc r op a=some i):PE X (.UnaryOp op a pos) (LE X.K (ae Γ i)):=by
 cases op with
 |Not =>
  obtain⟨x,h1,h⟩:=ai h;cases h;exact PE.imp (Dm (hr _ _ h1)) (LE.not)
 |USub =>
  obtain⟨x,h1,h⟩:=ai h;cases h;exact PE.imp (OF K0 (hr _ _ h1)) (LE.neg)
 |_=>cases h
theorem CQ(C:aL Γ S X)(ho:∀e i,ro e=some i->PO X e (LO X.K (gF Γ i))){a b:Expr}{pos:Pos}{i:IE}(h:Fq r ro a b=some i):PE X (.Subscript a b pos) (LE X.K (ae Γ i)):=by
 unfold Fq at h;split at h
 ·obtain⟨x,h1,h⟩:=ai h
  obtain⟨l,h2,h⟩:=ai h;obtain⟨q,h3,h⟩:=ai h;cases h;exact PE.imp (FP Ly (hr _ _ h1) (ho _ _ h2) (ho _ _ h3)) (LE.slc)
 ·split at h
  ·rename_i qF
   obtain⟨x,h1,h⟩:=ai h;obtain⟨y,h2,h⟩:=ai h;cases h;exact PE.imp (Bj (MN C.hu) (hr _ _ h1) (hr _ _ h2) (ki qF)) (LE.bin mf)
  ·cases h
omit hr in
theorem Bp{a:Expr}{m:Str}{p:Pos}(h:de a=some (m,p)):a=.Name m p:=by
 unfold de at h;split at h
 ·cases h;rfl
 ·cases h
theorem Ax(cK:gU Γ)(C:aL Γ S X){f:Str}{as:List Expr}{p1 p4:Pos}{i:IE}(h:Ay S r f as=some i):PE X (.Call (.Name f p1) as [] p4) (LE X.K (ae Γ i)):=by
 unfold Ay at h;split at h
 ·rename_i a
  split at h
  ·cases h
  ·have fin:∀{i:IE},(
    if aU a&&(f==("sorted":Str)&&bM f&&S.bA f&&S.bo.contains f) then do let x<-r a;some (.sortL x) else none)=some i->PE X (.Call (.Name f p1) [a] [] p4) (LE X.K (ae Γ i)):=fun {i} h=>by
    split at h
    ·rename_i hs
     rw[zx]at hs;obtain⟨x,h1,h⟩:=ai h;cases h;exact cK.2.1 S X f _ p1 p4 (ae Γ x) C hs.2 hs.1 (hr _ _ h1)
    ·cases h
   exact fin h
 ·cases h
theorem oR(C:aL Γ S X){a:Expr}{ops:List CmpOp}{bs:List Expr}{pos:Pos}{i:IE}(h:uk S r a ops bs=some i):PE X (.Compare a ops bs pos) (LE X.K (ae Γ i))/\PT X (.Compare a ops bs pos) (LT X.K (bg Γ (.cmp i))):=by
 unfold uk at h;split at h
 ·split at h
  ·cases h
  ·exact qL hr C h
 ·exact qL hr C h
omit hr in
theorem JC{e a b:Expr}{k:Nat}{p:Pos}(h:Hm e=some (a,b,k,p)):e=.Tuple [a,b] k p:=by
 cases e with
 |Tuple es k' p' =>
  rcases es with _|⟨a,_|⟨b,_|⟨c,l⟩⟩⟩ <;> cases h
  rfl
 |_=>cases h
theorem BC(C:aL Γ S X){f:Str}{as:List Expr}{p1 p4:Pos}{i:IE}(h:Gh S r f as=some i):PE X (.Call (.Name f p1) as [] p4) (LE X.K (ae Γ i)):=by
 unfold Gh at h;split at h
 ·split at h
  ·rename_i t' p hn
   rw[Bp hn];split at h
   ·rename_i hs
    rw[zx]at hs;split at h
    ·rename_i kk hk
     obtain⟨x,h1,h⟩:=ai h;cases h;exact DR C hs.1 hk (hr _ _ h1) hs.2
    ·cases h
   ·cases h
  ·unfold HY at h
   split at h
   ·rename_i ht
    rw[JC ht];split at h
    ·rename_i n1 n2
     rw[Bp n1,Bp n2];split at h
     ·rename_i hs
      rw[zx,zx]at hs;obtain⟨k1,g1,h⟩:=ai h;obtain⟨k2,g2,h⟩:=ai h;obtain⟨x,h1,h⟩:=ai h;cases h;exact BD C hs.1.1 hs.1.2 g1 g2 (hr _ _ h1) hs.2
     ·cases h
    ·cases h
   ·cases h
 ·cases h
variable (hrs:∀es i,rs es=some i->PA X es (LA X.K (aS Γ i))/\es.all aU=true)
include hrs
theorem Cd(C:aL Γ S X){o:Expr}{m:Str}{p2 p3:Pos}{as:List Expr}{i:IE}(h:Ce r rs o m p2 p3 as=some i):PE X (.Call (.Attribute o m p2) as [] p3) (LE X.K (ae Γ i)):=by
 unfold Ce at h;split at h
 ·split at h
  ·rename_i hs
   simp only[zx,decide_eq_true_eq]at hs;obtain⟨tZ,hs⟩:=hs;split at h
   ·rename_i kk hk
    obtain⟨x,h1,h⟩:=ai h;obtain⟨xs,h2,h⟩:=ai h;cases h;obtain⟨pa,pl⟩:=hrs _ _ h2;have Ng:=Kd hk;subst Ng;have pl':=pl;rw[zK,zx]at pl;refine PE.imp (L9 (My C.hu kk) (hr _ _ h1) pa (mw tZ) ?_ hs.1 (aw pl.1) (bD pl.2)) LE.mth;rw[zx,zx];refine⟨⟨Ka (bD pl'),rfl⟩,?_⟩
    have:=hs.2
    simp only[zi,yT,List.isEmpty_nil,if_true]at this ⊢;exact decide_eq_true (by first|lia|omega)
   ·cases h
  ·cases h
 ·cases h
theorem AJ(C:aL Γ S X){f:Str}{as:List Expr}{p1 p4:Pos}{i:IE}{k:Option IE}(h:FC S r f as k=some i)(hk:k=some i->PE X (.Call (.Name f p1) as [] p4) (LE X.K (ae Γ i))):PE X (.Call (.Name f p1) as [] p4) (LE X.K (ae Γ i)):=by
 unfold FC at h;split at h
 ·split at h
  ·rename_i e g p a q hv
   split at h
   ·rename_i ho
    split at h
    ·rename_i hp
     obtain⟨x,h1,h⟩:=ai h;cases h;rw[rev_eq hv];exact C5 C ho hp (hr _ _ h1)
    ·cases h
   ·exact hk h
  ·exact hk h
 ·exact hk h
theorem BG(C:aL Γ S X){f:Str}{as:List Expr}{p1 p4:Pos}{i:IE}{k:Option IE}(h:Gk S r f as k=some i)(hk:k=some i->PE X (.Call (.Name f p1) as [] p4) (LE X.K (ae Γ i))):PE X (.Call (.Name f p1) as [] p4) (LE X.K (ae Γ i)):=by
 unfold Gk at h;split at h
 ·split at h
  ·rename_i ho
   split at h
   ·rename_i hp
    obtain⟨x,h1,h⟩:=ai h;cases h;exact DT C ho hp (hr _ _ h1)
   ·cases h
  ·exact hk h
 ·exact hk h
omit hr in
theorem AG(C:aL Γ S X){f:Str}{a:Expr}{as:List Expr}{p1 p4:Pos}{i:IE}{k:Option IE}(h:FA S f (rs (a::as)) k=some i)(hk:k=some i->PE X (.Call (.Name f p1) (a::as) [] p4) (LE X.K (ae Γ i))):PE X (.Call (.Name f p1) (a::as) [] p4) (LE X.K (ae Γ i)):=by
 unfold FA at h;split at h
 ·rename_i hs
  unfold HD at hs;simp only[zx,beq_iff_eq]at hs;obtain⟨⟨h1,h2⟩,h3⟩:=hs;subst h1;obtain⟨o1,o2,o3⟩:=bh h2;obtain⟨xs,h4,rfl⟩:=zo.mp h;obtain⟨k',fa,fd,ps,g1,g2,g3,g4,g5,g6⟩:=C.rfs;obtain⟨pa,pl⟩:=hrs _ _ h4;rw[zK,zx]at pl;exact PE.imp (vD g4 g5 (C.bA h3) g1 g2 g3 .nil oh pa o1 (aw pl.1) (bD pl.2)) fun σ H Q q=>LE.call σ H Q g6 q
 ·exact hk h
theorem GK(cK:gU Γ)(C:aL Γ S X){f:Str}{as:List Expr}{p1 p4:Pos}{i:IE}(h:NA S r rs f as=some i):PE X (.Call (.Name f p1) as [] p4) (LE X.K (ae Γ i)):=by
 unfold NA at h;split at h
 ·split at h
  ·exact Ft hr C h fun h=>Ax hr cK C h
  ·split at h
   ·exact BC hr C h
   ·
    refine Dw hrs C h fun h=>?_;refine AJ hr hrs C h fun h=>?_;refine BG hr hrs C h fun h=>?_;refine AG hrs C h fun h=>?_;exact B0 hrs C h
 ·cases h
theorem uZ(cK:gU Γ)(C:aL Γ S X){f:Expr}{as:List Expr}{p:Pos}{i:IE}(h:rJ S r rs f as p=some i):PE X (.Call f as [] p) (LE X.K (ae Γ i)):=by
 unfold rJ at h;split at h
 ·exact GK hr hrs cK C h
 ·split at h
  ·rename_i hm
   exact DF hr hrs C hm h
  ·exact Cd hr hrs C h
 ·cases h
end
theorem vV{gs:List Comprehension}{x:Str}{p:Pos}{iter:Expr}{ifs:List Expr}(h:mm gs=some (x,p,iter,ifs)):gs=[⟨.Name x p,iter,ifs,0⟩]:=by
 unfold mm at h;split at h
 ·cases h;rfl
 ·cases h
theorem GI{gs:List Comprehension}{t iter:Expr}(h:ub gs=some (t,iter)):gs=[⟨t,iter,[],0⟩]:=by
 unfold ub at h;split at h
 ·cases h;rfl
 ·cases h
theorem Dv{e:Expr}{x:Str}{p:Pos}(h:de e=some (x,p)):e=.Name x p:=by
 cases e <;> first|cases h;rfl|cases h
theorem FZ{e:Expr}{x y:Str}{px py p:Pos}{k:Nat}(h:HJ e=some (x,px,y,py,k,p)):e=.Tuple [.Name x px,.Name y py] k p:=by
 cases e with
 |Tuple es k' p' =>
  rcases es with _|⟨a,_|⟨b,_|⟨c,l⟩⟩⟩
  ·cases h
  ·cases h
  ·replace h:(match de a,de b with
    |some (x,px),some (y,py)=>some (x,px,y,py,k',p')
    |_,_=>none)=some (x,px,y,py,k,p):=h
   split at h
   ·rename_i h1 h2
    cases h;rw[Dv h1,Dv h2]
   ·cases h
  ·cases h
 |_=>cases h
theorem Jo{e a b:Expr}{p q:Pos}(h:rM e=some (p,a,b,q)):e=.Call (.Name "zip" p) [a,b] [] q:=by
 unfold rM at h;split at h
 ·rename_i f p' as q' hr
  split at h
  ·rename_i hf
   have hf:f = "zip":=by simpa using hf
   subst hf;split at h
   ·split at h
    ·cases h
     unfold ij at hr;split at hr
     ·cases hr;rfl
     ·cases hr
    ·cases h
   ·cases h
  ·cases h
 ·cases h
theorem Af{e a b:Expr}{p q:Pos}(h:rM e=some (p,a,b,q)):aU a=true/\aU b=true:=by
 unfold rM at h;split at h
 ·split at h
  ·split at h
   ·split at h
    ·rename_i hp
     cases h;simpa using hp
    ·cases h
   ·cases h
  ·cases h
 ·cases h
theorem JL(cK:gU Γ)(ih:Sound Γ n)(S:Sc)(X:Cx)(e:Expr)(i:IE)(C:aL Γ S X)(h:cE S (n+1) e=some i):PE X e (LE X.K (ae Γ i)):=by
 have hr:∀e i,cE S n e=some i->PE X e (LE X.K (ae Γ i)):=fun e i h=>ih.E _ _ _ _ C h;have hrs:∀es i,mL S n es=some i->PA X es (LA X.K (aS Γ i))/\es.all aU=true:=fun e i h=>ih.Es _ _ _ _ C h;cases e with
 |Name x p=>exact Br C h
 |Constant c k p=>exact uY h
 |BinOp a op b p =>
  have h:(if vO op=true then (do let x<-cE S n a;let y<-cE S n b;some (IE.bin op x y)) else none)=some i:=h;split at h
  ·obtain⟨x,h1,h⟩:=ai h
   obtain⟨y,h2,h⟩:=ai h;cases h;exact PE.imp (OG (Ml op) (hr _ _ h1) (hr _ _ h2)) (LE.bin mf)
  ·cases h
 |Compare a ops bs p=>exact(oR hr C h).1
 |BoolOp op es p=>exact B9 hr h
 |UnaryOp op a p=>exact Ff hr h
 |IfExp c a b p =>
  obtain⟨k,h0,h⟩:=ai h;obtain⟨x,h1,h⟩:=ai h;obtain⟨y,h2,h⟩:=ai h;cases h;exact PE.imp (FT (ih.C _ _ _ _ C h0) (hr _ _ h1) (hr _ _ h2)) (LE.ite)
 |Tuple es k p =>
  obtain⟨x,h1,h⟩:=ai h;cases h;exact PE.imp (sZ (hrs _ _ h1).1) (LE.tup)
 |List es p =>
  obtain⟨x,h1,h⟩:=ai h;cases h;exact PE.imp (ly (hrs _ _ h1).1) (LE.lst)
 |Dict ks vs p =>
  cases ks with
  |nil =>
   cases vs with
   |nil=>cases h;exact PE.imp FU (LE.aY)
   |cons a l=>cases h
  |cons a l =>
   have h:(if decide ((a::l).length<=15)=true then (do let p<-ou (cE S n) (a::l) vs;some (IE.dicS p.1 p.2)) else none)=some i:=h;split at h
   ·rename_i hl
    obtain⟨q,h1,h⟩:=ai h;cases h;obtain⟨g1,g2,gW,g3,g4⟩:=oq hr (pos:=p) (xs:=q.1) (es:=q.2) h1;exact PE.imp (J4 g3 g1 g2 (fun z=>by cases z) (by simpa using hl)) (LE.Ry g4)
   ·cases h
 |Subscript a b p=>exact CQ hr C (fun e i h=>ih.O _ _ _ _ C h) h
 |Call f as ks p =>
  have h:(if ks.isEmpty=true then rJ S (cE S n) (mL S n) f as p else HR S (cE S n) f as ks)=some i:=h;split at h
  ·rename_i hk
   have hk:ks=[]:=yc.mp hk;subst hk;exact uZ hr hrs cK C h
  ·exact F8 hr C h
 |Attribute o f p=>exact Et hr C h
 |ListComp elt gs sc p =>
  have h:(match mm gs with
   |some (x,_,iter,ifs)=>if cX S sc [x]=true then (do
     let it<-cT S n iter
     let c<-EO (S.comp sc [x]) n ifs
     let e<-cE (S.comp sc [x]) n elt
     some (IE.comp ((slot S.N x).getD S.N.length) it c e)) else none
   |none=>uj S (cE S n) (fun S'=>cE S' n elt) gs sc)=some i:=h
  split at h
  ·rename_i x px iter ifs hg
   rw[vV hg];split at h
   ·rename_i hc
    obtain⟨it,h1,h⟩:=ai h;obtain⟨c,h2,h⟩:=ai h;obtain⟨y,h3,h⟩:=ai h;cases h;obtain⟨t1,t2⟩:=ih.T _ X (.Name x px) _ _ C h1;exact FW C hc t1 t2 (fun X' C' _=>ih.Co _ _ _ _ C' h2) (fun X' C' _=>ih.E _ _ _ _ C' h3)
   ·cases h
  ·unfold uj at h
   split at h
   ·rename_i t iter Nm
    rw[GI Nm];split at h
    ·rename_i ht hi
     rw[FZ ht,Jo hi];have fN:=Af hi;split at h
     ·rename_i hz
      rw[zx]at hz;obtain⟨u,h1,h⟩:=ai h;obtain⟨v,h2,h⟩:=ai h;obtain⟨y,h3,h⟩:=ai h;cases h;exact FV C hz.1 hz.2 (hr _ _ h1) (hr _ _ h2) fN.1 fN.2 (fun X' C' _=>ih.E _ _ _ _ C' h3)
     ·cases h
    ·cases h
   ·cases h
 |_=>cases h
theorem Fv(ih:Sound Γ n)(S:Sc)(X:Cx)(es:List Expr)(i:cH)(C:aL Γ S X)(h:mL S (n+1) es=some i):PA X es (LA X.K (aS Γ i))/\es.all aU=true:=by
 cases es with
 |nil =>
  cases (show some cH.nil=some i from h);exact⟨PA.imp bq LA.nil,rfl⟩
 |cons e es =>
  replace h:(if aU e then (do let x<-cE S n e;let xs<-mL S n es;some (.cons x xs)) else none)=some i:=h;split at h
  ·rename_i hp
   obtain⟨x,h1,h⟩:=ai h;obtain⟨xs,h2,h⟩:=ai h;cases h;obtain⟨p1,p2⟩:=ih.Es _ _ _ _ C h2;exact⟨PA.imp (ay (ih.E _ _ _ _ C h1) p1 (aw hp)) LA.cons,by rw[zK,hp,p2];rfl⟩
  ·cases h
theorem JK(ih:Sound Γ n)(S:Sc)(X:Cx)(e:Option Expr)(i:lQ)(C:aL Γ S X)(h:cO S (n+1) e=some i):PO X e (LO X.K (gF Γ i)):=by
 cases e with
 |none =>
  cases (show some lQ.none=some i from h);exact PO.imp J0 LO.none
 |some e =>
  replace h:(do let x<-cE S n e;some (lQ.some x))=some i:=h;obtain⟨x,h1,h⟩:=ai h;cases h;exact PO.imp (JZ (ih.E _ _ _ _ C h1)) LO.some
theorem Fw(ih:Sound Γ n)(S:Sc)(X:Cx)(e:List Expr)(i:mP)(C:aL Γ S X)(h:EO S (n+1) e=some i):jz X e (LT X.K (ir Γ i)):=by
 rcases e with _|⟨c,_|⟨c2,l⟩⟩
 ·cases (show some mP.none=some i from h)
  exact jz.imp vp fun σ H Q q=>by
   obtain⟨ι,ρ,M,b,M',S,R,e,k⟩:=q;obtain⟨rfl,rfl⟩:=af e;exact k H ι S Ext.refl
 ·replace h:(do let k<-cC S n c;some (mP.some k))=some i:=h
  obtain⟨x,h1,h⟩:=ai h;cases h;exact vo (ih.C _ _ _ _ C h1)
 ·cases (show (none:Option mP)=some i from h)
theorem Df{X:Cx}{e:Expr}{t t':TT}(h:PW X e t)(k:∀σ H Q,t' σ H Q->t σ H Q):PW X e t':=fun whole pins s σ H Q I q=>h whole pins s σ H Q I (k σ H Q q)
theorem vi{b:Expr}{f:Str}{p q:Pos}{as:List Expr}(h:ij b=some (f,p,as,q)):b=.Call (.Name f p) as [] q:=by
 unfold ij at h;split at h
 ·cases h;rfl
 ·cases h
theorem p8{e:Expr}{env:Env}(h:DQ e=true):∀x,foldedSetIterable e env x=pure x:=by
 intro x;cases e <;> first|rfl|exact absurd h zt
theorem AE{S:Sc}{X:Cx}{r:Expr->Option IE}(hr:∀e i,r e=some i->PE X e (LE X.K (ae Γ i)))(C:aL Γ S X){tg:Expr}{f:Str}{as:List Expr}{p q:Pos}{i:IT}(h:AF S r f as=some i):PI X tg (.Call (.Name f p) as [] q) (LI X.K (eZ Γ i)):=by
 unfold AF at h;split at h
 ·rename_i hs
  unfold HC at hs;simp only[zx,beq_iff_eq]at hs;obtain⟨⟨⟨⟨h1,h2⟩,h3⟩,h4⟩,h5⟩:=hs;subst h1;split at h
  ·simp only[zK,wZ,xJ]at h5
   obtain⟨x,g1,h⟩:=ai h;cases h;exact PI.imp (Dj (C.bA h3) (C.bo _ (az h4)) (ay (hr _ _ g1) bq (aw h5)) (aw h5)) LI.rng1
  ·simp only[zK,wZ,xJ,zx]at h5
   obtain⟨x,g1,h⟩:=ai h;obtain⟨y,g2,h⟩:=ai h;cases h;exact PI.imp (Di (C.bA h3) (C.bo _ (az h4)) (ay (hr _ _ g1) (ay (hr _ _ g2) bq (aw h5.2)) (aw h5.1)) (by rw[aw h5.1,aw h5.2];rfl) (aw h5.2)) LI.sG
  ·cases h
 ·cases h
theorem JH(ih:Sound Γ n)(S:Sc)(X:Cx)(tg e:Expr)(i:IT)(C:aL Γ S X)(h:cT S (n+1) e=some i):PI X tg e (LI X.K (eZ Γ i))/\∀x,foldedSetIterable e X.env x=pure x:=by
 have seq:(cE S n e).map IT.seq=some i->PI X tg e (LI X.K (eZ Γ i)):=fun h=>by
  obtain⟨x,h1,rfl⟩:=zo.mp h;exact PI.imp (sY (ih.E _ _ _ _ C h1)) LI.seq
 have h:(match ij e with
  |some (f,_,as,_)=>if (f==("range":Str))=true then AF S (cE S n) f as else (cE S n e).map IT.seq
  |none=>if DQ e=true then (cE S n e).map IT.seq else none)=some i:=h
 split at h
 ·rename_i f p as q hg
  have he:=vi hg;split at h
  ·refine⟨?_,by rw[he];exact fun _=>rfl⟩
   rw[he];exact AE (fun e i h=>ih.E _ _ _ _ C h) C h
  ·exact⟨seq h,by rw[he];exact fun _=>rfl⟩
 ·split at h
  ·rename_i hit
   exact⟨seq h,p8 hit⟩
  ·cases h
theorem BV{X:Cx}{r:Expr->Option IC}(hr:∀e i,r e=some i->PT X e (LT X.K (bg Γ i))){op:BoolOp}{es:List Expr}{pos:Pos}{i:IC}(h:BW r op es=some i):PT X (.BoolOp op es pos) (LT X.K (bg Γ i)):=by
 unfold BW at h;split at h
 ·obtain⟨k,h1,h⟩:=ai h
  obtain⟨j,h2,h⟩:=ai h;cases h;cases op with
  |And=>exact PT.imp (sU (hr _ _ h1) (vn (hr _ _ h2))).pt LT.and
  |Or=>exact PT.imp (Bh (hr _ _ h1) (De (hr _ _ h2))).pt LT.or
 ·obtain⟨k,h1,h⟩:=ai h
  obtain⟨j,h2,h⟩:=ai h;obtain⟨l,h3,h⟩:=ai h;cases h;cases op with
  |And=>exact PT.imp (sU (hr _ _ h1) (Df (sU (hr _ _ h2) (vn (hr _ _ h3))) LT.and)).pt LT.and
  |Or=>exact PT.imp (Bh (hr _ _ h1) (Df (Bh (hr _ _ h2) (De (hr _ _ h3))) LT.or)).pt LT.or
 ·cases h
theorem JM(ih:Sound Γ n)(S:Sc)(X:Cx)(e:Expr)(i:IC)(C:aL Γ S X)(h:cC S (n+1) e=some i):PT X e (LT X.K (bg Γ i)):=by
 cases e with
 |UnaryOp op a p =>
  have h:(if (op==.Not)=true then (cC S n a).map IC.not else none)=some i:=h;split at h
  ·rename_i ho
   have ho:op=.Not:=by simpa using ho
   subst ho;obtain⟨k,h1,rfl⟩:=zo.mp h;exact PT.imp (LV (ih.C _ _ _ _ C h1)) LT.not
  ·cases h
 |BoolOp op es p=>exact BV (fun e i h=>ih.C _ _ _ _ C h) h
 |Compare a ops bs p =>
  obtain⟨k,h1,rfl⟩:=zo.mp (show (uk S (cE S n) a ops bs).map IC.cmp=some i from h);exact(oR (fun e i h=>ih.E _ _ _ _ C h) C h1).2
 |Name x p =>
  obtain⟨k,h1,rfl⟩:=zo.mp (show (cE S n (.Name x p)).map IC.tru=some i from h);exact sV (ih.E _ _ _ _ C h1) fun _=>rfl
 |Call f as ks p =>
  obtain⟨k,h1,rfl⟩:=zo.mp (show (cE S n (.Call f as ks p)).map IC.tru=some i from h);exact sV (ih.E _ _ _ _ C h1) fun _=>rfl
 |Subscript a b p =>
  obtain⟨k,h1,rfl⟩:=zo.mp (show (cE S n (.Subscript a b p)).map IC.tru=some i from h);exact sV (ih.E _ _ _ _ C h1) fun _=>rfl
 |_=>cases h
theorem sound(cK:gU Γ):∀n,Sound Γ n
 |0=>⟨(fun _ _ _ i _ h=>by cases (show (none:Option IE)=some i from h)),(fun _ _ _ i _ h=>by cases (show (none:Option cH)=some i from h)),(fun _ _ _ i _ h=>by cases (show (none:Option lQ)=some i from h)),(fun _ _ _ _ i _ h=>by cases (show (none:Option IT)=some i from h)),(fun _ _ _ i _ h=>by cases (show (none:Option IC)=some i from h)),(fun _ _ _ i _ h=>by cases (show (none:Option mP)=some i from h))⟩
 |n+1=>⟨JL cK (sound cK n),Fv (sound cK n),JK (sound cK n),JH (sound cK n),JM (sound cK n),Fw (sound cK n)⟩
end
end L3
namespace L3
open PySem PySem.Spec PyProof.Rows L2
section
variable {Γ:Ctx}{n:Nat}{K:Q_}
theorem LS.set{i:Nat}{fe:DE}(D:Ends)(σ:St)(H:Hp)(h:LS K (fun ρ=>do let x<-fe ρ;pure (.nx (ρ.set i (some x)))) D σ H):pC (LE K fe) (cN i) D σ H:=by
 obtain⟨ι,ρ,M,fl,M',S,R,e,k⟩:=h;have e0:=aa e;clear e;obtain⟨x,M1,e1,e⟩:=e0;have e0:=af e;clear e;obtain⟨rfl,rfl⟩:=e0;exact⟨ι,ρ,M,x,_,S,R,e1,fun v H1 ι1 r1 S1 X1=>k H1 ι1 S1 X1 _ ((R.mono X1).set r1 i)⟩
theorem LS.setP{i j:Nat}{fe:DE}(D:Ends)(σ:St)(H:Hp)(h:LS K (fun ρ=>do let x<-fe ρ;let p<-lift (pairD x);pure (.nx ((ρ.set i (some p.1)).set j (some p.2)))) D σ H):pC (LE K fe) (p6 K 2 (gN (cN i) (gN (cN j) p7))) D σ H:=by
 obtain⟨ι,ρ,M,fl,M',S,R,e,k⟩:=h;have e0:=aa e;clear e;obtain⟨x,M1,e1,e⟩:=e0;have e0:=aa e;clear e;obtain⟨p,M2,e2,e⟩:=e0;have aM:=ba e2;clear e2;obtain⟨hp,rfl⟩:=aM;have e0:=af e;clear e;obtain⟨rfl,rfl⟩:=e0;refine⟨ι,ρ,M,x,_,S,R,e1,fun v H1 ι1 r1 S1 X1=>?_⟩;rw[tf hp]at r1;cases r1 with
 |tup t q =>
  cases q with
  |cons q1 q2 =>
   cases q2 with
   |cons q2 q3 =>
    cases q3;exact⟨_,_,rfl,bT t,rfl,_,_,rfl,_,_,rfl,rfl,k H1 ι1 S1 X1 _ (((R.mono X1).set q1 i).set q2 j)⟩
theorem LS.setIx{fo fi fe:DE}(D:Ends)(σ:St)(H:Hp)(h:LS K (fun ρ=>do let v<-fe ρ;let x<-fo ρ;let y<-fi ρ;setIx x y v;pure (.nx ρ)) D σ H):pC (LE K fe) (Nz (LE K fo) (LE K fi) (NV K)) D σ H:=by
 obtain⟨ι,ρ,M,fl,M',S,R,e,k⟩:=h;have e0:=aa e;clear e;obtain⟨v,M1,e1,e⟩:=e0;have e0:=aa e;clear e;obtain⟨x,M2,e2,e⟩:=e0;have e0:=aa e;clear e;obtain⟨y,M3,e3,e⟩:=e0;have e0:=aa e;clear e;obtain⟨u,M4,e4,e⟩:=e0;have e0:=af e;clear e;obtain⟨rfl,rfl⟩:=e0;refine⟨ι,ρ,M,v,M1,S,R,e1,fun v1 H1 ι1 r1 S1 X1=>?_⟩;refine⟨ι1,ρ,M1,x,M2,S1,R.mono X1,e2,fun v2 H2 ι2 r2 S2 X2=>?_⟩;refine⟨ι2,ρ,M2,y,M3,S2,(R.mono X1).mono X2,e3,fun v3 H3 ι3 r3 S3 X3=>?_⟩;exact⟨ι3,M3,_,x,y,v,u,S3,r2.mono X3,r3,(r1.mono X2).mono X3,e4,fun H4 S4 X4=>k H4 ι3 S4 (((X1.trans X2).trans X3).trans X4) σ ((((R.mono X1).mono X2).mono X3).mono X4)⟩
noncomputable def oK:List Nat->qS
 |[]=>p7
 |i::is=>gN (cN i) (oK is)
theorem LS.gP{P:List V->St->Hp->Prop}:∀{is:List Nat} {ds:List D} {vs:List V} {ρ ρ1:Ev} {σ:St} {ι:List Addr} {H:Hp},gP is ds ρ=some ρ1->aC K ι H ds vs->bE K ι H ρ σ->∃σ1,bE K ι H ρ1 σ1/\∀Q:St->Hp->Prop,Q σ1 H->oK is vs σ H Q
 |[],[],_,ρ,ρ1,σ,ι,H,h,r,R=>by
  cases h;cases r;exact⟨σ,R,fun Q q=>⟨rfl,q⟩⟩
 |[],_::_,_,_,_,_,_,_,h,_,_=>by cases h
 |_::_,[],_,_,_,_,_,_,h,_,_=>by cases h
 |i::is,d::ds,_,ρ,ρ1,σ,ι,H,h,.cons r t,R=>by
  replace h:L3.gP is ds (ρ.set i (some d))=some ρ1:=h;obtain⟨σ1,R1,k⟩:=LS.gP (P:=P) h t (R.set r i);exact⟨σ1,R1,fun Q q=>⟨_,_,rfl,k Q q⟩⟩
theorem qN:∀{is:List Nat} {ds:List D} {ρ ρ1:Ev},L3.gP is ds ρ=some ρ1->ds.length=is.length
 |[],[],_,_,_=>rfl
 |[],_::_,_,_,h=>by cases h
 |_::_,[],_,_,h=>by cases h
 |i::is,d::ds,ρ,ρ1,h=>by
  replace h:L3.gP is ds (ρ.set i (some d))=some ρ1:=h;rw[zi,zi,qN h]
theorem LS.dg{is:List Nat}{fs:Ev->Mo Src}{fb:Ev->Mo Fl}(D:Ends)(σ:St)(H:Hp)(h:LS K (fun ρ=>do let s<-fs ρ;L3.dg s.ck is fb s.ds ρ) D σ H):Av (LI K fs) (p6 K is.length (oK is)) (LS K fb) D σ H:=by
 obtain⟨ι,ρ,M,fl,M',S,R,e,k⟩:=h;have e0:=aa e;clear e;obtain⟨src,M1,e1,e⟩:=e0;refine⟨ι,ρ,M,src,M1,S,R,e1,fun J H1 ι1 S1 X1 hJ=>?_⟩;refine⟨fun n m σ' H'=>m=src.ds.length-n/\n<=src.ds.length/\∃ι' ρ' M2,aK K ι' M2 H'/\bE K ι' H' ρ' σ'/\Ext K ι1 H1 ι' H'/\L3.dg src.ck is fb (src.ds.drop n) ρ' M2=some (.ok fl,M'),
  ⟨_,rfl,yq _,ι1,ρ,M1,S1,R.mono X1,Ext.refl,e⟩,?_⟩
 rintro n m σ' H' ⟨rfl,hj,ι',ρ',M2,S2,R2,X2,e2⟩;by_cases bU:n<src.ds.length
 ·right
  rw[yk bU]at e2;have aM:=aa e2;clear e2;obtain⟨_,_,e3,e2⟩:=aM;have aZ:=cm e3;clear e3;obtain⟨ok,rfl⟩:=aZ;have aM:=aa e2;clear e2;obtain⟨xs,_,e3,e2⟩:=aM;have aZ:=ba e3;clear e3;obtain⟨Ik,rfl⟩:=aZ;have aM:=aa e2;clear e2;obtain⟨ρ1,_,e3,e2⟩:=aM;have aZ:=ba e3;clear e3;obtain⟨hb,rfl⟩:=aZ;have aM:=aa e2;clear e2;obtain⟨f,M3,e3,e2⟩:=aM;obtain⟨go,iZ⟩:=(hJ ι' H' _ X2 S2 ok).1 n _ (zw bU);refine⟨go,fun σ3 H3=>∃ι3 ρ3 M4,aK K ι3 M4 H3/\bE K ι3 H3 ρ3 σ3/\Ext K ι1 H1 ι3 H3/\L3.dg src.ck is fb (src.ds.drop (n+1)) ρ3 M4=some (.ok fl,M'),
   fun σ3 H3 ⟨ι3,ρ3,M4,h1,h2,h3,h4⟩=>⟨src.ds.length-(n+1),by omega,rfl,bU,ι3,ρ3,M4,h1,h2,h3,h4⟩,fun x H'' y=>?_⟩
  obtain⟨rfl,rx⟩:=iZ x H'' y;cases hd:src.ds[n] with
  |tup ds =>
   rw[hd]at rx Ik;cases Ik;cases rx with
   |tup t q =>
    obtain⟨σ1,R1,kk⟩:=LS.gP (P:=fun _ _ _=>True) hb q R2;refine⟨_,_,rfl,bT t,by rw[<- q.length];exact qN hb,kk _ ?_⟩;refine⟨ι',_,_,f,M3,S2,R1,e3,fun H3 ι3 S3 X3=>?_⟩;cases f with
    |nx ρ3=>exact fun σ3 R3=>⟨ι3,ρ3,M3,S3,R3,X2.trans X3,e2⟩
    |ct ρ3=>exact fun σ3 R3=>⟨ι3,ρ3,M3,S3,R3,X2.trans X3,e2⟩
    |bk ρ3 =>
     have aM:=af e2;clear e2;obtain⟨rfl,rfl⟩:=aM;exact fun σ3 R3=>k H3 ι3 S3 ((X1.trans X2).trans X3) σ3 R3
    |rt v =>
     have aM:=af e2;clear e2;obtain⟨rfl,rfl⟩:=aM;exact fun v' r'=>k H3 ι3 S3 ((X1.trans X2).trans X3) v' r'
  |_=>rw[hd]at Ik;cases Ik
 ·left
  have ej:n=src.ds.length:=by first|lia|omega
  subst ej;rw[yF]at e2;have aM:=aa e2;clear e2;obtain⟨_,_,e3,e2⟩:=aM;have aZ:=cm e3;clear e3;obtain⟨ok,rfl⟩:=aZ;have aM:=af e2;clear e2;obtain⟨rfl,rfl⟩:=aM;exact⟨(hJ ι' H' _ X2 S2 ok).2,k H' ι' S2 (X1.trans X2) σ' R2⟩
theorem LS.expr{fe:DE}(D:Ends)(σ:St)(H:Hp)(h:LS K (fun ρ=>do let _<-fe ρ;pure (.nx ρ)) D σ H):Ht (LE K fe) D σ H:=by
 obtain⟨ι,ρ,M,fl,M',S,R,e,k⟩:=h;have e0:=aa e;clear e;obtain⟨x,M1,e1,e⟩:=e0;have e0:=af e;clear e;obtain⟨rfl,rfl⟩:=e0;exact⟨ι,ρ,M,x,_,S,R,e1,fun v H1 ι1 r1 S1 X1=>k H1 ι1 S1 X1 _ (R.mono X1)⟩
theorem LS.ret{fe:DE}(D:Ends)(σ:St)(H:Hp)(h:LS K (fun ρ=>do let x<-fe ρ;pure (.rt x)) D σ H):La (LE K fe) D σ H:=by
 obtain⟨ι,ρ,M,fl,M',S,R,e,k⟩:=h;have e0:=aa e;clear e;obtain⟨x,M1,e1,e⟩:=e0;have e0:=af e;clear e;obtain⟨rfl,rfl⟩:=e0;exact⟨ι,ρ,M,x,_,S,R,e1,fun v H1 ι1 r1 S1 X1=>k H1 ι1 S1 X1 v r1⟩
theorem LS.ud{fl:Ev->Fl}(D:Ends)(σ:St)(H:Hp)(h:LS K (fun ρ=>pure (fl ρ)) D σ H):∃ι ρ,bE K ι H ρ σ/\QD K D ι H (fl ρ):=by
 obtain⟨ι,ρ,M,f,M',S,R,e,k⟩:=h;have e0:=af e;clear e;obtain⟨rfl,rfl⟩:=e0;exact⟨ι,ρ,R,k H ι S Ext.refl⟩
theorem LS.ifS{fc:Ev->Mo Bool}{fa fb:Ev->Mo Fl}(D:Ends)(σ:St)(H:Hp)(h:LS K (fun ρ=>do let k<-fc ρ;if k=true then fa ρ else fb ρ) D σ H):Fo (LT K fc) (LS K fa) (LS K fb) D σ H:=by
 obtain⟨ι,ρ,M,fl,M',S,R,e,k⟩:=h;have e0:=aa e;clear e;obtain⟨b,M1,e1,e⟩:=e0;refine⟨ι,ρ,M,b,M1,S,R,e1,fun H1 ι1 S1 X1=>?_⟩;split at e
 ·rename_i hb
  rw[if_pos hb];exact⟨ι1,ρ,_,fl,M',S1,R.mono X1,e,fun H' ι' S' X'=>k H' ι' S' (X1.trans X')⟩
 ·rename_i hb
  rw[if_neg hb];exact⟨ι1,ρ,_,fl,M',S1,R.mono X1,e,fun H' ι' S' X'=>k H' ι' S' (X1.trans X')⟩
theorem LS.while{fc:Ev->Mo Bool}{fb:Ev->Mo Fl}{wh:Nat}(D:Ends)(σ:St)(H:Hp)(h:LS K (fun ρ=>dO fc fb wh ρ) D σ H):CL (LT K fc) (LS K fb) D σ H:=by
 obtain⟨ι,ρ,M,fl,M',S,R,e,k⟩:=h;refine⟨fun m σ' H'=>∃ι' ρ' M2,aK K ι' M2 H'/\bE K ι' H' ρ' σ'/\Ext K ι H ι' H'/\dO fc fb m ρ' M2=some (.ok fl,M'),⟨wh,ι,ρ,M,S,R,Ext.refl,e⟩,?_⟩;rintro m σ' H' ⟨ι',ρ',M2,S2,R2,X2,e2⟩;cases m with
 |zero=>exact(ah e2).elim
 |succ m =>
  unfold dO at e2;have aM:=aa e2;clear e2;obtain⟨b,M3,e3,e2⟩:=aM;refine⟨ι',ρ',M2,b,M3,S2,R2,e3,fun H3 ι3 S3 X3=>?_⟩;cases b with
  |true =>
   rw[if_pos rfl]at e2 ⊢;have aM:=aa e2;clear e2;obtain⟨f,M4,e4,e2⟩:=aM;refine⟨fun σ4 H4=>∃ι' ρ' M2,aK K ι' M2 H4/\bE K ι' H4 ρ' σ4/\Ext K ι H ι' H4/\dO fc fb m ρ' M2=some (.ok fl,M'),fun σ4 H4 q=>⟨m,xu _,q⟩,?_⟩;refine⟨ι3,ρ',M3,f,M4,S3,R2.mono X3,e4,fun H4 ι4 S4 X4=>?_⟩;cases f with
   |nx ρ4=>exact fun σ4 R4=>⟨ι4,ρ4,M4,S4,R4,(X2.trans X3).trans X4,e2⟩
   |ct ρ4=>exact fun σ4 R4=>⟨ι4,ρ4,M4,S4,R4,(X2.trans X3).trans X4,e2⟩
   |bk ρ4 =>
    have aM:=af e2;clear e2;obtain⟨rfl,rfl⟩:=aM;exact fun σ4 R4=>k H4 ι4 S4 ((X2.trans X3).trans X4) σ4 R4
   |rt v =>
    have aM:=af e2;clear e2;obtain⟨rfl,rfl⟩:=aM;exact fun v' r'=>k H4 ι4 S4 ((X2.trans X3).trans X4) v' r'
  |false =>
   rw[if_neg zt]at e2 ⊢;have aM:=af e2;clear e2;obtain⟨rfl,rfl⟩:=aM;exact k H3 ι3 S3 (X2.trans X3) σ' (R2.mono X3)
theorem LS.seq{fa fb:Ev->Mo Fl}(D:Ends)(σ:St)(H:Hp)(h:LS K (fun ρ=>do
  let f<-fa ρ
  (match f with
  |.nx ρ'=>fb ρ'
  |.rt v=>pure (.rt v)
  |.bk ρ'=>pure (.bk ρ')
  |.ct ρ'=>pure (.ct ρ'))) D σ H):Fm (LS K fa) (LS K fb) D σ H:=by
 obtain⟨ι,ρ,M,fl,M',S,R,e,k⟩:=h;have e0:=aa e;clear e;obtain⟨f,M1,e1,e⟩:=e0;refine⟨ι,ρ,M,f,M1,S,R,e1,fun H1 ι1 S1 X1=>?_⟩;cases f with
 |nx ρ1=>exact fun σ1 R1=>⟨ι1,ρ1,M1,fl,M',S1,R1,e,fun H' ι' S' X'=>k H' ι' S' (X1.trans X')⟩
 |rt v=>have e0:=af e;clear e;obtain⟨rfl,rfl⟩:=e0;exact k H1 ι1 S1 X1
 |bk ρ1=>have e0:=af e;clear e;obtain⟨rfl,rfl⟩:=e0;exact k H1 ι1 S1 X1
 |ct ρ1=>have e0:=af e;clear e;obtain⟨rfl,rfl⟩:=e0;exact k H1 ι1 S1 X1
structure lO (Γ:Ctx) (n:Nat):Prop where
 S:∀(S:Sc) (X:Cx) (e:Stmt) (i:IS),aL Γ S X->(∀x,X.fn x=true)->cS S n e=some i->PS X e (LS X.K (bc Γ i))
 Ss:∀(S:Sc) (X:Cx) (e:List Stmt) (i:aI),aL Γ S X->(∀x,X.fn x=true)->dD S n e=some i->dB X e (LS X.K (aq Γ i))
end
section
variable {Γ:Ctx}{n:Nat}
theorem CP{e o i:Expr}{p:Pos}{l:Nat}{env:Env}:swapsWithSole [.Subscript o i p] e l env=pure false/\swappedStores [.Subscript o i p] e env=pure none:=by
 constructor
 ·cases e <;> rfl
 ·cases e <;> rfl
theorem JE{e:Expr}{x:Str}{p:Pos}{l:Nat}{env:Env}(hn:gZ e=true):swapsWith e (some (.Name x p)) l env=pure false:=by
 cases e <;> first|rfl|cases hn
theorem va{e:Expr}{l:Nat}{env:Env}(hn:gZ e=true):swapsWith e none l env=pure false:=by
 cases e <;> first|rfl|cases hn
theorem NR{o i:Expr}{p:Pos}{env:Env}(h:HV i=true):∀v,assign (.Subscript o i p) env v=(do
   let ov<-holding [v] (eval o env)
   let iv<-holding [v,ov] (eval i env)
   standAt p
   holding [v,ov,iv] (setItem ov iv v)
   release [v,ov,iv] []):=by
 intro v;cases i <;> first|rfl|exact absurd h zt
theorem FK{S:Sc}{X:Cx}{sc:Scope}{x y:Str}{px pos py Aw:Pos}{elt iter:Expr}{ifs:List Expr}{j i:Nat}{fs:Ev->Mo Src}{fc:Ev->Mo Bool}{fe:DE}(C:aL Γ S X)(h:cX S sc [x]=true)(hi:PI X (.Name x px) iter (LI X.K fs))(hs:∀x,foldedSetIterable iter X.env x=pure x)
  (htc:∀X',aL Γ (S.comp sc [x]) X'->X'.K=X.K->jz X' ifs (LT X'.K fc)) (hte:∀X',aL Γ (S.comp sc [x]) X'->X'.K=X.K->PE X' elt (LE X'.K fe)) (hy:X.N[i]?=some y) (hl:Loc X.env.scope y) (hf:X.fn y=true) :
  PS X (.Assign [.Name y py] (.ListComp elt [⟨.Name x px,iter,ifs,0⟩] sc pos) Aw) (LS X.K (fun ρ=>do
   let v<-(do
    let s<-fs ρ
    need (s.ds.length<=zp)
    let ys<-dJ s.ck fc fe (ρ.set j none) s.ds
    bu (.lst ys))
   pure (.nx (ρ.set i (some v))))):=by
 intro pins s σ H D I q;have CS:=lL C I.ok h;have q2:=LS.set D σ H q;exact JX C.calm CS (fun _ _ _ _=>lx CS rfl _ _ _ _) hi (fun Ca s H fp=>htc _ (jX C h _ Ca s H fp) rfl) (fun Ca s H fp=>hte _ (jX C h _ Ca s H fp) rfl) hs C.nd hy hl (.inl hf) pins s σ H D I (LE.comp σ H _ q2)
theorem KA{v elt:Expr}{gs:List Comprehension}{sc:Scope}(h:BY v=some (elt,gs,sc)):∃p,v=.ListComp elt gs sc p:=by
 cases v with
 |ListComp a b c p=>cases h;exact⟨p,rfl⟩
 |_=>cases h
theorem BR(hE:∀n,Sound Γ n){S:Sc}{X:Cx}(C:aL Γ S X){es:List Expr}{k1:Nat}{p1 p q:Pos}{f:Str}{as:List Expr}{i:IP}(h1:f = "enumerate")(h:I0 S (cE S n) f as=some i):PI X (.Tuple es k1 p1) (.Call (.Name f p) as [] q) (mO X.K (kc Γ i)):=by
 rcases as with _|⟨a,_|⟨_,_⟩⟩
 ·cases h
 ·replace h:(if bM f&&S.bA f&&S.bo.contains f&&aU a then (cE S n a).map IP.enum else none)=some i:=h
  split at h
  ·rename_i hs
   simp only[zx]at hs;obtain⟨⟨⟨h2,h3⟩,h4⟩,h5⟩:=hs;obtain⟨x,g,rfl⟩:=zo.mp h;subst h1;exact PI.imp (J2 (C.bA h3) (C.bo _ (az h4)) (ay ((hE n).E _ _ _ _ C g) bq (aw h5)) (aw h5)) mO.enum
  ·cases h
 ·cases h
theorem JJ(hE:∀n,Sound Γ n){S:Sc}{X:Cx}(C:aL Γ S X){es:List Expr}{k1:Nat}{p1:Pos}{e:Expr}{i:IP}(h:cP S n e=some i):PI X (.Tuple es k1 p1) e (mO X.K (kc Γ i))/\∀x,foldedSetIterable e X.env x=pure x:=by
 have seq:(cE S n e).map IP.seq=some i->PI X (.Tuple es k1 p1) e (mO X.K (kc Γ i)):=fun h=>by
  obtain⟨x,h1,rfl⟩:=zo.mp h;exact PI.imp (sY ((hE n).E _ _ _ _ C h1)) fun σ H R q=>LI.seq σ H R (mO.to σ H R q)
 delta cP at h;cases hr:ij e with
 |some q =>
  obtain⟨f,p,as,q⟩:=q;rw[hr]at h;dsimp only at h;have he:=vi hr;split at h
  ·rename_i hf
   refine⟨?_,by rw[he];exact fun _=>rfl⟩;rw[he];exact BR hE C (by simpa using hf) h
  ·exact⟨seq h,by rw[he];exact fun _=>rfl⟩
 |none =>
  rw[hr]at h;dsimp only at h;split at h
  ·rename_i hit
   exact⟨seq h,p8 hit⟩
  ·cases h
theorem lB{e:Expr}{x:Str}{p:Pos}(h:de e=some (x,p)):e=.Name x p:=by
 cases e <;> first|cases h;rfl|cases h
theorem Bk(hE:∀n,Sound Γ n){S:Sc}{X:Cx}(C:aL Γ S X)(hf:∀x,X.fn x=true)(hp:PassesOwn (model X.prog X.w) X.A X.env X.xe){a b iter:Expr}{body:List Stmt}{r:Option aI}{i:IS}{k1:Nat}{p1 p:Pos}(hb:∀y,r=some y->dB X body (LS X.K (aq Γ y)))
  (h:rB S n a b iter r=some i):PS X (.For (.Tuple [a,b] k1 p1) iter body [] p) (LS X.K (bc Γ i)):=by
 delta rB at h;cases ha:de a with
 |none=>rw[ha]at h;cases h
 |some q =>
  obtain⟨x,pa⟩:=q;rw[ha]at h;dsimp only at h;cases t4:de b with
  |none=>rw[t4]at h;cases h
  |some q =>
   obtain⟨y,pb⟩:=q;rw[t4]at h;dsimp only at h;obtain rfl:=lB ha;obtain rfl:=lB t4;split at h
   ·rename_i hl
    rw[zx]at hl;obtain⟨i1,h1,h⟩:=ai h;obtain⟨j1,h2,h⟩:=ai h;obtain⟨it,h3,h⟩:=ai h;obtain⟨z,h4,h⟩:=ai h;cases h;have Em:=slot_get h1;rw[<- C.n]at Em;have El:=slot_get h2;rw[<- C.n]at El;obtain⟨t1,t2⟩:=JJ hE C h3;exact PS.imp (sX hp C.calm t1 (og C.calm (fg (gG C.nd Em (C.loc hl.1) (.inl (hf x))) (fg (gG C.nd El (C.loc hl.2) (.inl (hf y))) ma))) (hb _ h4) t2) LS.OO
   ·cases h
theorem mE{S:Sc}{X:Cx}(C:aL Γ S X)(hf:∀x,X.fn x=true):∀{ts:List Expr} {is:List Nat},nU S ts=some is->E4 X ts (oK is)/\(assignEach ts X.env).length=is.length/\(assignEach ts X.env).findIdx? (·.1)=none
 |[],is,h=>by cases h;exact⟨ma,rfl,rfl⟩
 |e::r,is,h=>by
  replace h:(match de e with
   |some (x,_)=>if S.loc x=true then (do let i<-slot S.N x;let is<-nU S r;some (i::is)) else none
   |none=>none)=some is:=h
  split at h
  ·rename_i x p hn
   split at h
   ·rename_i hl
    obtain⟨i1,h1,h⟩:=ai h;obtain⟨is1,h2,h⟩:=ai h;cases h;obtain rfl:=lB hn;have hN:=slot_get h1;rw[<- C.n]at hN;obtain⟨g1,g2,g3⟩:=mE C hf h2;have ea:assignEach (.Name x p::r) X.env=(false,assign (.Name x p) X.env)::assignEach r X.env:=rfl;refine⟨fg (gG C.nd hN (C.loc hl) (.inl (hf x))) g1,by rw[ea,zi,zi,g2],?_⟩;rw[ea,wo,if_neg zt,g3];rfl
   ·cases h
  ·cases h
theorem Ap(hE:∀n,Sound Γ n){S:Sc}{X:Cx}(C:aL Γ S X)(hf:∀x,X.fn x=true)(hp:PassesOwn (model X.prog X.w) X.A X.env X.xe){ts:List Expr}{iter:Expr}{body:List Stmt}{r:Option aI}{i:IS}{k1:Nat}{p1 p:Pos}(hb:∀y,r=some y->dB X body (LS X.K (aq Γ y)))
  (h:Aq S n ts iter r=some i):PS X (.For (.Tuple ts k1 p1) iter body [] p) (LS X.K (bc Γ i)):=by
 unfold Aq at h;split at h
 ·rename_i hi
  rw[zx]at hi;obtain⟨is,h1,h⟩:=ai h;obtain⟨e,h2,h⟩:=ai h;obtain⟨z,h3,h⟩:=ai h;cases h;obtain⟨g1,g2,g3⟩:=mE C hf h1;have hs:bc Γ (.forN is e z)=fun ρ=>(do let s<-(do let x<-ae Γ e ρ;eX x);L3.dg s.ck is (aq Γ z) s.ds ρ):=by
   funext ρ M;show (ae Γ e ρ >>= fun x=>eX x >>= fun s=>L3.dg s.ck is (aq Γ z) s.ds ρ) M=_;simp only[run_bind];cases ae Γ e ρ M with
   |none=>rfl
   |some q=>obtain⟨o,M'⟩:=q;cases o <;> rfl
  rw[hs];exact PS.imp (sX hp C.calm (PI.imp (sY ((hE n).E _ _ _ _ C h2)) LI.seq) (og C.calm g1 g2 g3) (hb _ h3) (p8 hi.1)) LS.dg
 ·cases h
theorem JI(hE:∀n,Sound Γ n)(ih:lO Γ n)(S:Sc)(X:Cx)(e:Stmt)(i:IS)(C:aL Γ S X)(hf:∀x,X.fn x=true)(h:cS S (n+1) e=some i):PS X e (LS X.K (bc Γ i)):=by
 have hp:PassesOwn (model X.prog X.w) X.A X.env X.xe:=by rw[C.d9];exact PassesOwn.never
 cases e with
 |Assign ts v pos =>
  replace h:NQ S n ts v=some i:=h;rcases ts with _|⟨t,_|⟨t2,ts⟩⟩
  ·cases h
  ·replace h:G5 S n t v=some i:=h
   cases t with
   |Name x p =>
    replace h:G6 S n x v=some i:=h;delta G6 at h;cases hc:BY v with
    |some q =>
     obtain⟨elt,gs,sc⟩:=q;rw[hc]at h;dsimp only at h;cases hg:mm gs with
     |none=>rw[hg]at h;cases h
     |some q =>
      obtain⟨y,py,iter,ifs⟩:=q;rw[hg]at h;dsimp only at h;obtain⟨cp,rfl⟩:=KA hc;obtain rfl:=vV hg;split at h
      ·rename_i hl
       rw[zx]at hl;obtain⟨i',h1,h⟩:=ai h;obtain⟨it,g1,h⟩:=ai h;obtain⟨c,g2,h⟩:=ai h;obtain⟨y',g3,h⟩:=ai h;cases h;have hN:=slot_get h1;rw[<- C.n]at hN;obtain⟨t1,t2⟩:=(hE n).T _ X (.Name y py) _ _ C g1;exact FK C hl.2 t1 t2 (fun X' C' _=>(hE n).Co _ _ _ _ C' g2) (fun X' C' _=>(hE n).E _ _ _ _ C' g3) hN (C.loc hl.1) (hf x)
      ·cases h
    |none =>
     rw[hc]at h;dsimp only at h;split at h
     ·rename_i hl
      rw[zx]at hl;obtain⟨j,h1,h⟩:=ai h;obtain⟨y,h2,h⟩:=ai h;cases h;have hN:=slot_get h1;rw[<- C.n]at hN;exact PS.imp (jN C.nd hN (C.loc hl.1) ((hE n).E _ _ _ _ C h2) (JE hl.2) (.inl (hf x))) LS.set
     ·cases h
   |Subscript o ix p =>
    delta G5 at h;dsimp only at h;split at h
    ·rename_i qF
     obtain⟨y,h1,h⟩:=ai h;obtain⟨a,h2,h⟩:=ai h;obtain⟨b,h3,h⟩:=ai h;cases h;exact PS.imp (Dg ((hE n).E _ _ _ _ C h1) (L6 ((hE n).E _ _ _ _ C h2) ((hE n).E _ _ _ _ C h3) (LB C.hu) (NR qF)) CP.1 (CP (l:=0)).2 rfl) LS.setIx
    ·cases h
   |Attribute o f pf =>
    replace h:(match de o with
     |some _=>if (kC.contains f&&gZ v)=true then (do let y<-cE S n v;let a<-cE S n o;some (.setF a f y)) else none
     |none=>none)=some i:=h
    split at h
    ·rename_i q hq
     split at h
     ·rename_i hs
      rw[zx]at hs;obtain⟨y,h1,h⟩:=ai h;obtain⟨a,h2,h⟩:=ai h;cases h;exact PS.imp (LW ((hE n).E _ _ _ _ C h2) ((hE n).E _ _ _ _ C h1) (by cases v <;> first|rfl|(exact absurd hs.2 zt))) (LS.setF C.cls (C.kl f (az hs.1)))
     ·cases h
    ·cases h
   |Tuple es k1 p1 =>
    replace h:G7 S n es v=some i:=h;delta G7 at h;rcases es with _|⟨a,_|⟨b,_|⟨c,r⟩⟩⟩
    ·cases h
    ·cases h
    ·dsimp only at h
     cases ha:de a with
     |none=>rw[ha]at h;cases h
     |some q =>
      obtain⟨x,pa⟩:=q;cases t4:de b with
      |none=>rw[ha,t4]at h;cases h
      |some q =>
       obtain⟨y,pb⟩:=q;rw[ha,t4]at h;dsimp only at h;obtain rfl:=lB ha;obtain rfl:=lB t4;split at h
       ·rename_i hl
        rw[zx,zx]at hl;obtain⟨i1,h1,h⟩:=ai h;obtain⟨j1,h2,h⟩:=ai h;obtain⟨e1,h3,h⟩:=ai h;cases h;have Em:=slot_get h1;rw[<- C.n]at Em;have El:=slot_get h2;rw[<- C.n]at El;have sw:∀l,swapsWithSole [.Tuple [.Name x pa,.Name y pb] k1 p1] v l X.env=pure false/\swappedStores [.Tuple [.Name x pa,.Name y pb] k1 p1] v X.env=pure none:=fun l=>by
         cases v <;> first|exact⟨rfl,rfl⟩|cases hl.2
        exact PS.imp (Dg ((hE n).E _ _ _ _ C h3) (og C.calm (fg (gG C.nd Em (C.loc hl.1.1) (.inl (hf x))) (fg (gG C.nd El (C.loc hl.1.2) (.inl (hf y))) ma))) (sw _).1 (sw 0).2 rfl) LS.setP
       ·cases h
    ·cases h
   |_=>cases h
  ·cases h
 |Expr e pos =>
  replace h:(if gZ e then (do let y<-cE S n e;some (.expr y)) else none)=some i:=h;split at h
  ·rename_i hn
   obtain⟨y,h1,h⟩:=ai h;cases h;exact PS.imp (lZ ((hE n).E _ _ _ _ C h1) (va hn)) LS.expr
  ·cases h
 |Return o pos =>
  cases o with
  |some e =>
   replace h:(do let y<-cE S n e;some (.ret y))=some i:=h;obtain⟨y,h1,h⟩:=ai h;cases h;exact PS.imp (sW ((hE n).E _ _ _ _ C h1)) LS.ret
  |none =>
   cases h;exact PS.imp JV fun D σ H q=>by
    obtain⟨ι,ρ,R,k⟩:=LS.ud D σ H q;exact k .non .non
 |Raise a b c =>
  have hz:i=.rz\/i=.halt:=by
   have h:some (CZ S a b)=some i:=h;cases h;unfold CZ;cases a with
   |none=>exact .inr rfl
   |some e =>
    cases b with
    |some _=>exact .inr rfl
    |none =>
     dsimp only;split
     ·exact .inl rfl
     ·exact .inr rfl
  clear h;rcases hz with rfl|rfl
  ·intro pins s σ H D I q
   obtain⟨ι,ρ,M,fl,M',S',R,e,k⟩:=q;exact(ah e).elim
  intro pins s σ H D I q;obtain⟨ι,ρ,M,fl,M',S',R,e,k⟩:=q;exact(ah e).elim
 |Pass p =>
  cases h;exact PS.imp JW fun D σ H q=>by
   obtain⟨ι,ρ,R,k⟩:=LS.ud D σ H q;exact k σ R
 |Break p =>
  cases h;exact PS.imp FL fun D σ H q=>by
   obtain⟨ι,ρ,R,k⟩:=LS.ud D σ H q;exact k σ R
 |Continue p =>
  cases h;exact PS.imp uT fun D σ H q=>by
   obtain⟨ι,ρ,R,k⟩:=LS.ud D σ H q;exact k σ R
 |If c a b p =>
  replace h:(do let k<-cC S n c;let x<-dD S n a;let y<-dD S n b;some (.ifS k x y))=some i:=h;obtain⟨k,h0,h⟩:=ai h;obtain⟨x,h1,h⟩:=ai h;obtain⟨y,h2,h⟩:=ai h;cases h;exact PS.imp (HF ((hE n).C _ _ _ _ C h0) (ih.Ss _ _ _ _ C hf h1) (ih.Ss _ _ _ _ C hf h2)) LS.ifS
 |For t iter b o p =>
  replace h:Bo o (GJ S n t iter (dD S n b))=some i:=h;cases o with
  |cons _ _=>cases h
  |nil =>
   replace h:GJ S n t iter (dD S n b)=some i:=h;cases t with
   |Name x p =>
    replace h:(if S.loc x then (do let i<-slot S.N x;let it<-cT S n iter;let y<-dD S n b;some (.forS i it y)) else none)=some i:=h;split at h
    ·rename_i hl
     obtain⟨j,h0,h⟩:=ai h;obtain⟨it,h1,h⟩:=ai h;obtain⟨y,h2,h⟩:=ai h;cases h;have hN:=slot_get h0;rw[<- C.n]at hN;obtain⟨t1,t2⟩:=(hE n).T _ X (.Name x p) _ _ C h1;exact PS.imp (sX hp C.calm t1 (gG C.nd hN (C.loc hl) (.inl (hf x))) (ih.Ss _ _ _ _ C hf h2) t2) LS.loop
    ·cases h
   |Tuple ts k1 p1 =>
    replace h:HI S n ts iter (dD S n b)=some i:=h;rcases ts with _|⟨a,_|⟨b2,_|⟨_,_⟩⟩⟩
    ·cases h
    ·cases h
    ·replace h:rB S n a b2 iter (dD S n b)=some i:=h
     exact Bk hE C hf hp (fun y h2=>ih.Ss _ _ _ _ C hf h2) h
    ·exact Ap hE C hf hp (fun y h2=>ih.Ss _ _ _ _ C hf h2) h
   |_=>cases h
 |While c b o p =>
  cases o with
  |cons _ _=>cases h
  |nil =>
   replace h:(do let k<-cC S n c;let y<-dD S n b;some (.whileS k y))=some i:=h;obtain⟨k,h0,h⟩:=ai h;obtain⟨x,h1,h⟩:=ai h;cases h;exact PS.imp (FJ hp ((hE n).C _ _ _ _ C h0) (ih.Ss _ _ _ _ C hf h1)) LS.while
 |_=>cases h
theorem qx(ih:lO Γ n){S:Sc}{X:Cx}{e:Stmt}(C:aL Γ S X)(hf:∀x,X.fn x=true):PS X e (LS X.K (bc Γ ((cS S n e).getD .halt))):=by
 cases h:cS S n e with
 |some i=>exact ih.S _ _ _ _ C hf h
 |none =>
  intro pins s σ H D I q;obtain⟨ι,ρ,M,d,M',_,_,e,_⟩:=q;exact(ah e).elim
theorem Fu(ih:lO Γ n)(S:Sc)(X:Cx)(e:List Stmt)(i:aI)(C:aL Γ S X)(hf:∀x,X.fn x=true)(h:dD S (n+1) e=some i):dB X e (LS X.K (aq Γ i)):=by
 unfold dD at h;cases e with
 |nil =>
  cases h;exact dB.imp lY fun D σ H q=>by
   obtain⟨ι,ρ,R,k⟩:=LS.ud D σ H q;exact k σ R
 |cons s r =>
  obtain⟨y,h2,h⟩:=ai h;cases h;refine dB.imp (cJ (qx ih C hf) (ih.Ss _ _ _ _ C hf h2)) LS.seq
theorem nT(hE:∀n,Sound Γ n):∀n,lO Γ n
 |0=>⟨(fun _ _ _ _ _ _ h=>by cases h),(fun _ _ _ _ _ _ h=>by unfold dD at h;cases h)⟩
 |n+1=>⟨JI hE (nT hE n),Fu (nT hE n)⟩
end
end L3
namespace L3
open PySem PySem.Spec PyProof.Rows L2
section
variable {M:Model}{A:Around}{E:Value->Shared->Prop}{s:Shared}
noncomputable def nJ(e T:Addr)(cls:Value)(h:Heap):Prop:=∃oe vs oT ts,h.get? e=some oe/\oe.cls=cls/\oe.data=.fields vs/\vs[1]?=some (.ref T)/\vs[2]?=some .none/\T≠e/\h.get? T=some oT/\oT.data=.fields ts/\ts[3]?=some .none
structure Mv (fs ch:List Addr) (h h':Heap):Prop where
 keep:∀b o,b ∉ fs->b ∉ ch->h.get? b=some o->h'.get? b=some o
 slot:∀b o,b ∉ ch->h.get? b=some o->∃sl,h'.get? b=some { o with slots:=sl }
 there:∀b o,h.get? b=some o->∃o',h'.get? b=some o'
theorem tE{base:Heap}{env:Env}{outer:List Env}{L e:Addr}{oe:Obj}{vs:Array Value}{head:Value}{Kn:Bool}{Q:Unit->Shared->Prop}
  (Eb:A.frames=some (env::outer)) (hl:s.heap.FunFrames base (env::outer)) (hf:env.frame=some L)
  (he:s.heap.get? e=some oe) (hd:oe.data=.fields vs) (hsz:1<vs.size) (hz:vs[2]?=some .none)
  (h:∀h' T,nJ e T oe.cls h'->s.heap.objs.size<=T->Mv (dS (env::outer)) [e] s.heap h'->Q () { s with heap:=h' }) :
  wpAny M A (do let a<-frameOf env;let pl<-entryPlaceOf L Kn;let b<-EntryCells.newEntry head a .none (rawInt L) .none pl;setField (.ref e) 1 b) (fun _ s'=>wpAny M A (setFlight (.ref e) none) Q E s') E s:=by
 have Rt:e ∉ (env::outer).filterMap (·.frame):=fun hm=>by
  obtain⟨_,o,ho,D4⟩:=hl.mem hm;rw[he]at ho;injection ho with ho;subst ho;exact D4 vs hd
 refine zz (wpAny_frameOf_fun Eb hl hf fun h1 kM=>?_);refine zz (wpAny_entryPlaceOf fun pl fN=>?_);unfold EntryCells.newEntry newFields;refine zz (wpAny_newObj_type ?_ (fN.sizeOk5 _ _ _ _ _));have PX:h1.get? e=some oe:=(kM.2.1 e Rt).trans he;generalize PQ:({ cls:=.type "traceback",dict:=none,data:=.fields ([head,.ref L,.none,rawInt L,.none]++(if pl.isEmpty then zN 6 Value.none else pl)).toArray }:Obj)=ob;have Gs:ob.data=.fields ([head,.ref L,.none,rawInt L,.none]++(if pl.isEmpty then zN 6 Value.none else pl)).toArray:=by rw[<- PQ]
 have Rl:ob.isFreed=false:=by rw[<- PQ];rfl
 have IF:=zy (h:=h1) ob PX;refine wpAny_setField IF hd hsz ?_;have lJ:h1.objs.size≠e:=zI (zn PX);have Nq:=Obj.data_mapFields hd (·.setIfInBounds 1 (Value.ref h1.objs.size));have Ec:=yv (Obj.mapFields (·.setIfInBounds 1 (Value.ref h1.objs.size))) IF (Obj.isFreed_of_fields Nq);have Qe:=(zQ (h1.push ob) (Obj.mapFields (·.setIfInBounds 1 (Value.ref h1.objs.size))) (Ne.symm lJ)).trans (zk h1 Rl);unfold setFlight;refine zz (wpAny_field Ec Nq (x:=.ref h1.objs.size) (by simp[hsz]) ?_);rw[if_pos (show (Value.ref h1.objs.size != Value.none)=true from by simp)];refine wpAny_setField Qe Gs (by simp only[zl,zf,zi,yT] <;> omega) (h _ h1.objs.size ?_ (by rw[kM.1];exact zr _) ?_)
 ·refine⟨_,_,_,_,?_,Obj.cls_mapFields _ _,Nq,by simp[hsz],by simpa using hz,lJ,yv _ Qe (Obj.isFreed_of_fields (Obj.data_mapFields Gs _)),Obj.data_mapFields Gs _,by first|(simp;done)|(rcases fN with rfl|⟨_,_,_,_,_,_,_,rfl⟩ <;> simp)⟩
  rw[zQ _ _ lJ];exact Ec
 ·have keep:∀b o,b≠e->h1.get? b=some o->(((h1.push ob).update e (Obj.mapFields (·.setIfInBounds 1 (Value.ref h1.objs.size)))).update h1.objs.size (Obj.mapFields (·.setIfInBounds 3 ((none:Option Addr).elim Value.none fun f=>rawInt f)))).get? b=some o:=fun b o kO hb=>by
   have IK:h1.objs.size≠b:=zI (zn hb);rw[zQ _ _ IK,zQ _ _ (Ne.symm kO)];exact zy _ hb
  refine⟨fun b o hf hc hb=>keep b o (by simpa using hc) ((kM.2.1 b hf).trans hb),fun b o hc hb=>?_,fun b o hb=>?_⟩
  ·obtain⟨sl,hs⟩:=kM.2.2 b o hb
   exact⟨sl,keep b _ (by simpa using hc) hs⟩
  ·by_cases kO:b=e
   ·subst kO
    rw[zQ _ _ lJ];exact⟨_,Ec⟩
   ·obtain⟨sl,hs⟩:=kM.2.2 b o hb
    exact⟨_,keep b _ kO hs⟩
theorem uW{base:Heap}{env:Env}{outer:List Env}{L e:Addr}{oe:Obj}{vs:Array Value}{Q:Unit->Shared->Prop}
  (Eb:A.frames=some (env::outer)) (hl:s.heap.FunFrames base (env::outer)) (hf:env.frame=some L) (he:s.heap.get? e=some oe) (hd:oe.data=.fields vs) (h1:vs[1]?=some .none) (h2:vs[2]?=some .none)
  (h:∀h' T,nJ e T oe.cls h'->s.heap.objs.size<=T->Mv (dS (env::outer)) [e] s.heap h'->Q () { s with heap:=h' }):wpAny M A (leaving env (.ref e)) Q E s:=by
 unfold leaving noteFrame;simp only[hf];refine zz (zz (wpAny_field he hd h1 ?_));rw[if_neg (by decide)];exact tE Eb hl hf he hd (yn.mp h1).1 h2 h
theorem tL{base:Heap}{env:Env}{outer:List Env}{L e T:Addr}{cls:Value}{Q:Unit->Shared->Prop}
  (Eb:A.frames=some (env::outer)) (hl:s.heap.FunFrames base (env::outer)) (hf:env.frame=some L) (ht:nJ e T cls s.heap)
  (h:∀h' T',nJ e T' cls h'->s.heap.objs.size<=T'->Mv (dS (env::outer)) [e,T] s.heap h'->Q () { s with heap:=h' }):wpAny M A (noteFrame (.ref e) env) (fun _ s2=>wpAny M A (setFlight (.ref e) none) Q E s2) E s:=by
 obtain⟨oe,vs,oT,ts,he,fP,hd,h1,h2,lJ,hT,oF,h3⟩:=ht;subst fP;unfold noteFrame;simp only[hf];refine zz (wpAny_field he hd h1 ?_);rw[if_pos (show (Value.ref T != Value.none)=true from by simp)];refine zz (wpAny_field hT oF h3 ?_);rw[if_neg (show ¬ ((Value.none==rawInt L)=true) from by simp[rawInt])];refine zz (wpAny_setField hT oF (yn.mp h3).1 ?_);have other:∀b,b≠T->(s.heap.update T (Obj.mapFields (·.setIfInBounds 3 Value.none))).get? b=s.heap.get? b:=fun b hb=>zQ _ _ (Ne.symm hb);have noRecord:∀b o,s.heap.get? b=some o->(∀vs,o.data≠.fields vs)->b≠T:=fun b o hb D4 q=>by
  rw[q,hT]at hb;injection hb with hb;subst hb;exact D4 ts oF
 have Vu:∃o',(s.heap.update T (Obj.mapFields (·.setIfInBounds 3 Value.none))).get? T=some o':=⟨_,yv _ hT (Obj.isFreed_of_fields (Obj.data_mapFields oF _))⟩;refine tE Eb (hl.of_keeps fun b o hb D4=>⟨o,(other b (noRecord b o hb D4)).trans hb,rfl⟩) hf ((other e (Ne.symm lJ)).trans he) hd (yn.mp h1).1 h2 fun h' T' hF hT' mv=>h h' T' hF (by rw[Heap.size_update]at hT';exact hT') ?_;refine⟨fun b o hf hc hb=>?_,fun b o hc hb=>?_,fun b o hb=>?_⟩
 ·simp only[zg,zE,or_false,not_or]at hc
  exact mv.keep b o hf (by simpa using hc.1) ((other b hc.2).trans hb)
 ·simp only[zg,zE,or_false,not_or]at hc
  exact mv.slot b o (by simpa using hc.1) ((other b hc.2).trans hb)
 ·by_cases IK:b=T
  ·subst IK
   obtain⟨o',ho'⟩:=Vu;exact mv.there _ _ ho'
  ·exact mv.there b o ((other b IK).trans hb)
theorem lands{e T:Addr}{cls:Value}{Q:Unit->Shared->Prop}(ht:nJ e T cls s.heap)(h:∀h',nJ e T cls h'->(∀b o,b≠T->s.heap.get? b=some o->h'.get? b=some o)->Q () { s with heap:=h' }):wpAny M A (setFlight (.ref e) none) Q E s:=by
 obtain⟨oe,vs,oT,ts,he,fP,hd,h1,h2,lJ,hT,oF,h3⟩:=ht;have MX:3<ts.size:=(yn.mp h3).1;have other:∀b,b≠T->(s.heap.update T (Obj.mapFields (·.setIfInBounds 3 ((none:Option Addr).elim Value.none fun f=>rawInt f)))).get? b=s.heap.get? b:=fun b hb=>zQ _ _ (Ne.symm hb);unfold setFlight;refine zz (wpAny_field he hd h1 ?_);rw[if_pos (show (Value.ref T != Value.none)=true from by simp)];refine wpAny_setField hT oF MX (h _ ?_ fun b o hb e=>(other b hb).trans e);exact⟨oe,vs,_,_,(other e (Ne.symm lJ)).trans he,fP,hd,h1,h2,lJ,yv _ hT (Obj.isFreed_of_fields (Obj.data_mapFields oF _)),Obj.data_mapFields oF _,by simp[MX]⟩
end
end L3
namespace L3
open PySem PySem.Spec PyProof.Rows L2
section
variable {X:Cx}{pins:List (Addr×Obj)}{σ:L2.St}{H:Hp}{s:Shared}{h':Heap}
theorem i7{t':Nat}{ch:List Addr}(I:Inv X pins σ H s)
  (hch:∀b∈ch,X.s₀.heap.get? b=none/\b≠X.env.locals/\(∀x c,X.env.cells.lookup x=some c->c≠b)/\(∀p∈X.pn++pins,p.1≠b)/\H b=none) (mv:Mv (dS X.stack) ch s.heap h') :
  Inv X pins σ H { s with heap:=h',toks:=t' }:=by
 have neC:∀b o,X.s₀.heap.get? b=some o->b ∉ ch:=fun b o e hb=>by rw[(hch b hb).1]at e;cases e
 have neS:∀b o,X.s₀.heap.get? b=some o->b ∉ X.fs->b ∉ dS X.stack:=fun b o e hb z=>by
  rcases zg.mp (I.fD b z) with q|q
  ·exact absurd (zj (zn e) (q▸I.ok.above)) (yx _)
  ·exact hb q
 have cellK:∀x c,X.env.cells.lookup x=some c->∀v,s.heap.IsCell c v->h'.IsCell c v:=fun x c e v ⟨o,ho,hd⟩=>by
  obtain⟨sl,q⟩:=mv.slot c o (fun z=>(hch c z).2.2.1 x c e rfl) ho;exact⟨_,q,hd⟩
 refine⟨I.ok,I.os,I.bare,⟨fun b o e n hb hx=>?_,fun b o e n hb hx=>?_,fun b o e n hx=>I.base.free b o e n hx,fun b o e hx=>?_,I.base.ic,I.base.gI,I.base.ig⟩,?_,fun x c e=>?_,I.free,I.cW,fun p hp=>?_,?_,I.len⟩
 ·exact mv.keep b o (neS b o e hb) (neC b o e) (I.base.keep b o e n hb hx)
 ·obtain⟨sl,e1⟩:=I.base.slot b o e n hb hx
  obtain⟨sl',e2⟩:=mv.slot b _ (neC b o e) e1;exact⟨sl',e2⟩
 ·obtain⟨o',e1⟩:=I.base.there b o e hx
  exact mv.there b o' e1
 ·obtain⟨m,⟨o,es,ep,ho,r⟩,hl⟩:=I.loc
  obtain⟨sl,q⟩:=mv.slot _ o (fun z=>(hch _ z).2.1 rfl) ho;refine⟨m,⟨_,es,ep,q,r⟩,fun i x v e1 e2 e3=>?_⟩;obtain⟨u,r,l⟩:=hl i x v e1 e2 e3;refine⟨u,r,?_⟩;rcases l with l|⟨k,c,e,z⟩
  ·exact .inl l
  ·exact .inr ⟨k,c,e,cellK x c e _ z⟩
 ·obtain⟨v,z⟩:=I.cell x c e
  exact⟨v,cellK x c e v z⟩
 ·obtain⟨e,n,ne,nf,d⟩:=I.pin p hp
  refine⟨mv.keep p.1 p.2 (fun z=>(zg.mp (I.fD _ z)).elim ne nf) (fun z=>(hch p.1 z).2.2.2.1 p hp rfl) e,n,ne,nf,d⟩
 ·intro a o ha
  have kk:∀b u o',H b=some o'->s.heap.get? b=some u->h'.get? b=some u:=fun b u o' hb q=>mv.keep b u (fun z=>by rw[I.pE b z]at hb;cases hb) (fun z=>by rw[(hch b z).2.2.2.2]at hb;cases hb) q;refine(I.av a o ha).iH (fun b u hb q=>?_) (fun _ q=>q) fun _ _ q=>q;rcases hb with rfl|hb
  ·exact kk _ u _ ha q
  ·exact kk b u _ hb q
end
theorem lA{P:Program}{w:World}{H:Hp}{h:Heap}{a:Addr}{o:HO}(x:bJ P w H h a o):∃o,h.get? a=some o:=by
 cases o with
 |lst xs=>obtain⟨_,_,_,_,e⟩:=x;exact⟨_,e⟩
 |tup xs=>obtain⟨_,_,_,⟨_,e,_⟩,_⟩:=x;exact⟨_,e⟩
 |dK kvs=>obtain⟨_,_,_,_,o,_,_,e,_⟩:=x;exact⟨_,e⟩
 |dT kvs=>obtain⟨_,_,_,_,o,_,_,e,_⟩:=x;exact⟨_,e⟩
 |set S n=>obtain⟨o,_,_,_,e,_⟩:=x;exact⟨_,e⟩
 |ins C dx fs=>obtain⟨_,_,_,e,_⟩:=x;exact⟨_,e⟩
 |own y=>exact x
 |xd fs=>obtain⟨_,⟨_,_,_,e,_⟩,_⟩:=x;exact⟨_,e⟩
 |rng lo hi=>obtain⟨_,_,_,e⟩:=x;exact⟨_,e⟩
 |frz ob u=>exact⟨_,x.1⟩
 |tbl ps=>exact⟨_,show h.get? a=some _ from x⟩
 |met f y=>exact⟨_,show h.get? a=some _ from x⟩
 |ext φ=>exact x.2.1
noncomputable def eR(P:Program)(w:World):kS:=fun outer H s E x s'=>∃e T C H',x=.ref e/\s'.os=s.os/\AllBare s'.gens/\Un (dS outer) [] H H' s.heap s'.heap/\bX P w H' s'.heap/\nJ e T (.ref C) s'.heap /\
 s.heap.get? e=none/\s.heap.get? T=none/\H' e=none/\H' T=none/\E (.ref C) none H'
section
variable {P:Program}{w:World}{K:Q_}{mg:Str->Option Value}{base:Heap}{N:List Str}{qual:Str}{scope:Scope}{f:Addr}{cd:Value}{A:Around}{outer:List Env}{s:Shared}{H:Hp}{E:XK}
theorem CY{pins:List (Addr×Obj)}{σ:L2.St}{H1:Hp}{s1:Shared}{h2:Heap}{e C:Addr}{vs:List Value}(I:Inv (et (eR P w) P w K mg base N qual scope f cd A outer s H E) pins σ H1 s1)
  (md:Heap.MadeExcOf s1.heap h2 e (.ref C) vs) (hz:E (.ref C) none H1):(et (eR P w) P w K mg base N qual scope f cd A outer s H E).xe (.ref e) { s1 with heap:=h2 }:=by
 have hI:=I;obtain⟨t,he,_,_⟩:=md.there;have ne:∀b o,s1.heap.get? b=some o->b≠e:=fun b o q z=>by rw[z,md.new]at q;cases q
 have hl:h2.FunFrames base (envOfC qual scope s.heap.objs.size f cd::outer):=(show s1.heap.FunFrames base (envOfC qual scope s.heap.objs.size f cd::outer) from I.stack).of_keeps fun b o hb _=>⟨o,md.keeps b o hb,rfl⟩;show wpAny (model P w) (A.deeper (envOfC qual scope s.heap.objs.size f cd)) (leaving (envOfC qual scope s.heap.objs.size f cd) (.ref e)) (fun _ s''=>eR P w outer H s E (.ref e) s'') (fun e' s''=>eR P w outer H s E e' s'') { s1 with heap:=h2 };refine uW (base:=base) (L:=s.heap.objs.size) I.ok.frames hl rfl he rfl rfl rfl fun h3 T hF hT mv=>?_;have UB:Mv (dS (et (eR P w) P w K mg base N qual scope f cd A outer s H E).stack) [] s1.heap h3:=⟨fun b o hf _ q=>mv.keep b o hf (by simpa using ne b o q) (md.keeps b o q),fun b o _ q=>mv.slot b o (by simpa using ne b o q) (md.keeps b o q),fun b o q=>mv.there b o (md.keeps b o q)⟩;have I2:=i7 (t':=s1.toks) (ch:=[]) I (fun _ z=>nomatch z) UB;have o0:∀b,s1.heap.get? b=none->s.heap.get? b=none:=fun b q=>by
  cases z:s.heap.get? b with
  |none=>rfl
  |some o =>
   obtain⟨o',e'⟩:=I.base.there b o z (fun z'=>nomatch z');rw[q]at e';cases e'
 have Qc:h2.get? T=none:=yi hT;have Qf:s1.heap.get? T=none:=by
  cases z:s1.heap.get? T with
  |none=>rfl
  |some o=>rw[md.keeps _ _ z]at Qc;cases Qc
 have hn:∀b,s1.heap.get? b=none->H1 b=none:=fun b q=>by
  cases z:H1 b with
  |none=>rfl
  |some u =>
   obtain⟨o,ho⟩:=lA (I.av b u z);rw[q]at ho;cases ho
 exact⟨e,T,C,H1,rfl,I2.os,I2.bare,I2.base,I2.av,hF,o0 e md.new,o0 T Qf,hn e md.new,hn T Qf,hz⟩
theorem CW{E':XK}(hE:∀C H',E' C none H'->E C none H'):Passes (eR P w) (et (eR P w) P w K mg base N qual scope f cd A outer s H E) E':=by
 intro pins σ H1 s1 x s' I hq;obtain⟨e,T,C,H',rfl,os,bare,un,av,NB,e0,T0,eH,TH,hz⟩:=hq;have I2:Inv (et (eR P w) P w K mg base N qual scope f cd A outer s H E) pins σ H' s':=I.call' (ch:=[]) os un av bare (fun b z=>absurd z (by simp));have o0:∀b,s1.heap.get? b=none->s.heap.get? b=none:=fun b q=>by
  cases z:s.heap.get? b with
  |none=>rfl
  |some o =>
   obtain⟨o',e'⟩:=I.base.there b o z (fun z'=>nomatch z');rw[q]at e';cases e'
 have new:∀b,s1.heap.get? b=none->H' b=none->s.heap.get? b=none/\b≠(envOfC qual scope s.heap.objs.size f cd).locals/\(∀x c,(envOfC qual scope s.heap.objs.size f cd).cells.lookup x=some c->c≠b)/\(∀q∈([]:List (Addr×Obj))++pins,q.1≠b)/\H' b=none:=fun b hb hn=>by
  refine⟨o0 b hb,?_,?_,?_,hn⟩
  ·intro z
   obtain⟨m,⟨o,_,_,ho,_⟩,_⟩:=I.loc;have ho:s1.heap.get? (envOfC qual scope s.heap.objs.size f cd).locals=some o:=ho;rw[<- z,hb]at ho;cases ho
  ·rintro x c hx rfl
   obtain⟨v,o,ho,_⟩:=I.cell x c hx;rw[hb]at ho;cases ho
  ·rintro q hq rfl
   rw[(I.pin q hq).1]at hb;cases hb
 show wpAny (model P w) (A.deeper (envOfC qual scope s.heap.objs.size f cd)) (leaving (envOfC qual scope s.heap.objs.size f cd) (.ref e)) (fun _ s''=>eR P w outer H s E (.ref e) s'') (fun e' s''=>eR P w outer H s E e' s'') s';unfold leaving;refine zz (tL (base:=base) (L:=s.heap.objs.size) I2.ok.frames (show s'.heap.FunFrames base (envOfC qual scope s.heap.objs.size f cd::outer) from I2.stack) rfl NB fun h3 T' BO hT' Mx=>?_);have I3:=i7 (t':=s'.toks) (ch:=[e,T]) I2 (fun b hb=>by
  simp only[zg,zE,or_false]at hb;rcases hb with rfl|rfl
  ·exact new _ e0 eH
  ·exact new _ T0 TH) Mx
 have Ek:s'.heap.get? T'=none:=yi hT';have Eh:s.heap.get? T'=none:=by
  cases z:s.heap.get? T' with
  |none=>rfl
  |some o =>
   obtain⟨o',e'⟩:=I2.base.there T' o z (fun z'=>nomatch z');rw[Ek]at e';cases e'
 have Nt:H' T'=none:=by
  cases z:H' T' with
  |none=>rfl
  |some u =>
   obtain⟨o,ho⟩:=lA (I2.av T' u z);rw[Ek]at ho;cases ho
 exact⟨e,T',C,H',rfl,I3.os,I3.bare,I3.base,I3.av,BO,o0 e e0,Eh,eH,Nt,hE _ _ hz⟩
end
end L3
namespace L3
open PySem PySem.Spec PyProof.Rows L2
noncomputable def LX(K:Q_)(Ze:Hp->Prop)(z:Ev->MH->Option MH):TS:=fun _ σ H=>∃ι ρ M M',aK K ι M H/\bE K ι H ρ σ/\z ρ M=some M'/\∀H' ι',aK K ι' M' H'->Ext K ι H ι' H'->Ze H'
section
variable {X:Cx}{E:Value->Shared->Prop}
theorem PS.d9{st:Stmt}{t:TS}(h:PS X.d9 st t):PS X st t:=fun pins s σ H D I hw =>
 wpAny_mono (h pins s σ H D (I.dE _) hw) (fun _ _ q=>q.dk) fun _ _ z=>False.elim z
theorem PA.d9{es:List Expr}{t:TA}(h:PA X.d9 es t):PA X es t:=fun pos pins s σ H Q I hw =>
 wpAny_mono (h pos pins s σ H Q (I.dE _) hw) (fun _ _ ⟨vs,H',I',r,q⟩=>⟨vs,H',I'.dk,r,q⟩) fun _ _ z=>False.elim z
theorem PS.or{st:Stmt}{t u:TS}(h1:PS X st t)(h2:PS X st u):PS X st (fun D σ H=>t D σ H\/u D σ H):=fun pins s σ H D I q=>q.elim (h1 pins s σ H D I) (h2 pins s σ H D I)
end
section
variable {K:Q_}{Ze:Hp->Prop}
theorem Ms{o:Option (Out Fl×MH)}{ρ:Ev}{M:MH}(h:tD o=some (ρ,M)):o=some (.ok (.nx ρ),M):=by
 unfold tD at h;split at h
 ·cases h;rfl
 ·cases h
theorem LX.seq{fa:Ev->Mo Fl}{za zb:Ev->MH->Option MH}(D:Ends)(σ:St)(H:Hp)(h:LX K Ze (fun ρ M=>match tD (fa ρ M) with
  |some (ρ',M1)=>zb ρ' M1
  |none=>za ρ M) D σ H):Fm (fun D σ H=>LS K fa D σ H\/LX K Ze za D σ H) (LX K Ze zb) D σ H:=by
 obtain⟨ι,ρ,M,M',S,R,e,k⟩:=h;dsimp only at e;cases q:tD (fa ρ M) with
 |none =>
  rw[q]at e;exact .inr ⟨ι,ρ,M,M',S,R,e,k⟩
 |some p =>
  obtain⟨ρ1,M1⟩:=p;rw[q]at e;refine .inl ⟨ι,ρ,M,.nx ρ1,M1,S,R,Ms q,fun H1 ι1 S1 X1=>?_⟩;exact fun σ1 R1=>⟨ι1,ρ1,M1,M',S1,R1,e,fun H' ι' S' X'=>k H' ι' S' (X1.trans X')⟩
theorem LX.ifS{fc:Ev->Mo Bool}{za zb:Ev->MH->Option MH}(D:Ends)(σ:St)(H:Hp)(h:LX K Ze (fun ρ M=>match fc ρ M with
  |some (.ok k,M1)=>if k=true then za ρ M1 else zb ρ M1
  |_=>none) D σ H):Fo (LT K fc) (LX K Ze za) (LX K Ze zb) D σ H:=by
 obtain⟨ι,ρ,M,M',S,R,e,k⟩:=h;dsimp only at e;split at e
 ·rename_i b M1 q
  refine⟨ι,ρ,M,b,M1,S,R,q,fun H1 ι1 S1 X1=>?_⟩;cases b with
  |true=>exact⟨ι1,ρ,M1,M',S1,R.mono X1,e,fun H' ι' S' X'=>k H' ι' S' (X1.trans X')⟩
  |false=>exact⟨ι1,ρ,M1,M',S1,R.mono X1,e,fun H' ι' S' X'=>k H' ι' S' (X1.trans X')⟩
 ·cases e
noncomputable def mC(K:Q_)(n:Nat)(z:List D->MH->Option MH)(C:Addr):Sp:=fun vs H _ E=>vs.length=n/\∃ι M M' ds,aK K ι M H/\aC K ι H ds vs/\z ds M=some M'/\∀H' ι',aK K ι' M' H'->Ext K ι H ι' H'->E (.ref C) none H'
noncomputable abbrev EZ(Cu:Addr) (Ze:Hp->Prop):XK:=fun c _ H=>c=.ref Cu/\Ze H
theorem LX.mcl{fo:DE}{fa:Ev->Mo (List D)}{z:List D->MH->Option MH}{j C:Nat}{m:Str}{Cu:Addr}(hz:∀ds M M',z ds M=some M'->ds.length=j)(Dn:Ends)(σ:St)(H:Hp)(Q:VK)(h:LX K Ze (fun ρ M=>match (do let x<-fo ρ;hY C m x;let xs<-fa ρ;pure (x::xs):Mo (List D)) M with
  |some (.ok xs,M1)=>z xs M1
  |_=>none) Dn σ H):rq C m (mC K j z Cu) [] (EZ Cu Ze) (LE K fo) (LA K fa) σ H Q:=by
 obtain⟨ι,ρ,M,M',S,R,e,k⟩:=h;dsimp only at e;split at e
 ·rename_i xs M1 q
  have e0:=aa q;clear q;obtain⟨x,M2,e1,q⟩:=e0;refine⟨ι,ρ,M,x,M2,S,R,e1,fun v1 H1 ι1 r1 S1 X1=>?_⟩;have e0:=aa q;clear q;obtain⟨_,M3,e2,q⟩:=e0;cases x with
  |ob t =>
   obtain⟨rfl,fs,g',hl⟩:=tR e2;have e0:=aa q;clear q;obtain⟨ys,M4,e3,q⟩:=e0;have e0:=af q;clear q;obtain⟨rfl,rfl⟩:=e0;obtain⟨a,dx,ws,rfl,_,ha,fr⟩:=jK S1 r1 g';refine⟨a,dx,ws,rfl,ha,fr.none hl,ι1,ρ,_,ys,_,S1,R.mono X1,e3,fun vs H2 ι2 r2 S2 X2=>?_⟩;show mC K j z Cu (V.ref a::(vs++[])) H2 Q (EZ Cu Ze);rw[zJ];have hl:=hz _ _ _ e;exact⟨by rw[zi,<- r2.length];exact hl,ι2,_,M',.ob t::ys,S2,.cons (r1.mono X2) r2,e,fun H' ι' S' X'=>⟨rfl,k H' ι' S' ((X1.trans X2).trans X')⟩⟩
  |_=>exact(ah e2).elim
 ·cases e
end
noncomputable def BU:IE->Bool
 |.mcl _ m _=>!(m==("known_rota":Str))
 |_=>true
noncomputable def tF:IS->Bool
 |.rz=>false
 |.ifS _ _ _=>false
 |.expr e=>BU e
 |.set _ e=>BU e
 |_=>true
noncomputable def AD:Expr->Bool
 |.Call f as ks _=>(match f with
  |.Attribute o m _=>m==("known_rota":Str)&&ks.isEmpty&&(de o).isSome&&!as.isEmpty
  |_=>false)
 |_=>false
mutual
noncomputable def E7:Nat->Stmt->IS->Bool
 |0,_,_=>false
 |n+1,e,i=>match e with
  |.If _ a b _=>(match i with
   |.ifS _ x y=>fq n a x&&fq n b y
   |_=>false)
  |.Raise _ _ _=>true
  |.Expr e _=>AD e||tF i
  |_=>tF i
noncomputable def fq:Nat->List Stmt->aI->Bool
 |0,_,_=>false
 |n+1,e,i=>match e with
  |[]=>(match i with
   |.nil=>true
   |_=>false)
  |s::r=>(match i with
   |.cons a b=>E7 n s a&&fq n r b
   |_=>false)
end
theorem GS{Γ:Ctx}{e:IE}(h:BU e=true)(ρ:Ev)(M:MH):pG Γ e ρ M=none:=by
 cases e <;> first
  |rfl
  | (rename_i f es
     have h:(!(f==_))=true:=h;rw[yf]at h;unfold pG;dsimp only;rw[h,if_neg zt])
  | (rename_i a m es
     have h:(!(m==("known_rota":Str)))=true:=h;rw[yf]at h;unfold pG;dsimp only;rw[h,if_neg zt])
theorem Kb{Γ:Ctx}{i:IS}(h:tF i=true)(ρ:Ev)(M:MH):qv Γ i ρ M=none:=by
 cases i <;> first|rfl|cases h|exact GS h ρ M
section
variable {Γ:Ctx}{S:Sc}{X:Cx}{Ze:Hp->Prop}{Cu:Addr}(hE:∀n,Sound Γ n)(hsS:∀n,lO Γ n)(C:aL Γ S X.d9)(hf:∀x,X.fn x=true)
 (hr:∀(t:Str) (np cp cpos pos:Pos) (k:Nat),S.bA "Unknown" = true->PS X (.Raise (some (.Call (.Name "Unknown" np) [.Constant (.str t) k cp] [] cpos)) none pos) (fun _ _ H=>Ze H))
 (hx:Passes (eR X.prog X.w) X (EZ Cu Ze))
 (hM:∃(k:Nat) (fa:Addr) (fd:FuncData) (ps:List Str),Meth X.K Γ.hc "known_rota" fa/\Binds X.K fd ps []/\cq X.prog X.w X.K X.mg X.base (eR X.prog X.w) k fa fd ps (mC X.K ps.length (Γ.rz (aA "known_rota")) Cu)/\bG k X.A/\∀ds M M',Γ.rz (aA "known_rota") ds M=some M'->ds.length=ps.length)
include hE hsS C hf hr hx hM
omit hf hr hsS
 in
theorem JO{n:Nat}{e:Expr}{pos:Pos}{i:IS}(h:cS S n (.Expr e pos)=some i)(hz:AD e=true):PS X (.Expr e pos) (LX X.K Ze (qv Γ i)):=by
 cases n with
 |zero=>cases h
 |succ n =>
  replace h:(if gZ e then (do let y<-cE S n e;some (.expr y)) else none)=some i:=h;split at h
  ·rename_i hn
   obtain⟨y,h1,h⟩:=ai h;cases h;unfold AD at hz;split at hz
   ·split at hz
    ·rename_i as ks p3 fx o m p2
     simp only[zx,beq_iff_eq,yc,yf]at hz;obtain⟨⟨⟨rfl,rfl⟩,ho⟩,ha⟩:=hz;cases n with
     |zero=>cases h1
     |succ n =>
      replace h1:tK (cE S n) (mL S n) o "known_rota" p2 p3 as=some y:=h1;obtain⟨q,hq⟩:=xH.mp ho;have e:=oj hq;subst e;unfold tK at h1;rw[hq]at h1;dsimp only at h1;split at h1
      ·rename_i hs
       rw[zx,decide_eq_true_eq]at hs;obtain⟨x,g1,h1⟩:=ai h1;obtain⟨xs,g2,h1⟩:=ai h1;cases h1;cases as with
       |nil=>cases ha
       |cons a as =>
        obtain⟨pa,pl⟩:=(hE n).Es _ _ _ _ C g2;have pl':=pl;rw[zK,zx]at pl;obtain⟨k,fa,fd,ps,m1,m2,m3,m4,m5⟩:=hM;refine PS.imp (lZ (vA (PE.d9 ((hE n).E _ _ _ _ C g1)) C.cls m1 m3 m4 m2 .nil hx (PA.d9 pa) (aw pl.1) (bD pl.2) (mh rfl pl' hs.2 hs.1)) (va hn)) fun D σ H q=>?_;exact LX.mcl m5 D σ H _ q
      ·cases h1
    ·cases hz
   ·cases hz
  ·cases h
theorem vc:∀n,(∀e i,cS S n e=some i->E7 n e i=true->PS X e (LX X.K Ze (qv Γ i)))/\(∀e i,dD S n e=some i->fq n e i=true->dB X e (LX X.K Ze (dF Γ i)))
 |0=>⟨fun e i h _=>(by cases h),fun e i h _=>(by unfold dD at h;cases h)⟩
 |n+1=>by
  obtain⟨UR,ihSs⟩:=vc n;refine⟨fun e i h hz=>?_,fun e i h hz=>?_⟩
  ·have no:tF i=true->PS X e (LX X.K Ze (qv Γ i)):=fun hn pins s σ H D I q=>by
    obtain⟨ι,ρ,M,M',_,_,q,_⟩:=q;rw[Kb hn]at q;cases q
   cases e with
   |If c a b p =>
    replace h:(do let k<-cC S n c;let x<-dD S n a;let y<-dD S n b;some (.ifS k x y))=some i:=h;obtain⟨k,h0,h⟩:=ai h;obtain⟨x,h1,h⟩:=ai h;obtain⟨y,h2,h⟩:=ai h;cases h;replace hz:(fq n a x&&fq n b y)=true:=hz;rw[zx]at hz;exact PS.imp (HF (PT.d9 ((hE n).C _ _ _ _ C h0)) (ihSs _ _ h1 hz.1) (ihSs _ _ h2 hz.2)) LX.ifS
   |Expr e p =>
    replace hz:(AD e||tF i)=true:=hz;rw[xk]at hz;rcases hz with hz|hz
    ·exact JO hE C hx hM h hz
    ·exact no hz
   |Raise a b c =>
    replace h:some (CZ S a b)=some i:=h;cases h;unfold CZ at no ⊢;cases a with
    |none=>exact no rfl
    |some e =>
     cases b with
     |some _=>exact no rfl
     |none =>
      dsimp only at no ⊢;split
      ·rename_i hq
       unfold Pl at hq;split at hq
       ·rename_i f p as q hg
        rw[vh hg];simp only[zx,beq_iff_eq]at hq;obtain⟨⟨h1,h2⟩,h3⟩:=hq;subst h1;unfold Mp at h3;split at h3
        ·rename_i a
         cases a <;> first|cases h3|skip
         rename_i cc kk pp;cases cc <;> first|cases h3|skip
         refine PS.imp (hr _ _ _ _ _ _ h2) fun D σ H q=>?_;obtain⟨ι,ρ,M,M',S',R,e',k⟩:=q;cases e';exact k H ι S' Ext.refl
        ·cases h3
       ·cases hq
      ·exact fun pins s σ H D I q=>by
        obtain⟨ι,ρ,M,M',_,_,q,_⟩:=q;cases q
   |_=>exact no hz
  ·unfold dD at h
   cases e with
   |nil =>
    cases h;intro pins s σ H D I q;obtain⟨ι,ρ,M,M',_,_,q,_⟩:=q;cases q
   |cons s r =>
    obtain⟨y,h2,h⟩:=ai h;cases h;replace hz:(E7 n s ((cS S n s).getD .halt)&&fq n r y)=true:=hz;rw[zx]at hz;have one:PS X s (LX X.K Ze (qv Γ ((cS S n s).getD .halt))):=by
     cases h1:cS S n s with
     |some x=>exact UR _ _ h1 (by rw[h1]at hz;exact hz.1)
     |none =>
      intro pins s σ H D I q;obtain⟨ι,ρ,M,M',_,_,q,_⟩:=q;cases q
    exact dB.imp (cJ (PS.or (PS.d9 (qx (hsS n) C hf)) one) (ihSs _ _ h2 hz.2)) LX.seq
end
end L3
namespace L3
open PySem PySem.Spec PyProof.Rows L2
noncomputable def gA:List Value:=[.type "ValueError",.type "Exception",.type "BaseException",.type "object"]
noncomputable def eF:List Str:="__class__"::quietNames
noncomputable def ZC(h:Heap)(C:Addr)(bm:List Value):Prop:=∃N nm q bs hdct sn sub ab col dd k0 k1 k2 k3 k5 mN,h.get? C=some (excClassObj nm q C N bs bm hdct sn sub ab col dd k0 k1 k2 k3 k5 "ValueError.__new__")/\h.Ns N mN/\∀n∈eF,mN n=none
noncomputable def ZH(h:Heap)(C D:Addr):Prop:=ZC h C (.ref D::gA)/\ZC h D gA
noncomputable def ZB(h:Heap)(B:Addr):Prop:=∃o cd,h.get? B=some o/\o.cls=.type "type"/\o.data=.cls cd
noncomputable def ZE(h:Heap)(e C:Addr):Prop:=∃oe,h.get? e=some oe/\oe.cls=.ref C
theorem ZC.keeps{h h':Heap}{C:Addr}{bm:List Value}(z:ZC h C bm)(k:∀b o,h.get? b=some o->h'.get? b=some o):ZC h' C bm:=by
 obtain⟨N,nm,q,bs,hdct,sn,sub,ab,col,dd,k0,k1,k2,k3,k5,mN,h1,h2,h3⟩:=z;exact⟨N,nm,q,bs,hdct,sn,sub,ab,col,dd,k0,k1,k2,k3,k5,mN,k _ _ h1,h2.keeps k,h3⟩
theorem ZH.keeps{h h':Heap}{C D:Addr}(z:ZH h C D)(k:∀b o,h.get? b=some o->h'.get? b=some o):ZH h' C D:=⟨z.1.keeps k,z.2.keeps k⟩
theorem ZH.tail{h:Heap}{C D:Addr}(z:ZH h C D):OwnTailQ h gA (.ref D::gA):=by
 obtain⟨_,N,nm,q,bs,hdct,sn,sub,ab,col,dd,k0,k1,k2,k3,k5,mN,h1,h2,h3⟩:=z;exact .own h1 h2 (fun n hn=>h3 n (.tail _ hn)) .base
section
variable {prog:Program}{w:World}{A:Around}{E:Value->Shared->Prop}{h:Heap}{g:Array GenState}{d:Drawn}{t:Nat}{os:OsState}{e C D:Addr}
theorem kU{M:Model}{Q:Value->Shared->Prop}{s:Shared}(x:ZE s.heap e C)(hq:Q (.ref C) s):wpAny M A (typeOf (.ref e)) Q E s:=by
 obtain⟨oe,he,hc⟩:=x;unfold typeOf;exact zz (wpAny_loadPart he (zq (hc▸hq)))
theorem rp{M:Model}{base:Value}{b:Bool}{Q:Bool->Shared->Prop}{s:Shared}(z:ZH s.heap C D)(hb:(Value.ref C::Value.ref D::gA).contains base=b)(hq:Q b s):wpAny M A (isSubtype (.ref C) base) Q E s:=by
 obtain⟨⟨N,nm,q,bs,hdct,sn,sub,ab,col,dd,k0,k1,k2,k3,k5,mN,h1,_,_⟩,_⟩:=z;obtain⟨hh,g,d,t,os⟩:=s;exact wpAny_isSubtype_exc h1 (hb▸hq)
theorem rN{M:Model}{n:Str}{y:Option Value}{Q:Option Value->Shared->Prop}{s:Shared}(z:ZH s.heap C D)(hn:n∈eF)(hB:typeLookup (.type "ValueError") n=pure y)(hq:Q y s):wpAny M A (typeLookup (.ref C) n) Q E s:=by
 obtain⟨⟨N,nm,q,bs,hdct,sn,sub,ab,col,dd,k0,k1,k2,k3,k5,mN,h1,h2,h3⟩,⟨N',nm',q',bs',hdct',sn',sub',ab',col',dd',k0',k1',k2',k3',k5',mN',h1',h2',h3'⟩⟩:=z;have OU:lookupAlong gA n=pure y:=by rw[typeLookup_eq,F.excBase_ValueError.mroIs]at hB;exact hB
 obtain⟨hh,g,d,t,os⟩:=s;rw[typeLookup_eq];refine zz (wpAny_mroOf_exc h1 ?_);rw[lookupAlong_cons];refine zz (wpAny_classOwn_exc h1 h2 ?_);rw[h3 n hn];show wpAny M A (lookupAlong (Value.ref D::gA) n) Q E _;rw[lookupAlong_cons];refine zz (wpAny_classOwn_exc h1' h2' ?_);rw[h3' n hn];show wpAny M A (lookupAlong gA n) Q E _;rw[OU];exact zq hq
theorem rP{M:Model}{Q:Bool->Shared->Prop}{s:Shared}{B:Addr}(z:ZB s.heap B)(hq:Q true s):wpAny M A (isType (.ref B)) Q E s:=by
 obtain⟨⟨oc,od,da,sl⟩,cd,h1,h2,h3⟩:=z;cases h3;unfold isType loadHead;exact zz (wpAny_loadPart h1 (zq hq))
theorem Jp{M:Model}{Q:Value->Shared->Prop}{s:Shared}{B:Addr}(z:ZB s.heap B)(hq:Q (.type "type") s):wpAny M A (typeOf (.ref B)) Q E s:=by
 obtain⟨o,cd,h1,h2,h3⟩:=z;unfold typeOf;exact zz (wpAny_loadPart h1 (zq (h2▸hq)))
theorem ZC.cls{h:Heap}{C:Addr}{bm:List Value}(z:ZC h C bm):ZB h C:=by
 obtain⟨N,nm,q,bs,hdct,sn,sub,ab,col,dd,k0,k1,k2,k3,k5,mN,h1,_,_⟩:=z;exact⟨_,_,h1,rfl,rfl⟩
theorem Ag:typeLookup (.type "ValueError") "__class__" = pure (some (.builtin "object.__class__")):=by rw[typeLookup_type,builtinLookup_eq_fast];kernel_rfl
theorem uC{R:Result->Shared->Prop}(x:ZE h e C)(z:ZH h C D)(hq:R (.ok (.ret (.ref C))) ⟨h,g,d,t,os⟩) :
  codeAny (model prog w) A (.call (.builtin "getset_descriptor.__get__") ⟨[.builtin "object.__class__",.ref e,.ref C],[]⟩) R ⟨h,g,d,t,os⟩:=by
 obtain⟨oe,hx,hc⟩:=x;have Qd:(⟨h,g,d,t,os⟩:Shared).TypeIs (.builtin "object.__class__") "getset_descriptor":=F.typeOf_object_class;have Nr:(Value.ref C::Value.ref D::gA).contains (.type (".".intercalate ("object.__class__".cutAt '.').dropLast))=true:=by
  rw[F.owner_object_class];rfl
 refine codeAny_call_builtin F.slot_gs_get.plain F.entry_gs_get (F.slot_gs_get.check _ _ _ _ _ _ _ _ Qd (F.args_gs_get _ _ _) ?_)
 repeat (any_goals (first|assumption|(with_reducible refine wpAny_loadPart_at hx ?_;rw[hc])|with_reducible refine rp z Nr ?_|wp_step))
 refine⟨Code.quiet_builtin _ (by decide +kernel),codeAny_builtin F.entry_object_class ?_⟩
 repeat (any_goals (first|assumption|(with_reducible refine wpAny_loadPart_at hx ?_;rw[hc])|wp_step))
theorem qU{tk:Tok}{Q:Fin->Shared->Prop}(x:ZE h e C)(z:ZH h C D)(hq:Q (.done (.ret (.ref C))) ⟨h,g,d,t,os⟩) :
  wpAny (model prog w) A (Builtin.«object.__getattribute__» ⟨[.ref e,.str "__class__" tk],[]⟩) Q E ⟨h,g,d,t,os⟩:=by
 have x0:=x;obtain⟨oe,hx,hc⟩:=x;have Qd:(⟨h,g,d,t,os⟩:Shared).TypeIs (.builtin "object.__class__") "getset_descriptor":=F.typeOf_object_class;have f5:=F.typeOf_object_class;have f6:=F.slot_gs_get.lookup;have f7:=F.slot_gs_set.lookup;have hm:("__class__":Str)∈eF:=.head _
 repeat (any_goals (first|assumption|(with_reducible refine wpAny_loadPart_at hx ?_;rw[hc])|with_reducible refine rN z hm Ag ?_|wp_step))
 refine uC x0 z ?_
 repeat (any_goals (first|assumption|wp_step))
theorem rQ{tk:Tok}{R:Result->Shared->Prop}(x:ZE h e C)(z:ZH h C D)(hq:R (.ok (.ret (.ref C))) ⟨h,g,d,t,os⟩) :
  codeAny (model prog w) A (.call (.builtin "BaseException.__getattribute__") ⟨[.ref e,.str "__class__" tk],[]⟩) R ⟨h,g,d,t,os⟩:=by
 obtain⟨oe,hx,hc⟩:=id x;obtain⟨N,nm,q,bs,hdct,sn,sub,ab,col,dd,k0,k1,k2,k3,k5,mN,h1,_,_⟩:=z.1;exact codeAny_call_builtin F.attrBase_ValueError.ga.plain F.entry_bexc_ga (wpAny_check_ga_own F.attrBase_ValueError h1 z.tail hx hc (qU x z hq))
theorem Aj{tk:Tok}{fill expr:Bool}{Q:Value->Shared->Prop}(x:ZE h e C)(z:ZH h C D)(hq:Q (.ref C) ⟨h,g,d,t,os⟩) :
  wpAny (model prog w) A (getAttrBy (.ref e) (.str "__class__" tk) fill expr) Q E ⟨h,g,d,t,os⟩:=by
 have x0:=x;obtain⟨oe,hx,hc⟩:=x;have f3:=F.attrBase_ValueError.ga.bind (.ref e);have XI:(expr&&onTheHeap (Value.builtin "BaseException.__getattribute__"))=false:=by cases expr <;> rfl
 have UW:(Value.builtin "BaseException.__getattribute__"==Value.builtin "object.__getattribute__")=false:=by decide +kernel
 have XH:(onTheHeap (Value.ref C)&&Value.builtin "BaseException.__getattribute__"==Value.builtin "object.__getattribute__")=false:=by rw[UW];rfl
 have U8:("__getattribute__":Str)∈eF:=.tail _ (.tail _ (.head _));have D5:("__getattr__":Str)∈eF:=.tail _ (.tail _ (.tail _ (.head _)))
 repeat (any_goals (first|assumption|(with_reducible refine wpAny_loadPart_at hx ?_;rw[hc])|with_reducible refine rN z U8 F.attrBase_ValueError.ga.lookup ?_|with_reducible refine rN z D5 F.attrBase_ValueError.noGetattr ?_|wp_step))
 refine rQ x0 z ?_
 repeat (any_goals (first|assumption|wp_step))
theorem rR{Q:Option Value->Shared->Prop}(x:ZE h e C)(z:ZH h C D)(hq:Q (some (.ref C)) ⟨h,g,d,t+1,os⟩):wpAny (model prog w) A (getAttr? (.ref e) "__class__") Q E ⟨h,g,d,t,os⟩:=by
 unfold getAttr? getAttrBy?
 repeat (any_goals (first|assumption|with_reducible apply Aj x z|wp_step))
theorem Ah{dep:Int}{tk:Tok}{Q:Fin->Shared->Prop}{s:Shared}(x:ZE s.heap e C)(hq:Q (.done (.ret (.bool true))) s):wpAny (model prog w) A (Builtin.«isinstance.nested» ⟨[.ref e,.ref C,.int dep tk],[]⟩) Q E s:=by
 unfold Builtin.«isinstance.nested»;refine zz (kU x ?_);rw[if_pos (beq_self_eq_true _)];exact zz (wpAny_rule (zz (zq (zq hq))))
theorem Ai{dep:Int}{tk:Tok}{Q:Fin->Shared->Prop}{s:Shared}(x:ZE s.heap e C)(z:ZH s.heap C D)(hq:Q (.done (.ret (.bool true))) s):wpAny (model prog w) A (Builtin.«isinstance.nested» ⟨[.ref e,.type "ValueError",.int dep tk],[]⟩) Q E s:=by
 unfold Builtin.«isinstance.nested»;refine zz (kU x ?_);rw[if_neg (by intro q;cases beq_iff_eq.mp q)];refine zz (wpAny_of_eq (show typeOf (.type "ValueError")=pure (.type "type") from by kernel_rfl) ?_);rw[if_pos (by decide)]
 k_delta "plainIsInstance"
 refine zz (zz (wpAny_of_eq (show isType (.type "ValueError")=pure true from rfl) ?_));simp only[xq,yo,if_false];unfold isInstance;refine zz (zz (kU x (rp z (b:=true) rfl ?_)));simp only[if_true];exact zq (zz (zq (zq hq)))
theorem qi{B:Addr}{dep:Int}{tk:Tok}{Q:Fin->Shared->Prop}{s:Shared}(x:ZE s.heap e C)(z:ZH s.heap C D)(y:ZB s.heap B)(n1:B≠C)(n2:B≠D)(hq:Q (.done (.ret (.bool false))) { s with toks:=s.toks+1 }) :
  wpAny (model prog w) A (Builtin.«isinstance.nested» ⟨[.ref e,.ref B,.int dep tk],[]⟩) Q E s:=by
 have hb:(Value.ref C::Value.ref D::gA).contains (.ref B)=false:=by
  rw[<- Bool.not_eq_true,yK];intro hm;rcases zg.mp hm with q|hm
  ·exact n1 (Value.ref.inj q)
  rcases zg.mp hm with q|hm
  ·exact n2 (Value.ref.inj q)
  ·unfold gA at hm
   simp at hm
 unfold Builtin.«isinstance.nested»;refine zz (kU x ?_);rw[if_neg (fun q=>n1 (Value.ref.inj (beq_iff_eq.mp q)).symm)];refine zz (Jp y ?_);rw[if_pos (by decide)]
 k_delta "plainIsInstance"
 refine zz (zz (rP y ?_));simp only[xq,yo,if_false];unfold isInstance;refine zz (zz (kU x (rp z hb ?_)));simp only[yo,if_false];obtain⟨hh,g,d,t,os⟩:=s;refine zz (rR x z ?_);refine zz (rP z.1.cls ?_);simp only[xq,yo,if_false];refine zz (wpAny_rule ?_);refine rp z hb ?_;exact zz (zq (zq hq))
end
end L3
namespace L3
open PySem PySem.Spec PyProof.Rows L2
noncomputable def pq:List Str:=["BadLine","BadTree","BadWord","NoPlace","Late","NoStretch","Twice"]
structure ZK (K:Q_) (mg:Str->Option Value) (C D:Addr):Prop where
 np:mg "Unknown" = some (.ref C)
 he:mg "HouseError" = some (.ref D)
 zh:∀h:Heap,K.In h->ZH h C D
 ot:∀x∈pq,∃B,mg x=some (.ref B)/\B≠C/\B≠D/\∀h:Heap,K.In h->ZB h B
section
variable {X:Cx}{C D:Addr}{Ze:Hp->Prop}
theorem Fy(Z:ZK X.K X.mg C D)(hg:Gl X "Unknown")(hc:X.calm=true)
  (hx:∀(pins:List (Addr×Obj)) (σ:St) (H:Hp) (s:Shared) (h':Heap) (e:Addr) (vs:List Value),Inv X pins σ H s->Ze H->Heap.MadeExcOf s.heap h' e (.ref C) vs->X.xe (.ref e) { s with heap:=h' })
  (t:Str) (np cp cpos pos:Pos) (k:Nat):PS X (.Raise (some (.Call (.Name "Unknown" np) [.Constant (.str t) k cp] [] cpos)) none pos) (fun _ _ H=>Ze H):=by
 intro pins s σ H D' I hz;have z:=Z.zh _ I.dR;obtain⟨N,nm,q,bs,hdct,sn,sub,ab,col,dd,k0,k1,k2,k3,k5,mN,h1,h2,h3⟩:=z.1;refine wpAny_Raise_call_subT (C:=C) (nm:=nm) (q:=q) (N:=N) (bs:=bs) (bm:=.ref D::gA) (hdct:=hdct) (sn:=sn) (sub:=sub) (ab:=ab) (col:=col) (dd:=dd) (k0:=k0) (k1:=k1) (k2:=k2) (k3:=k3) (k5:=k5)
  F.excBase_ValueError (mN:=mN) (by rfl) (I.ok.hd hc) (by rfl) (h3 _ (.tail _ (.head _))) (iD I hg Z.np ⟨rfl,?_⟩)
 have st:starEach [Expr.Constant (.str t) k cp] X.env=(false,eval (Expr.Constant (.str t) k cp) X.env)::starEach [] X.env:=by rfl
 rw[st];refine Calls.evalArgs_plain (Calls.spliced_cons ?_);show wpAny _ _ (eval (.Constant (.str t) k cp) X.env) _ _ _;refine Calls.Constant_str (Calls.spliced_nil ⟨rfl,by show 1<=zp;decide,h1,h2,z.tail.tail,fun h' e md=>?_⟩);exact hx pins σ H _ h' e _ (I.tok _) hz md
end
section
variable {M:Model}{A:Around}{E:Value->Shared->Prop}{h:Heap}{g:Array GenState}{d:Drawn}{t:Nat}{os:OsState}{e C D:Addr}
theorem Jq{Q:Bool->Shared->Prop}{s:Shared}(x:ZE s.heap e C)(z:ZH s.heap C D)(hq:Q true s):wpAny M A (excMatches (.ref e) (.ref D)) Q E s:=by
 obtain⟨⟨N,nm,q,bs,hdct,sn,sub,ab,col,dd,k0,k1,k2,k3,k5,mN,h1,_,_⟩,⟨N',nm',q',bs',hdct',sn',sub',ab',col',dd',k0',k1',k2',k3',k5',mN',h1',h2',h3'⟩⟩:=z;obtain⟨oe,he,fP⟩:=x;obtain⟨h,g,d,t,os⟩:=s;have Nr:(Value.ref D::gA).contains (.type "BaseException")=true:=rfl;have Vp:(Value.ref C::Value.ref D::gA).contains (.ref D)=true:=by simp
 have f:=tc_notTuple;unfold excMatches
 repeat (first|(with_reducible refine wpAny_loadPart_at he ?_;rw[fP])|with_reducible refine wpAny_loadPart_at h1' ?_|(with_reducible refine wpAny_isSubtype_exc h1' ?_;rw[Nr])|(with_reducible refine wpAny_isSubtype_exc h1 ?_;rw[Vp])|wp_step)
 exact hq
end
section
variable {X:Cx}{C D e:Addr}{oe:Obj}
theorem uD(hp:(e,oe)∈X.pn)(hc:oe.cls=.ref C):cD X (.builtin "isinstance") (fun xs H Q=>xs=[.ref e,.ref C]/\Q (.bl true) H):=by
 intro pins s σ H xs us Q I r ⟨ex,q⟩;subst ex;cases r with
 |cons r1 r =>
 cases r with
 |cons r2 r =>
 cases r;cases r1;cases r2;have x:ZE s.heap e C:=⟨oe,(I.pin _ (zW _ hp)).1,hc⟩;refine call_isinstance (S:=fun _ R s=>ZE s.heap e C/\R (.ok (.ret (.bool true))) s) (fun _ _ _ _ _ hs=>isinstance_outer (Ah hs.1 hs.2) (by intro q;cases q)) ⟨x,?_⟩;exact⟨.bl true,H,I,rfl,q⟩
theorem uE(Z:ZK X.K X.mg C D)(hp:(e,oe)∈X.pn)(hc:oe.cls=.ref C):cD X (.builtin "isinstance") (fun xs H Q=>xs=[.ref e,.ty "ValueError"]/\Q (.bl true) H):=by
 intro pins s σ H xs us Q I r ⟨ex,q⟩;subst ex;cases r with
 |cons r1 r =>
 cases r with
 |cons r2 r =>
 cases r;cases r1;cases r2;have x:ZE s.heap e C:=⟨oe,(I.pin _ (zW _ hp)).1,hc⟩;refine call_isinstance (S:=fun _ R s=>(ZE s.heap e C/\ZH s.heap C D)/\R (.ok (.ret (.bool true))) s) (fun _ _ _ _ _ hs=>isinstance_outer (Ai hs.1.1 hs.1.2 hs.2) (by intro q;cases q)) ⟨⟨x,Z.zh _ I.dR⟩,?_⟩;exact⟨.bl true,H,I,rfl,q⟩
end
end L3
namespace L3
open PySem PySem.Spec PyProof.Rows L2
theorem qj{h:Heap}{e C D:Addr}(x:ZE h e C)(z:ZH h C D):∀cs:List Value,(∀c∈cs,∃B,c=.ref B/\B≠C/\B≠D/\ZB h B)->AnswersAll (fun s=>s.heap=h) (.ref e) cs (cs.map fun _=>false)
 |[],_=>trivial
 |c::cs,hc=>by
  obtain⟨B,rfl,n1,n2,y⟩:=hc c (.head _);refine⟨fun dep tk=>?_,qj x z cs fun c hm=>hc c (.tail _ hm)⟩;intro prog w A R s hs;obtain⟨e1,hq⟩:=hs;subst e1;exact qi x z y n1 n2 (hq _)
theorem Cz{prog:Program}{w:World}{A:Around}{E:Value->Shared->Prop}{e C D tp:Addr}{n:Nat}{cs:List Value}{s:Shared}{Q:Fin->Shared->Prop}(x:ZE s.heap e C)(z:ZH s.heap C D)
  (Im:s.heap.get? tp=some { cls:=.type "tuple",data:=.seq cs.toArray n }) (hc:∀c∈cs,∃B,c=.ref B/\B≠C/\B≠D/\ZB s.heap B) (hq:∀tk',Q (.done (.ret (.bool false))) { s with toks:=tk' }) :
  wpAny (model prog w) A (Builtin.«isinstance.nested» ⟨[.ref e,.ref tp,rawInt 0],[]⟩) Q E s:=by
 have ha:=qj x z cs hc;obtain⟨oe,he,fP⟩:=x;obtain⟨h,g,d,t,os⟩:=s;have hZ:(Value.ref C==Value.ref tp)=false:=beq_eq_false_iff_ne.mpr fun q=>by
  cases q;obtain⟨_,_,h1,h2,h3⟩:=z.1.cls;rw[Im]at h1;cases h1;cases h3
 have Vv:(⟨h,g,d,t,os⟩:Shared).TypeIs (.ref tp) "tuple":=⟨_,Im,rfl⟩;have f1:=F.isi_sub_tuple;have hv:(cs.map fun _=>false).any id=false:=by simp
 repeat (any_goals (first|assumption|(with_reducible refine wpAny_loadPart_at he ?_;rw[fP])|wp_step))
 refine wpAny_arrayLoop ?_;simp only[yO,wy];refine isinstance_items (dep:=0) (fun _ tk h=>h) cs _ _ _ ha rfl fun tk'=>?_;rw[hv];simp only[yo,if_false]
 repeat (any_goals (first|assumption|wp_step))
 exact hq tk'
section
variable {X:Cx}{C D e:Addr}{oe:Obj}
theorem Ak(Z:ZK X.K X.mg C D)(hp:(e,oe)∈X.pn)(hc:oe.cls=.ref C):cD X (.builtin "isinstance") (fun xs H Q=>∃p vs,xs=[.ref e,.ref p]/\H p=some (.tup vs)/\(∀v∈vs,∃B,v=.ref B/\B≠C/\B≠D/\∀h:Heap,X.K.In h->ZB h B)/\Q (.bl false) H):=by
 intro pins s σ H xs us Q I r ⟨p,vs,ex,hh,hv,q⟩;subst ex;obtain⟨_,_,rfl,r1,r2⟩:=vals2 r;cases r1;cases r2;have x:ZE s.heap e C:=⟨oe,(I.pin _ (zW _ hp)).1,hc⟩;obtain⟨_,its,rt,⟨o,ho,DY,n,hd⟩,hs⟩:=I.av p _ hh;obtain⟨kM,gu⟩:=hs o ho;obtain⟨c,VS,dat,sl⟩:=o;simp only at DY hd kM gu;subst DY hd kM gu;have hits:∀{vs:List V} {its:List Value},Vals vs its->(∀v∈vs,∃B,v=.ref B/\B≠C/\B≠D/\∀h:Heap,X.K.In h->ZB h B)->∀c∈its,∃B,c=.ref B/\B≠C/\B≠D/\ZB s.heap B:=by
  intro vs its r;induction r with
  |nil=>intro _ c hc;cases hc
  |cons r1 _ ih =>
   intro hv c hc;rcases zg.mp hc with rfl|hc
   ·obtain⟨B,rfl,n1,n2,y⟩:=hv _ (.head _)
    cases r1;exact⟨B,rfl,n1,n2,y _ I.dR⟩
   ·exact ih (fun v hm=>hv v (.tail _ hm)) c hc
 refine call_isinstance (S:=fun _ R s'=>s'.heap=s.heap/\∀tk,R (.ok (.ret (.bool false))) { s' with toks:=tk })
  (fun _ _ _ _ s' hs=>isinstance_outer (Cz (s:=s') (hs.1▸x) (hs.1▸Z.zh _ I.dR) (hs.1▸ho) (hs.1▸hits rt hv) hs.2) (by intro q;cases q)) ⟨rfl,fun tk=>?_⟩
 exact⟨.bl false,H,I.tok _,rfl,q⟩
theorem rS(Z:ZK X.K X.mg C D)(hp:(e,oe)∈X.pn)(hc:oe.cls=.ref C){B:Addr}(n1:B≠C)(n2:B≠D)(hB:∀h:Heap,X.K.In h->ZB h B):cD X (.builtin "isinstance") (fun xs H Q=>xs=[.ref e,.ref B]/\Q (.bl false) H):=by
 intro pins s σ H xs us Q I r ⟨ex,q⟩;subst ex;cases r with
 |cons r1 r =>
 cases r with
 |cons r2 r =>
 cases r;cases r1;cases r2;have x:ZE s.heap e C:=⟨oe,(I.pin _ (zW _ hp)).1,hc⟩;refine call_isinstance (S:=fun _ R s=>(ZE s.heap e C/\ZH s.heap C D/\ZB s.heap B)/\R (.ok (.ret (.bool false))) { s with toks:=s.toks+1 }) (fun _ _ _ _ _ hs=>isinstance_outer (qi hs.1.1 hs.1.2.1 hs.1.2.2 n1 n2 hs.2) (by intro q;cases q)) ⟨⟨x,Z.zh _ I.dR,hB _ I.dR⟩,?_⟩;exact⟨.bl false,H,I.tok _,rfl,q⟩
end
end L3
namespace L3
open PySem PySem.Spec PyProof.Rows L2
section
variable {P:Program}{w:World}{K:Q_}{mg:Str->Option Value}{base:Heap}
theorem qI{ι:List Addr}{H:Hp}{ds:List D}{vs:List V}{N:List Str}(r:aC K ι H ds vs):bE K ι H (ds.map some++zN (N.length-ds.length) none) (start N vs) where
 len:=by
  unfold L2.start;rw[zf,zf,zu,zu,yw,yw,r.length]
 val:=fun i d e=>by
  unfold L2.start;by_cases hi:i<ds.length
  ·rw[zD (by rw[zu];exact hi),ze]at e
   rw[zD (by rw[zu,<- r.length];exact hi),ze];cases q:ds[i]? with
   |none=>rw[q]at e;cases e
   |some d' =>
    rw[q]at e;cases e;obtain⟨v,hv,rv⟩:=r.get q;exact⟨v,by rw[hv];rfl,rv⟩
  ·rw[zd (by rw[zu];omega),yX]at e
   split at e <;> cases e
noncomputable def NU(P:Program)(w:World)(K:Q_)(mg:Str->Option Value)(base:Heap)(Γ:Ctx)(Cu:Addr)(k:Nat)(m:Str):Prop:=∃(fa:Addr) (fd:FuncData) (ps:List Str),Meth K Γ.hc m fa/\Binds K fd ps []/\cq P w K mg base (eR P w) k fa fd ps (mC K ps.length (Γ.rz (aA m)) Cu)/\∀ds M M',Γ.rz (aA m) ds M=some M'->ds.length=ps.length
theorem C8{Γ:Ctx}{nm x:Str}{st:Stmt}{fa Cu D:Addr}{fd:FuncData}{N ps fns gls bo:List Str}{b:aI}{k kk:Nat}(F:eC K nm x st fa fd)(hS:bZ N ps (aj st))(hc:dD ⟨aj st,N,fns,gls,bo⟩ 200 (aN st)=some b)
  (hz:fq 200 (aN st) b=true) (Z:ZK K mg Cu D) (hE:∀n,Sound Γ n) (hk:kk<=k)
  (hC:∀(cdv:Value) (A:Around) (outer:List Env) (s:Shared) (H:Hp) (E:XK),bG k (A.deeper (envOfC x (aj st) s.heap.objs.size fa cdv))->aL Γ ⟨aj st,N,fns,gls,bo⟩ (et (eR P w) P w K mg base N x (aj st) fa cdv A outer s H E).d9)
  (hM:NU P w K mg base Γ Cu kk "known_rota")
  : cq P w K mg base (eR P w) (k+1) fa fd ps (mC K ps.length (fun ds M=>if ds.length=ps.length then dF Γ b (ds.map some++zN (N.length-ds.length) none) M else none) Cu):=by
 obtain⟨oc,od,kV,doc,pm,an,cdv,ct,iL,rfl,lk,jV⟩:=F.ex;refine IX lk jV hS (fun vs H Q E h=>h.1) fun A outer s H vs Q E hr h=>?_;obtain⟨hl,ι,M,M',ds,S,r,e,kk'⟩:=h;have C1:=hC cdv A outer s H E hr;dsimp only at e;split at e
 ·refine⟨_,(vc (Ze:=fun H'=>E (.ref Cu) none H') (Cu:=Cu) hE (nT hE) C1 (fun _=>rfl) (fun t np cp cpos pos k hg=>Fy (X:=et (eR P w) P w K mg base N x (aj st) fa cdv A outer s H E) Z (show Gl _ _ from C1.bA hg) rfl (fun pins σ H1 s1 h2 e vs I z md=>CY I md z) t np cp cpos pos k)
   (CW fun c H' z=>by rw[z.1];exact z.2) (let ⟨a,b,c,d,e,f,g⟩:=hM;⟨kk,a,b,c,d,e,f,hr.mono hk,g⟩)
   200).2 _ _ hc hz,?_⟩
  exact⟨ι,_,M,M',S,qI (N:=N) r,e,kk'⟩
 ·cases e
end
end L3
namespace L3
open PySem PySem.Spec PyProof.Rows L2
theorem q0:entryFor table "proto.unchain" = some Builtin.«proto.unchain»:=entryFor_of_fast (by kernel_rfl)
theorem qY:plainId "proto.unchain" = true:=by decide +kernel
section
variable {prog:Program}{w:World}{A:Around}{E:Value->Shared->Prop}{s:Shared}
theorem AM{α:Type}{a e:Addr}{o oe:Obj}{us vs:Array Value}{Q:α->Shared->Prop}(hh:A.handled=some (.ref e))(ho:s.heap.get? a=some o)(PN:o.data=.fields us)(UX:2<us.size)(he:s.heap.get? e=some oe)(hd:oe.data=.fields vs)(h2:vs[2]?=some .none)(ne:e≠a)
  (hE:∀h',Heap.SameBut a s.heap h'->(∃o',h'.get? a=some o'/\o'.cls=o.cls)->E (.ref a) { s with heap:=h' }):wpAny (model prog w) A (raiseNew (α:=α) (.ref a)) Q E s:=by
 unfold raiseNew;refine zz (wpAny_handled ?_);rw[hh];dsimp only;rw[if_pos (by simpa using ne)];refine zz (wpAny_holding (wpAny_runValue (codeAny_builtin q0 ?_)));rw[Around.under_plainId qY _];unfold Builtin.«proto.unchain»;dsimp only;refine zz (wpAny_field he hd h2 ?_);rw[if_pos (by rfl)];refine zz (zq (zq ?_));refine zz ?_;unfold updateField;refine zz (wpAny_load ho ?_);rw[PN];dsimp only;rw[if_pos UX];refine wpAny_update ho ?_;refine wpAny_throw (hE _ (Heap.SameBut.update ..) ⟨_,yv _ ho (Obj.isFreed_of_fields (Obj.data_mapFields PN _)),Obj.cls_mapFields ..⟩)
theorem pK{it e:Addr}{oe:Obj}{vs:Array Value}{x left step:Int}{Q:Option Value->Shared->Prop}(hh:A.handled=some (.ref e))(he:s.heap.get? e=some oe)(hd:oe.data=.fields vs)(h2:vs[2]?=some .none)(hit:IsRangeIter s.heap it x left step)(OW:left<=0)
  (hQ:∀h',Heap.ExtBut it s.heap h'->Q none { s with heap:=h' }):wpAny (model prog w) A (pyNext (.ref it)) Q E s:=by
 have hT:s.TypeIs (.ref it) "range_iterator":=⟨_,hit,rfl⟩;unfold pyNext;refine zz (wpAny_attempt (wpAny_callSpecial?_slot (name:=Str.ofString "__next__") hT PySem.F.slot_range_iterator_next
  (wpAny_call_entry PySem.F.slot_range_iterator_next hT PySem.F.entry_range_iterator_next ?_ (PySem.F.args_range_iterator_next_1 _))))
 show wpAny _ _ (field (.ref it) 0 >>= _) _ _ s;refine zz (wpAny_field hit rfl (x:=rawInt x) rfl ?_);show wpAny _ _ (field (.ref it) 1 >>= _) _ _ s;refine zz (wpAny_field hit rfl (x:=rawInt left) rfl ?_);show wpAny _ _ (field (.ref it) 2 >>= _) _ _ s;refine zz (wpAny_field hit rfl (x:=rawInt step) rfl ?_);show wpAny _ _ (if left<=0 then _ else _) _ _ s;rw[if_pos OW];refine zz (wpAny_rule ?_);refine zz ?_;show wpAny _ _ (newExc (.type "StopIteration") [] >>= _) _ _ _;refine zz ?_;simp only[newExc,newTuple];refine zz (wpAny_newObj_type ?_ (by size_fits));refine zz (m:=firstArgMember _ _) (wpAny_of_eq (a:=Value.none) (by first|rfl|(simp only[firstArgMember];rfl)) ?_)
 refine wpAny_newObj_type ?_ (by size_fits);have lt:e<s.heap.objs.size:=zn he;have k1:∀(o:Obj) b u,s.heap.get? b=some u->(s.heap.push o).get? b=some u:=fun o b u e=>zy _ e;refine AM (show A.in1.handled=some (.ref e) from hh) (zk _ rfl) rfl (by rw[wa];exact zj (show 2<6 by decide) (Nat.le_add_right 6 _)) (zy _ (zy _ he)) hd h2 (zA (by rw[zX];exact xF lt)) fun h' sb ⟨o',g1,g2⟩=>?_;refine zz (wpAny_isInstance (T:="StopIteration") (b:=true) ⟨o',g1,g2⟩ isSubtype_stop ?_);refine zq (hQ _ fun b o hb q=>sb.extBut b o (zA (by rw[zX];exact xF (zn q))) (zy _ (zy _ q)))
end
noncomputable def E6(X:Cx):Prop:=∃(e:Addr) (oe:Obj) (vs:Array Value),X.A.handled=some (.ref e)/\X.s₀.heap.get? e=some oe/\X.H₀ e=none/\e ∉ X.fs/\e ∉ X.ex/\oe.data=.fields vs/\vs[2]?=some .none
theorem CJ{P:Program}{w:World}{K:Q_}{tg:Expr}(it:Addr)(lo:Int)(n:Nat):Cj E6 P w K tg (qT lo n) [it] it (fun i h=>IsRangeIter h it (lo+(i:Nat)*1) ((n:Int)-(i:Nat)) 1) where
 obj:=fun i h st b hb=>by
  have e:b=it:=by simpa using hb
  subst e;exact⟨_,st,fun v z=>by
   have z':Data.fields _=Data.cell v:=z;cases z'⟩
 keep:=fun i h h' st k=>k it (by simp) _ st
 item:=by
  intro X hP hw hK hc i pins s σ H E I hf st hg;subst hP hw hK;obtain⟨f0,f1,f2,f3,f4,f5⟩:=hf it (by simp);have hg:i<n:=hg;refine wpAny_pyNext_range_item st (by omega) fun h' st' sb=>?_;have I1:Inv X pins σ H { s with heap:=h',toks:=s.toks+1 }:=I.turned (fun b o hb e=>(sb.2 b hb).trans e) f0 f1 f3 f4 f5;have st2:IsRangeIter h' it (lo+((i+1:Nat):Int)*1) ((n:Int)-((i+1:Nat):Int)) 1:=by
   have a1:lo+(i:Nat)*1+1=lo+((i+1:Nat):Int)*1:=by omega
   have a2:(n:Int)-(i:Nat)-1=(n:Int)-((i+1:Nat):Int):=by omega
   rw[<- a1,<- a2];exact st'
  refine⟨_,rfl,oJ (s:={ s with heap:=h',toks:=s.toks+1 }) (n:="range_iterator") st' rfl rfl (by decide) ⟨.int (lo+i),H,I1,⟨s.toks,?_⟩,⟨rfl,rfl⟩,st2,fun b hb=>(hf b hb).1⟩⟩;rw[vt]
 done:=by
  intro X hP hw hK hc i pins s σ H E I hf st hg;subst hP hw hK;obtain⟨f0,f1,f2,f3,f4,f5⟩:=hf it (by simp);obtain⟨e,oe,vs,h1,h2,h3,h4,h5,h6,h7⟩:=hc;exact pK h1 (I.base.keep e oe h2 h3 h4 h5) h6 h7 st (by have:n<=i:=hg;omega) fun h' eb=>⟨rfl,I.turned (t':=s.toks) (fun b o hb e=>eb b o hb e) f0 f1 f3 f4 f5⟩
 self:=fun _ _ _ _ _ st h=>wpAny_pyIter_rangeiter st h
end L3
namespace L3
open PySem PySem.Spec PyProof.Rows L2
noncomputable abbrev fO(X:Cx) (e:Addr) (oe:Obj):Cx:={ X with A:=X.A.mark (some (.ref e)),calm:=false,pn:=(e,oe)::X.pn,xe:=fun _ _=>False }
section
variable {X:Cx}{pins:List (Addr×Obj)}{σ:L2.St}{H:Hp}{s:Shared}{e:Addr}{oe:Obj}
theorem ny(I:Inv X pins σ H s)(he:s.heap.get? e=some oe)(hH:H e=none)(hl:e≠X.env.locals)(hf:e ∉ X.fs)(hd:∀v,oe.data≠.cell v):Inv (fO X e oe) pins σ H s:=by
 have ok:=I.ok;refine⟨⟨ok.mod,ok.kind,ok.glob,ok.blt,ok.above,ok.inj,ok.has,ok.uw,fun z=>(by cases z),ok.frames,ok.vb,ok.IY,ok.bs,ok.kR,ok.mZ,ok.p9,ok.eL,ok.mJ⟩,I.os,I.bare,I.base,I.loc,I.cell,I.free,I.cW,fun p hp=>?_,I.av,I.len⟩;rcases zg.mp (show p∈(e,oe)::(X.pn++pins) from hp) with rfl|hp
 ·exact⟨he,hH,hl,hf,hd⟩
 ·exact I.pin p hp
theorem BF(hk:X.Ok)(I:Inv (fO X e oe) pins σ H s):Inv X pins σ H s :=
 ⟨hk,I.os,I.bare,I.base,I.loc,I.cell,I.free,I.cW,fun p hp=>I.pin p (show p∈(e,oe)::(X.pn++pins) from .tail _ hp),I.av,I.len⟩
theorem name_goes{M:Model}{A:Around}{E:Value->Shared->Prop}{i:Nat}{x:Str}{pos:Pos}{Q:Unit->Shared->Prop}(I:Inv X pins σ H s)(hN:X.N.Nodup)(hi:X.N[i]?=some x)(hk:X.env.scope.names.lookup x=some .local)
  (h:∀s',Inv X pins (σ.set i none) H s'->Q () s'):wpAny M A (do bindName X.env x .none;unbindBehindTheSuite X.env x pos) Q E s:=by
 obtain⟨m,hn,hl⟩:=id I.loc;have fP:(X.env.scope.kind==.class||(X.env.scope.kind==.module&&X.env.locals != X.env.globals))=false:=by rw[I.ok.kind];rfl
 have BL:i<σ.length:=by rw[I.len];exact(zv.mp hi).1
 have lM:=I.lM;refine wpAny_nameGoes_keeps hk hn fP fun h' v hn' hs=>?_;refine h _ ⟨I.ok,I.os,I.bare,⟨fun b o e n hb hx=>?_,fun b o e n hb hx=>?_,I.base.free,fun b o e hx=>?_,I.base.ic,I.base.gI,I.base.ig⟩,⟨_,hn',fun j y v' e1 e2 e3=>?_⟩,fun y c e=>?_,I.free,I.cW,fun p hp=>?_,fun b ob e=>?_,by simpa using I.len⟩
 ·exact(hs.2 b (zA (zj (zn e) I.ok.above))).trans (I.base.keep b o e n hb hx)
 ·obtain⟨sl,e1⟩:=I.base.slot b o e n hb hx
  exact⟨sl,(hs.2 b (zA (zj (zn e) I.ok.above))).trans e1⟩
 ·obtain⟨o',e1⟩:=I.base.there b o e hx
  exact⟨o',(hs.2 b (zA (zj (zn e) I.ok.above))).trans e1⟩
 ·by_cases hj:j=i
  ·subst hj
   rw[zP BL]at e2;cases e2
  ·rw[zc (Ne.symm hj)]at e2
   obtain⟨u',r',q⟩:=hl j y v' e1 e2 e3;refine⟨u',r',?_⟩;rcases q with ⟨k,e⟩|⟨k,c,e,z⟩
   ·refine .inl ⟨k,?_⟩
    have:y≠x:=fun e=>hj (ng hN e1 (e▸hi))
    simp[this,e]
   ·exact .inr ⟨k,c,e,z.sameBut hs (lM y c e)⟩
 ·obtain⟨w',z⟩:=I.cell y c e
  exact⟨w',z.sameBut hs (lM y c e)⟩
 ·obtain⟨e,n,ne,nf,d⟩:=I.pin p hp
  exact⟨(hs.2 p.1 ne).trans e,n,ne,nf,d⟩
 ·refine(I.av b ob e).iH (fun c w' hc q=>(hs.2 c ?_).trans q) (fun _ q=>q) fun _ _ q=>q
  rintro rfl;rcases hc with rfl|hc
  ·rw[I.free]at e;cases e
  ·rw[I.free]at hc;cases hc
end
noncomputable def Kp(H H':Hp):Prop:=∀a u,H a=some u->H' a=some u
theorem Kp.refl(H:Hp):Kp H H:=fun _ _ e=>e
theorem Kp.new{H H':Hp}{p:Addr}{o:HO}(k:Kp H H')(hp:H p=none):Kp H (upd H' p o):=fun a u e=>by rw[aB (aP e hp)];exact k a u e
theorem Kp.none{H H':Hp}{p:Addr}(k:Kp H H')(hp:H' p=none):H p=none:=by
 cases h:H p with
 |none=>rfl
 |some u=>rw[k p u h]at hp;cases hp
theorem Kp.sim{K:Q_}{ι:List Addr}{M:MH}{H H':Hp}(k:Kp H H')(S:aK K ι M H):aK K ι M H'/\Ext K ι H ι H':=by
 have X:Ext K ι H ι H':=⟨fun _ _ e=>e,fun a xs e=>k _ _ e,fun a xs e=>by
  rcases e with ⟨o,e⟩|e
  ·exact .inl ⟨o,k _ _ e⟩
  ·exact .inr e⟩
 refine⟨⟨S.len,S.inj,fun i a o h1 h2=>?_⟩,X⟩;obtain⟨u,hu,_⟩:=S.tracked h1;rw[k _ _ hu,<- hu];exact(S.obj i a o h1 h2).mono X
section
variable {X:Cx}
theorem F0(hu:X.A.units+100<cLine):cL X (compareOp .Eq) (fun x y H Q=>∃p q t,x=.ref p/\y=.ref q/\aJ X.K H p [.str t]/\aJ X.K H q [.str t]/\Q (.bl true) H):=by
 intro pins s σ H x y v u Q I rx ry h;obtain⟨p,q,t,rfl,rfl,hp,hq,k⟩:=h;cases rx;cases ry;have r:aC X.K [] H [.str t] [.str t]:=.cons (.str t) .nil;have S:aK X.K [] [] H:=⟨rfl,fun i j a h=>by simp at h,fun i a o h=>by simp at h⟩;have e:(if [D.str t].length=[D.str t].length then fR (bP [] 19) [.str t] [.str t] else some false)=some true:=by simp[fR,bP,bC,eP]
 exact(C7 I (A:=X.A) (by omega) (fun r1 r2 g1 g2 h=>(lK I S 19 (A:=X.A.in1) (by show X.A.units+1+19<cLine;omega) r1 r2 g1 g2 h).2.2) hp hq r r e).1 X.prog X.w X.xe _ ⟨.bl true,H,I,rfl,k⟩
end
noncomputable def kQ:List Str:=["_law_e","_law_some","_law_words_here"]
noncomputable def qb(p:Nat->Pos)(i:Nat)(B:Str):Expr:=.Call (.Name "isinstance" (p i)) [.Name "_law_e" (p (i+1)),.Name B (p (i+2))] [] (p (i+3))
noncomputable def oS(p:Nat->Pos)(sc:Scope):List Stmt:=[
 .Assign [.Name "_law_some" (p 0)] (.List [qb p 1 "Late",qb p 5 "Twice",qb p 9 "Unknown",qb p 13 "NoStretch"] (p 17)) (p 18),
 .Expr (.Call (.Attribute (.Name "_law_some" (p 19)) "append" (p 20)) [.Call (.Name "isinstance" (p 21)) [.Name "_law_e" (p 22),.Tuple [.Name "BadLine" (p 23),.Name "BadTree" (p 24),.Name "BadWord" (p 25),.Name "NoPlace" (p 26)] 0 (p 27)] [] (p 28)] [] (p 29)) (p 30),
 .Expr (.Call (.Attribute (.Name "_law_some" (p 31)) "append" (p 32)) [.UnaryOp .Not (qb p 33 "ValueError") (p 37)] [] (p 38)) (p 39),
 .Assign [.Name "_law_words_here" (p 40)] (.List [.Constant (.str "late") 0 (p 41),.Constant (.str "twice") 0 (p 42),.Constant (.str "unknown") 0 (p 43),.Constant (.str "stretch") 0 (p 44),.Constant (.str "other") 0 (p 45),.Constant (.str "base") 0 (p 46)] (p 47)) (p 48),
 .Return (some (.ListComp (.Subscript (.Name "_law_words_here" (p 49)) (.Name "_law_k" (p 50)) (p 51)) [⟨.Name "_law_k" (p 52),.Call (.Name "range" (p 53)) [.Constant (.int 6) 0 (p 54)] [] (p 55),[.Subscript (.Name "_law_some" (p 56)) (.Name "_law_k" (p 57)) (p 58)],0⟩] sc (p 59))) (p 60)]
noncomputable def rH:List Str:=["isinstance","range","Late","Twice","Unknown","NoStretch","BadLine","BadTree","BadWord","NoPlace","ValueError"]
structure Cs (sc dC:Scope):Prop where
 e:sc.names.lookup ("_law_e":Str)=some .local
 v:∀x∈(["_law_some","_law_words_here"]:List Str),sc.names.lookup x=some .cell
 bA:∀x∈rH,sc.names.lookup x=some .globalImplicit
 comp:cX ⟨sc,kQ,[],[],[]⟩ dC ["_law_k"]=true
 fr:∀x∈(["_law_some","_law_words_here"]:List Str),dC.names.lookup x=some .free
section
variable {X:Cx}{C D e:Addr}{oe:Obj}{p:Nat->Pos}
theorem FX{ev:Array Value}{scope:Scope}{cl:List (Str×Addr)}{xs N':List Str}{tg elt:Expr}{ifs:List Expr}{g:TG}{tc:TT}{te:TE}{p1 p2 p3 pos:Pos}(hh:X.A.handled=some (.ref e))(hp:(e,oe)∈X.pn)(hd:oe.data=.fields ev)(h2:ev[2]?=some .none)
  (S:∀_:X.Ok,dX X scope cl xs N') (hg:X.Ok->∀C s H fp,PG (bj X scope cl C N' s H fp) tg g) (hr:Gl X "range") (hm:X.mg "range" = none) (htc:∀C s H fp,jz (bj X scope cl C N' s H fp) ifs tc) (hte:∀C s H fp,PE (bj X scope cl C N' s H fp) elt te) :
  PE X (.ListComp elt [⟨tg,.Call (.Name "range" p1) [.Constant (.int 6) 0 p2] [] p3,ifs,0⟩] scope pos) (fun σ H Q=>∃W:Nat->Nat->List V->Hp->Prop,(∃m,W 0 m [] H)/\pk (qT 0 6) g xs.length tc te σ (fun ys H'=>∀p,H' p=none->Q (.ref p) (upd H' p (.lst ys))) W):=by
 intro pins s σ H Q I ⟨W,⟨m0,w0⟩,hW⟩;have S:=S I.ok;rw[eval_ListComp];refine wpAny_comprehension_free (use:=none) rfl (fun x=>rfl) S.GW S.kind S.names ?_;refine Call_ (fL I hr hm boot_range (W_ (aF (ay (X:=X) (Dp (i:=6) (j:=0) (pos:=p2)) bq (by rfl) p3 pins s σ H (fun vs H1=>vs=[V.int 6]/\H1=H) I ⟨rfl,rfl⟩) fun us s1 ⟨vs,H1,I1,r1,q1⟩=>?_) rfl rfl));obtain⟨rfl,rfl⟩:=q1;obtain⟨u,rfl,ru⟩:=vals1 r1;obtain⟨t,rfl⟩:=ru;refine call_range_1 ?_;refine wpAny_pyIter_range (IsRange.new ..) (small_one (by decide) (by decide) (by decide) (by decide)) ?_;dsimp only;generalize Ea:s1.heap.push _=h1;generalize vS:h1.push _=h2';have k1:∀b o,s1.heap.get? b=some o->h2'.get? b=some o:=fun b o e=>by
  rw[<- vS];exact zy _ (by rw[<- Ea];exact zy _ e)
 have Py:s1.heap.objs.size<=h1.objs.size:=by rw[<- Ea,zX];exact yh _
 have st:IsRangeIter h2' h1.objs.size (0+((0:Nat):Int)*1) (((6:Nat):Int)-((0:Nat):Int)) 1:=by
  rw[<- vS];exact zk _ rfl
 have fp:∀b∈[h1.objs.size],eD X pins H1 b:=fun b hb=>by
  rw[zG.mp hb];exact I1.kE Py (I1.av.fresh Py)
 refine kG (ok:=E6) (RR:=fun acc C=>compPost (model X.prog X.w) X.A X.xe none (EP X pins σ Q) acc C) (fun Ca=>?_) S (hg I.ok) htc hte (I1.kept k1) (CJ h1.objs.size 0 6) st fp hW w0 ?_
 ·obtain⟨g1,g2,g3,g4,g5⟩:=(I1.kept k1).pin (e,oe) (zW _ hp)
  refine⟨e,oe,ev,hh,g1,g2,fun z=>?_,fun z=>?_,hd,h2⟩
  ·rcases zg.mp (I1.fD e z) with q|q
   ·exact g3 q
   ·exact g4 q
  ·have hz:e=h1.objs.size:=zG.mp z
   have:=(fp h1.objs.size (by simp)).2.2.2.2.2 (e,oe) (zW _ hp)
   exact this hz
 ·intro Dl Ca s' ys H' I' nD cn c1 c2 c3 c4 ns q
  obtain⟨m,hm⟩:=ns;exact⟨m,hm,fun h' sb=>⟨.ref Dl,_,pP I' sb cn c1 c2 c3 c4,rfl,q Dl nD⟩⟩
noncomputable def Je:List V:=[.bl false,.bl false,.bl true,.bl false,.bl false,.bl false]
noncomputable def Jd:List V:=[.str "late",.str "twice",.str "unknown",.str "stretch",.str "other",.str "base"]
theorem GX{K:Q_}{H:Hp}{a b:Addr}{v0:Option V}{Q:VK}(ha:H a=some (.lst Je))(hb:H b=some (.lst Jd))(q:∀p,H p=none->Q (.ref p) (upd H p (.lst [.str "unknown"]))) :
  ∃W:Nat->Nat->List V->Hp->Prop,(∃m,W 0 m [] H)/\pk (qT 0 6) (cN 0) 1 (tB (lj (kh K) (cZ 2) (cZ 0))) (lj (kh K) (cZ 3) (cZ 0)) [v0,some (.ref a),some (.ref b)] (fun ys H'=>∀p,H' p=none->Q (.ref p) (upd H' p (.lst ys))) W:=by
 refine⟨fun i m ys H'=>H'=H/\m=6-i/\i<=6/\ys=if i<=2 then [] else [.str "unknown"],⟨6,rfl,rfl,by decide,rfl⟩,?_⟩;rintro i m ys H' ⟨rfl,rfl,hi,rfl⟩;by_cases h6:i=6
 ·subst h6
  exact .inl ⟨zr _,by decide,q⟩
 ·right
  refine⟨(show i<6 by omega),by split <;> (show _<zp;decide),fun v H'' os ho hy=>?_⟩;obtain⟨rfl,rfl⟩:H''=H'/\v=.int (0+i):=hy;match os,ho with
  |[o0],_ =>
   refine⟨[some (.int (0+i))],rfl,rfl,?_⟩;have go:∀(x:Bool) (y:V),oY Je (0+(i:Int))=some (.bl x)->oY Jd (0+(i:Int))=some y->(x=true->((if i<=2 then [] else [V.str "unknown"])++[y])=if i+1<=2 then [] else [V.str "unknown"])->(x=false->(if i<=2 then [] else [V.str "unknown"])=if i+1<=2 then [] else [V.str "unknown"]) ->
     tB (lj (kh K) (cZ 2) (cZ 0)) ([some (V.int (0+(i:Int)))]++[v0,some (.ref a),some (.ref b)]) H'' fun b' H2=>if b'=true then lj (kh K) (cZ 3) (cZ 0) ([some (V.int (0+(i:Int)))]++[v0,some (.ref a),some (.ref b)]) H2 fun y H3=>∃m',m'<6-i/\(H3=H''/\m'=6-(i+1)/\i+1<=6/\(if i<=2 then [] else [V.str "unknown"])++[y]=if i+1<=2 then [] else [V.str "unknown"])
      else ∃m',m'<6-i/\(H2=H''/\m'=6-(i+1)/\i+1<=6/\(if i<=2 then [] else [V.str "unknown"])=if i+1<=2 then [] else [V.str "unknown"]):=fun x y e1 e2 e3 e4=>by
    refine⟨.ref a,rfl,.int (0+i),rfl,a,Je,0+i,.bl x,rfl,rfl,aJ.of ha,e1,x,rfl,?_⟩;cases x with
    |true=>rw[if_pos rfl];exact⟨.ref b,rfl,.int (0+i),rfl,b,Jd,0+i,y,rfl,rfl,aJ.of hb,e2,6-(i+1),by omega,rfl,rfl,by omega,e3 rfl⟩
    |false=>rw[if_neg zt];exact⟨6-(i+1),by omega,rfl,rfl,by omega,e4 rfl⟩
   have Vg:i=0\/i=1\/i=2\/i=3\/i=4\/i=5:=by omega
   rcases Vg with rfl|rfl|rfl|rfl|rfl|rfl
   ·exact go false _ rfl rfl (fun z=>by cases z) (fun _=>rfl)
   ·exact go false _ rfl rfl (fun z=>by cases z) (fun _=>rfl)
   ·exact go true _ rfl rfl (fun _=>rfl) (fun z=>by cases z)
   ·exact go false _ rfl rfl (fun z=>by cases z) (fun _=>rfl)
   ·exact go false _ rfl rfl (fun z=>by cases z) (fun _=>rfl)
   ·exact go false _ rfl rfl (fun z=>by cases z) (fun _=>rfl)
theorem KG{ev:Array Value}{dC:Scope}(Z:ZK X.K X.mg C D)(hp:(e,oe)∈X.pn)(hc:oe.cls=.ref C)(hh:X.A.handled=some (.ref e))(hd:oe.data=.fields ev)(h2:ev[2]?=some .none)(hN:X.N=kQ)(hfn:∀x,X.fn x=true)(sc:Cs X.env.scope dC)
  (hi:X.mg "isinstance" = none) (hv:X.mg "ValueError" = none) (U1:X.mg "range" = none) (l1:((p 20).endLine==(p 29).line)=true) (l2:((p 32).endLine==(p 38).line)=true) :
  dB X (oS p dC) (fun D' σ H=>∃w1 w2,σ=[some (.ref e),w1,w2]/\∀H' q,Kp H H'->H q=none->H' q=some (.lst [.str "unknown"])->D'.rt (.ref q) H'):=by
 have nd:X.N.Nodup:=by rw[hN];decide
 have g:∀x∈rH,Gl X x:=fun x hx=>sc.bA x hx;have ve:∀{pos:Pos},PE X (.Name "_law_e" pos) (cZ 0):=eo (by rw[hN];rfl) (.inl sc.e);have vs:∀{pos:Pos},PE X (.Name "_law_some" pos) (cZ 1):=eo (by rw[hN];rfl) (.inr (.inl (sc.v _ (by decide))));have n0:Gl X "isinstance":=g _ (by decide);obtain⟨B1,b1,c1,d1,z1⟩:=Z.ot "Late" (by decide);obtain⟨B2,b2,c2,d2,z2⟩:=Z.ot "Twice" (by decide);obtain⟨B3,b3,c3,d3,z3⟩:=Z.ot "NoStretch" (by decide);obtain⟨B4,b4,c4,d4,z4⟩:=Z.ot "BadLine" (by decide);obtain⟨B5,b5,c5,d5,z5⟩:=Z.ot "BadTree" (by decide);obtain⟨B6,b6,c6,d6,z6⟩:=Z.ot "BadWord" (by decide);obtain⟨B7,b7,c7,d7,z7⟩:=Z.ot "NoPlace" (by decide);have gl:∀{x:Str} {B:Addr} {pos:Pos},x∈rH->X.mg x=some (.ref B)->(x==("__debug__":Str))=false->PE X (.Name x pos) (tC (.ref B)):=fun hx hm hd=>vB (g _ hx) hm rfl hd;have is1:∀{i:Nat} {x:Str} {B:Addr},x∈rH->X.mg x=some (.ref B)->(x==("__debug__":Str))=false->B≠C->B≠D->(∀h:Heap,X.K.In h->ZB h B)->PE X (qb p i x) (u6 (fun xs H Q=>xs=[.ref e,.ref B]/\Q (.bl false) H) (cM (cZ 0) (cM (tC (.ref B)) gC))):=fun hx hm oE n1 n2 zb =>
  dH (rS Z hp hc n1 n2 zb) n0 hi G_ (ay ve (ay (gl hx hm oE) bq))
 have s1:=jN (pos:=p 18) (pos':=p 0) (X:=X) nd (i:=1) (x:="_law_some") (by rw[hN];rfl) (.inr (sc.v _ (by decide)))
  (ly (pos:=p 17) (ay (is1 (i:=1) (x:="Late") (by decide) b1 (by decide) c1 d1 z1) (ay (is1 (i:=5) (x:="Twice") (by decide) b2 (by decide) c2 d2 z2)
   (ay (dH (p:=p 9) (pos:=p 12) (uD hp hc) n0 hi G_ (ay (ve (pos:=p 10)) (ay (gl (pos:=p 11) (by decide) Z.np (by decide)) bq))) (ay (is1 (i:=13) (x:="NoStretch") (by decide) b3 (by decide) c3 d3 z3) bq)))))
  (by rfl) (.inl (hfn _))
 have s2:=lZ (X:=X) (pos:=p 30) (HH (cpos:=p 29) PySem.F.plainAttrs_list PySem.F.slot_list_append PySem.F.type_list_append lC (vs (pos:=p 19)) (ay (dH (p:=p 21) (pos:=p 28) (Ak Z hp hc) n0 hi G_ (ay (ve (pos:=p 22)) (ay (sZ (x1:=0) (pos:=p 27)
   (ay (gl (pos:=p 23) (by decide) b4 (by decide)) (ay (gl (pos:=p 24) (by decide) b5 (by decide)) (ay (gl (pos:=p 25) (by decide) b6 (by decide)) (ay (gl (pos:=p 26) (by decide) b7 (by decide)) bq))))) bq))) bq) (by rfl) (by rfl) l1) (by rfl)
 have s3:=lZ (X:=X) (pos:=p 39) (HH (cpos:=p 38) PySem.F.plainAttrs_list PySem.F.slot_list_append PySem.F.type_list_append lC (vs (pos:=p 31)) (ay (Dm (pos:=p 37) (dH (p:=p 33) (pos:=p 36) (uE Z hp hc) n0 hi G_ (ay (ve (pos:=p 34)) (ay (me (pos:=p 35) (v:=.ty "ValueError") (u:=.type "ValueError") (g _ (by decide)) hv (by first|rfl|decide +kernel) rfl) bq)))) bq) (by rfl) (by rfl) l2) (by rfl)
 have s4:=jN (pos:=p 48) (pos':=p 40) (X:=X) nd (i:=2) (x:="_law_words_here") (by rw[hN];rfl) (.inr (sc.v _ (by decide)))
  (ly (pos:=p 47) (ay (fJ (x:="late") (j:=0) (pos:=p 41)) (ay (fJ (x:="twice") (j:=0) (pos:=p 42)) (ay (fJ (x:="unknown") (j:=0) (pos:=p 43)) (ay (fJ (x:="stretch") (j:=0) (pos:=p 44)) (ay (fJ (x:="other") (j:=0) (pos:=p 45)) (ay (fJ (x:="base") (j:=0) (pos:=p 46)) bq)))))))
  (by rfl) (.inl (hfn _))
 have CS:X.Ok->dX X dC (eu X.env.cells dC.names []) ["_law_k"] ((["_law_k"]:List Str)++blank kQ ["_law_k"]):=fun ok=>qK (S:=⟨X.env.scope,kQ,[],[],[]⟩) hN (fun x k h=>⟨k,h,.inl rfl⟩) ok sc.comp;have qk:∀{x:Str} (Ca:Addr) (s:Shared) (H:Hp) (fp:List Addr),x∈(["_law_some","_law_words_here"]:List Str)->uz (bj X dC (eu X.env.cells dC.names []) Ca ((["_law_k"]:List Str)++blank kQ ["_law_k"]) s H fp).env.scope x:=fun {x} Ca s H fp hx=>by
  have e:=fM (scope:=dC) (env:=X.env) (y:=x);rw[sc.fr x hx]at e;show (relabel dC X.env).names.lookup x=some .local\/(relabel dC X.env).names.lookup x=some .cell\/(relabel dC X.env).names.lookup x=some .free;rw[e];dsimp only[Option.map];split
  ·exact .inr (.inl rfl)
  ·exact .inr (.inr rfl)
 have loc:∀(Ca:Addr) (s:Shared) (H:Hp) (fp:List Addr),uz (bj X dC (eu X.env.cells dC.names []) Ca ((["_law_k"]:List Str)++blank kQ ["_law_k"]) s H fp).env.scope "_law_k":=fun Ca s H fp=>.inl (lookup_relabel_local (by
  have:=sc.comp
  unfold cX at this;simp only[zx,zB,beq_iff_eq]at this;exact(this.1.1.1.1.1.2 "_law_k" (by simp)).1.1))
 have s5:=sW (X:=X) (pos:=p 60) (FX (p1:=p 53) (p2:=p 54) (p3:=p 55) (pos:=p 59) (g:=cN 0) (tg:=.Name "_law_k" (p 52)) (tc:=tB (lj (kh X.K) (cZ 2) (cZ 0))) (te:=lj (kh X.K) (cZ 3) (cZ 0)) hh hp hd h2 CS (fun ok Ca s H fp=>lx (CS ok) rfl Ca s H fp) (g _ (by decide)) U1
  (fun Ca s H fp=>vo (LU (Bj (pos:=p 58) (r:=kh X.K) ml (eo (i:=2) (x:="_law_some") (pos:=p 56) rfl (qk Ca s H fp (by decide))) (eo (i:=0) (x:="_law_k") (pos:=p 57) rfl (loc Ca s H fp)) (ki rfl))))
  (fun Ca s H fp=>Bj (pos:=p 51) (r:=kh X.K) ml (eo (i:=3) (x:="_law_words_here") (pos:=p 49) rfl (qk Ca s H fp (by decide))) (eo (i:=0) (x:="_law_k") (pos:=p 50) rfl (loc Ca s H fp)) (ki rfl)))
 refine dB.imp (cJ s1 (cJ s2 (cJ s3 (cJ s4 (cJ s5 lY))))) fun D' σ H h=>?_;obtain⟨w1,w2,rfl,k⟩:=h;refine⟨_,rfl,rfl,_,rfl,rfl,_,rfl,rfl,_,rfl,rfl,by decide,fun a ha=>?_⟩;refine⟨.ref a,rfl,.inl ⟨rfl,_,aJ.of aT⟩,?_⟩;refine⟨.ref e,rfl,by show 4<=zp;decide,fun q hq=>?_⟩;have Uw:a≠q:=aP aT hq;have K1:Kp H (upd H a (.lst [.bl false,.bl false,.bl true,.bl false])):=(Kp.refl H).new ha;have Nb:=K1.none hq;refine⟨q,_,rfl,aT,?_,?_⟩
 ·intro v hm
  simp only[zg,zE,or_false]at hm;rcases hm with rfl|rfl|rfl|rfl
  ·exact⟨_,rfl,c4,d4,z4⟩
  ·exact⟨_,rfl,c5,d5,z5⟩
  ·exact⟨_,rfl,c6,d6,z6⟩
  ·exact⟨_,rfl,c7,d7,z7⟩
 refine⟨a,_,_,rfl,rfl,by rw[aB Uw];exact aT,by decide,?_⟩;refine⟨.ref a,rfl,.inl ⟨rfl,_,aJ.of aT⟩,?_⟩;refine⟨.ref e,rfl,rfl,true,rfl,?_⟩;refine⟨a,_,_,rfl,rfl,aT,by decide,?_⟩;refine⟨by show 6<=zp;decide,fun b hb=>?_⟩;have Ux:a≠b:=aP aT hb;have K4:=((K1.new (p:=q) (o:=.tup [.ref B4,.ref B5,.ref B6,.ref B7]) Nb).new (p:=a) (o:=.lst [.bl false,.bl false,.bl true,.bl false,.bl false]) ha).new (p:=a) (o:=.lst Je) ha;have Vs:H b=none:=K4.none hb;refine GX (K:=X.K) (a:=a) (b:=b) (v0:=some (.ref e)) (by rw[aB Ux];exact aT) aT fun r hr=>?_;have K5:=K4.new (p:=b) (o:=.lst Jd) Vs;exact k _ r (K5.new (K5.none hr)) (K5.none hr) aT
end
end L3
namespace L3
open PySem PySem.Spec PyProof.Rows L2
structure mQ (K:Q_) (mg:Str->Option Value):Prop where
 hi:mg "isinstance" = none
 hv:mg "ValueError" = none
 hr:mg "range" = none
 fn:∃(fa:Addr) (fd:FuncData) (st:Stmt) (p:Nat->Pos) (dC:Scope),eC K "_law_classes" "_law_classes" st fa fd/\mg "_law_classes" = some (.ref fa)/\Binds K fd ["_law_e"] []/\bZ kQ ["_law_e"] (aj st)/\aN st=oS p dC/\Cs (aj st) dC /\
  ((p 20).endLine==(p 29).line)=true/\((p 32).endLine==(p 38).line)=true
section
variable {P:Program}{w:World}{K:Q_}{mg:Str->Option Value}{base:Heap}{C D e:Addr}{oe:Obj}{ev:Array Value}
theorem NM(Z:ZK K mg C D)(R:mQ K mg):∃(fa:Addr),mg "_law_classes" = some (.ref fa)/\Z1 K (.ref fa)=true/\∀{k:Nat} {A:Around} {outer:List Env} {s:Shared} {H:Hp},bG (k+1) A->lR P w K mg base A outer s H->s.heap.get? e=some oe->oe.cls=.ref C->oe.data=.fields ev->ev[2]?=some .none->H e=none->e ∉ dS outer ->
  codeAny (model P w) (A.mark (some (.ref e))) (.call (.ref fa) ⟨[.ref e],[]⟩) (fun r s'=>match r with
   |.ok (.ret u)=>CE outer P w H s (fun v H'=>∃q,v=.ref q/\H q=none/\Kp H H'/\H' q=some (.lst [.str "unknown"])) u s'
   |_=>False) s:=by
 obtain⟨fa,fd,st,p,dC,F,hm,hb,S,Ef,sc,l1,l2⟩:=R.fn;refine⟨fa,hm,F.kp,fun {k A outer s H} hr e0 he hc hd h2 hH hf=>?_⟩;obtain⟨oc,od,kV,doc,pm,an,cdv,ct,iL,rfl,lk,jV⟩:=F.ex;have KX:K.In s.heap:=e0.mod.qz.keeps fun b o e=>(e0.bs b o e).1;have lim:s.heap.NoLimit:=e0.mod.nolimit.keeps fun b o e=>(e0.bs b o e).1;have hbb:=hb s [.ref e] KX rfl;rw[zJ]at hbb;have BK:∀y∈(["_law_e"]:List Str).zip [Value.ref e],(aj st).names.lookup y.1=some .local\/((aj st).names.lookup y.1=some .cell/\((cellsFrom (s.heap.objs.size+1) (aj st).names []).lookup y.1).isSome=true):=fun ⟨n,v⟩ hy=>by
  rcases S.par n (xm hy).1 with q|q
  ·exact .inl q
  ·exact .inr ⟨q,Y3 _ _ _ (.inl q)⟩
 refine codeAny_call_function (show (A.mark (some (.ref e))).depth<recursionLimit from hr.depth) (KX _ _ lk) rfl S.co S.gen rfl (Y5 KX jV) (hbb _ _ _ _ ?_);refine wpAny_newFunctionEnv_cells S.kind BK fun env he' s1 x=>?_;subst he';refine⟨lim.keeps x.toInCall.keep,codeAny_func ?_⟩;have I:Inv (et jA P w K mg base kQ "_law_classes" (aj st) fa cdv A outer s H E0) [] (start kQ [.ref e]) H s1:=qB S hr.hd e0 rfl (.cons rfl .nil) x;have I':=ny I (x.toInCall.keep e oe he) hH (zA (zn he)) hf (fun v z=>by rw[hd]at z;cases z);have body:=KG (X:=fO (et jA P w K mg base kQ "_law_classes" (aj st) fa cdv A outer s H E0) e oe) (p:=p) Z (.head _) hc rfl hd h2 rfl (fun _=>rfl) sc R.hi R.hv R.hr l1 l2;rw[Ef];refine wpAny_mono (body [] s1 _ H { nx:=fun _ _=>False,rt:=fun v H'=>∃q,v=.ref q/\H q=none/\Kp H H'/\H' q=some (.lst [.str "unknown"]) } I' ⟨none,none,rfl,fun H' q k hq hl=>⟨q,rfl,hq,k,hl⟩⟩) (fun fl s' hs=>?_) fun _ _ z=>z.elim;cases fl with
 |ret u =>
  obtain⟨v,σ',H',J,rv,q⟩:=hs;exact⟨v,H',J.os,J.bare,J.base,J.av,rv,q⟩
 |next=>obtain⟨_,_,_,q⟩:=hs;exact q.elim
 |brk=>obtain⟨_,_,_,q⟩:=hs;exact q.elim
 |cont=>obtain⟨_,_,_,q⟩:=hs;exact q.elim
end
section
variable {X:Cx}{C D e:Addr}{oe:Obj}{ev:Array Value}{k:Nat}
theorem KD{ie:Nat}{p1 p2 p3:Pos}(Z:ZK X.K X.mg C D)(R:mQ X.K X.mg)(hr:bG (k+1) X.A)(hc:oe.cls=.ref C)(hd:oe.data=.fields ev)(h2:ev[2]?=some .none)(cw:X.stack=X.env::X.outer)(D8:X.N[ie]?=some ("_law_e":Str))(he:X.env.scope.names.lookup ("_law_e":Str)=some .local)(hg:X.env.scope.names.lookup ("_law_classes":Str)=some .globalImplicit) :
  PE (fO X e oe) (.Call (.Name "_law_classes" p1) [.Name "_law_e" p2] [] p3) (fun σ H Q=>σ[ie]?=some (some (.ref e))/\∀H' q,Kp H H'->H q=none->H' q=some (.lst [.str "unknown"])->Q (.ref q) H'):=by
 intro pins s σ H Q I ⟨hs,h⟩;obtain⟨fa,hm,hk,run⟩:=NM (P:=X.prog) (w:=X.w) (base:=X.base) (e:=e) (oe:=oe) (ev:=ev) Z R;refine wpAny_Call_Name_kw (iD (X:=fO X e oe) I hg hm ?_);have ha:PA (fO X e oe) [.Name "_law_e" p2] (cM (cZ ie) gC):=ay (eo D8 (.inl he)) bq;refine Z6 (h₀:=X.base) I.ok.mod.qz hk (aF (ha p3 pins s σ H (fun vs H1=>vs=[.ref e]/\H1=H) I ⟨_,hs,rfl,rfl⟩) fun us s1 ⟨vs,H1,I1,r,q⟩=>⟨I1.dR,?_⟩) (by rfl) (by rfl);obtain⟨rfl,rfl⟩:=q;obtain⟨u,rfl,ru⟩:=vals1 r;cases ru;obtain⟨g1,g2,g3,g4,g5⟩:=I1.pin (e,oe) (.head _);have E1:=I1.BQ;have nf:e ∉ dS X.stack:=fun z=>by
  rcases zg.mp (I1.fD e z) with q|q
  ·exact g3 q
  ·exact g4 q
 refine wpAny_call (codeAny_mono (run hr ⟨E1.frames,E1.mod,E1.bs,E1.kR,E1.eL,E1.mJ,E1.av,E1.bare⟩ g1 hc hd h2 g2 nf) fun r s' hq=>?_);cases r with
 |error x=>exact hq.elim
 |ok fl =>
  cases fl with
  |ret u =>
   refine I1.after (Q:=Q) ?_;obtain⟨v,H',a1,a2,a3,a4,a5,q,rfl,b1,b2,b3⟩:=hq;exact⟨_,H',a1,a2,a3,a4,a5,h H' q b2 b1 b3⟩
  |next=>exact hq.elim
  |brk=>exact hq.elim
  |cont=>exact hq.elim
noncomputable def Hk(p:Nat->Pos)(i:Nat)(m x:Str)(as:List Expr):Stmt:=.Try [.Expr (.Call (.Attribute (.Name "_law_house" (p i)) m (p (i+1))) as [] (p (i+2))) (p (i+3))]
 [.ExceptHandler (some (.Name "HouseError" (p (i+4)))) (some "_law_e") [.Assign [.Name x (p (i+5))] (.Call (.Name "_law_classes" (p (i+6))) [.Name "_law_e" (p (i+7))] [] (p (i+8))) (p (i+9))] (p (i+10))] [] [] (p (i+11))
theorem KZ{p:Nat->Pos}{i0 ie ix kk:Nat}{m x:Str}{a:Expr}{as:List Expr}{ra:Addr}{rd:FuncData}{vf:List Str}{hc0:Addr}{z:List L3.D->MH->Option MH}{ta:TA}(Z:ZK X.K X.mg C D)(R:mQ X.K X.mg)(hr:bG (k+1) X.A)(hk:kk<=k+1)(vP:X.N.Nodup)(hfn:∀x,X.fn x=true)(hex:X.ex=[])(cw:X.stack=X.env::X.outer)(Nn:X.env.frame=some X.env.locals)
  (h0:X.N[0]?=some ("_law_house":Str)) (oA:X.env.scope.names.lookup ("_law_house":Str)=some .local) (D8:X.N[ie]?=some ("_law_e":Str)) (hle:X.env.scope.names.lookup ("_law_e":Str)=some .local) (qF:X.N[ix]?=some x) (U9:X.env.scope.names.lookup x=some .local)
  (Vj:X.env.scope.names.lookup ("_law_classes":Str)=some .globalImplicit) (Nm:X.env.scope.names.lookup ("HouseError":Str)=some .globalImplicit)
  (cls:ib X.K hc0) (hm:Meth X.K hc0 m ra) (U2:Binds X.K rd vf []) (hF:cq X.prog X.w X.K X.mg X.base (eR X.prog X.w) kk ra rd vf (mC X.K vf.length z C)) (hlen:∀ds M M',z ds M=some M'->ds.length=vf.length)
  (ha:∀E1,PA (X.dE E1) (a::as) ta) (fN:(a::as).all aU=true) (U6:(a::as).length<29) (kz:((p (i0+1)).endLine==(p (i0+2)).line)=true) :
  PS X (Hk p i0 m x (a::as)) (fun D' σ H=>∃ι M M' ds t vs fs,σ[0]?=some (some (.ref t))/\σ[ie]?=some none/\aK X.K ι M H/\aC X.K ι H ds (.ref t::vs)/\z ds M=some M'/\(∃dx,H t=some (.ins hc0 dx fs))/\fs.lookup m=none/\ta σ H (fun us H1=>us=vs/\H1=H) /\
   ∀H' ι' q e,aK X.K ι' M' H'->Ext X.K ι H ι' H'->(∀j:Nat,ι'[j]?≠some q)->H' q=some (.lst [.str "unknown"])->D'.nx (((σ.set ie (some (.ref e))).set ix (some (.ref q))).set ie none) H'):=by
 intro pins s σ H D' I h;obtain⟨ι,M,M',ds,t,vs,fs,s0,se,S,Rp,ez,⟨dx,ht⟩,hl,UY,kk'⟩:=h;refine wpAny_Try_except ?_;generalize Qi:(fun (e:Value) (s₁:Shared)=>wpAny (model X.prog X.w) X.A (noteFrame e X.env) (fun _ s₂=>wpAny (model X.prog X.w) X.A (setFlight e none) (fun _ s₃=>wpAny (model X.prog X.w) X.A (handleBy e X.env [.ExceptHandler (some (.Name "HouseError" (p (i0+4)))) (some "_law_e") [.Assign [.Name x (p (i0+5))] (.Call (.Name "_law_classes" (p (i0+6))) [.Name "_law_e" (p (i0+7))] [] (p (i0+8))) (p (i0+9))] (p (i0+10))]) (SP X pins D') X.xe s₃) X.xe s₂) X.xe s₁)=E1;have Iw:=I.dE E1;have body:wpAny (model X.prog X.w) X.A (execs [.Expr (.Call (.Attribute (.Name "_law_house" (p i0)) m (p (i0+1))) (a::as) [] (p (i0+2))) (p (i0+3))] X.env) (fun _ _=>False) E1 s:=by
  refine wpAny_execs_cons (aF (Q:=fun _ _=>False) (wpAny_Expr_any ?_ I.quiet (by rfl)) fun _ _ z=>z.elim);have he:PE (X.dE E1) (.Name "_law_house" (p i0)) (cZ 0):=eo h0 (.inl oA);refine Y2 (aF (he pins s σ H (fun v H1=>v=.ref t/\H1=H) Iw ⟨_,s0,rfl,rfl⟩) fun u s1 ⟨x',H1,I1,rx,q⟩=>?_) (mh rfl fN U6 kz);obtain⟨rfl,rfl⟩:=q;obtain rfl:u=Value.ref t:=rx;refine kD (X:=X.dE E1) I1 ht cls hm hl ?_;have hpl':=fN;rw[zK,zx]at hpl';refine Z6 (first:=[.ref t]) (h₀:=X.base) I.ok.mod.qz hm.kp (aF (ha E1 _ pins s1 σ H1 _ I1 UY) fun us s2 ⟨ws,H2,I2,r,q⟩=>⟨I2.dR,?_⟩) (aw hpl'.1) (bD hpl'.2)
  obtain⟨rfl,rfl⟩:=q;replace I2:Inv X pins σ H2 s2:=I2.dk;have r2:Vals (V.ref t::ws) (Value.ref t::us):=.cons rfl r;have hn:(V.ref t::ws).length=vf.length:=by rw[<- Rp.length];exact hlen _ _ _ ez
  have hl':((Value.ref t::us)++[]).length=vf.length:=by rw[zJ,<- r2.length];exact hn
  refine wpAny_call (codeAny_mono (hF.run X.A X.stack s2 H2 ⟨Value.ref t::us,[]⟩ (Value.ref t::us) (V.ref t::ws) (fun _ _=>False) (fun cls _ H'=>cls=.ref C/\∃ι',aK X.K ι' M' H'/\Ext X.K ι H2 ι' H') (hr.mono hk) I2.BQ (by have:=U2 s2 (Value.ref t::us) I2.dR hl';rwa [zJ]at this) r2
   ⟨hn,ι,M,M',ds,S,Rp,ez,fun H' ι' S' X'=>⟨rfl,ι',S',X'⟩⟩) fun r s' hq=>?_)
  cases r with
  |ok fl =>
   cases fl with
   |ret u=>obtain⟨_,_,_,_,_,_,_,q⟩:=hq;exact q
   |next=>exact False.elim hq
   |brk=>exact False.elim hq
   |cont=>exact False.elim hq
  |error xx =>
   obtain⟨e,T,C',H',rfl,os,bare,un,av,NB,e0,T0,eH,TH,ec,ι',S',X'⟩:=hq;cases ec;subst Qi;show wpAny (model X.prog X.w) X.A (noteFrame (.ref e) X.env) _ _ s';have I3:Inv X pins σ H' s':=I2.call' (ch:=[]) os un av bare (fun b z=>absurd z (by simp));have new:∀{H₁:Hp} {s₁:Shared} (J:Inv X pins σ H₁ s₁) b,s₁.heap.get? b=none->X.s₀.heap.get? b=none/\b≠X.env.locals/\(∀x c,X.env.cells.lookup x=some c->c≠b)/\(∀q∈X.pn++pins,q.1≠b)/\b ∉ X.fs:=fun {H₁ s₁} J b hb=>by
    have h0:X.s₀.heap.get? b=none:=by
     cases q:X.s₀.heap.get? b with
     |none=>rfl
     |some o =>
      obtain⟨o',e'⟩:=J.base.there b o q (by rw[hex];exact fun z=>nomatch z);rw[hb]at e';cases e'
    refine⟨h0,?_,?_,?_,?_⟩
    ·rintro rfl
     obtain⟨m,⟨o,_,_,ho,_⟩,_⟩:=J.loc;rw[hb]at ho;cases ho
    ·rintro x c hx rfl
     obtain⟨v,o,ho,_⟩:=J.cell x c hx;rw[hb]at ho;cases ho
    ·rintro q hq rfl
     rw[(J.pin q hq).1]at hb;cases hb
    ·intro z
     obtain⟨_,o,ho,_⟩:=J.ok.eL.mem z;rw[h0]at ho;cases ho
   have fr:X.A.frames=some (X.env::X.outer):=cw▸I3.ok.frames;have fl:s'.heap.FunFrames X.base (X.env::X.outer):=cw▸I3.stack;refine tL (base:=X.base) fr fl Nn NB fun h3 T' BO hT' Mx=>?_;have Ek:s'.heap.get? T'=none:=yi hT';have n1:=new I2 e e0;have n2:=new I2 T T0;have I4:=i7 (t':=s'.toks) (ch:=[e,T]) I3 (fun b hb=>by
    simp only[zg,zE,or_false]at hb;rcases hb with rfl|rfl
    ·exact⟨n1.1,n1.2.1,n1.2.2.1,n1.2.2.2.1,eH⟩
    ·exact⟨n2.1,n2.2.1,n2.2.2.1,n2.2.2.2.1,TH⟩) (cw▸Mx)
   have n3:=new I3 T' Ek;have Nt:H' T'=none:=by
    cases q:H' T' with
    |none=>rfl
    |some u =>
     obtain⟨o,ho⟩:=lA (I3.av T' u q);rw[Ek]at ho;cases ho
   refine wpAny_handleBy_cons (codeAny_handlers_test ?_) (by intro q;cases q);obtain⟨oe,vs',oT,ts,he',fP,hd,h1,h2,lJ,hT,oF,h3'⟩:=id BO;have nc:∀v,oe.data≠.cell v:=fun v q=>by rw[hd]at q;cases q
   have I5:Inv (fO X e oe) pins σ H' { s' with heap:=h3 }:=ny I4 he' eH n1.2.1 n1.2.2.2.2 nc;refine iD (X:=fO X e oe) I5 Nm Z.he ?_;refine Jq ⟨oe,he',fP⟩ (Z.zh _ I4.dR) ?_;rw[if_pos rfl];refine codeAny_handlers_suite_as (lands BO fun h4 Rw keep=>?_);have T4:∃o,h4.get? T'=some o:=let ⟨_,_,oT,_,_,_,_,_,_,_,q,_⟩:=Rw;⟨oT,q⟩;have Vl:h4.get? e=some oe:=keep e oe (Ne.symm lJ) he';have I6:=i7 (h':=h4) (t':=s'.toks) (ch:=[T']) I4 (fun b hb=>by
    simp only[zg,zE,or_false]at hb;subst hb;exact⟨n3.1,n3.2.1,n3.2.2.1,n3.2.2.2.1,Nt⟩) ⟨fun b o _ hb q=>keep b o (by simpa using hb) q,fun b o hb q=>⟨o.slots,keep b o (by simpa using hb) q⟩,fun b o q=>by
     by_cases hb:b=T'
     ·subst hb;exact T4
     ·exact⟨o,keep b o hb q⟩⟩
   have I7:Inv (fO X e oe) pins σ H' { s' with heap:=h4 }:=ny I6 Vl eH n1.2.1 n1.2.2.2.2 nc;refine mT (X:=fO X e oe) (v:=.ref e) (i:=ie) (x:="_law_e") I7 vP D8 (.inl hle) rfl (fun s5 I8=>?_) (.inr hle);have bU:ie<σ.length:=(zv.mp se).1;have su:=cJ (X:=fO X e oe) (jN (pos:=p (i0+9)) (pos':=p (i0+5)) vP qF (.inl U9) (KD (p1:=p (i0+6)) (p2:=p (i0+7)) (p3:=p (i0+8)) (k:=k) Z R hr fP hd h2 cw D8 hle Vj) (by rfl) (.inl (hfn x))) lY pins s5 (σ.set ie (some (.ref e))) H'
    { nx:=fun σ6 H6=>∃q,σ6=(σ.set ie (some (.ref e))).set ix (some (.ref q))/\Kp H' H6/\H' q=none/\H6 q=some (.lst [.str "unknown"]),rt:=fun _ _=>False } I8 ⟨by rw[zP bU],fun H'' q kp hq hl=>⟨q,rfl,kp,hq,hl⟩⟩
   refine wpAny_mono su (fun f s6 q=>?_) fun _ _ z=>False.elim z;cases f with
   |next =>
    obtain⟨σ6,H6,I9,qq,rfl,kp,Nb,Va⟩:=q;obtain⟨S6,X6⟩:=kp.sim S';exact name_goes (i:=ie) (x:="_law_e") (BF I.ok I9) vP D8 hle fun s7 NZ=>⟨_,H6,NZ,kk' H6 ι' qq e S6 (X'.trans X6) (fun j z=>by obtain⟨u,hu,_⟩:=S'.tracked z;rw[Nb]at hu;cases hu) Va⟩
   |ret u=>obtain⟨_,_,_,_,_,q⟩:=q;exact q.elim
   |brk=>obtain⟨_,_,_,q⟩:=q;exact q.elim
   |cont=>obtain⟨_,_,_,q⟩:=q;exact q.elim
 exact wpAny_mono body (fun _ _ z=>z.elim) fun _ _ z=>by subst Qi;exact z
end
noncomputable def Oj:List Str:=["_law_classes","HouseError"]
noncomputable def eW:List Str:=["_law_house","_law_name","_law_turn"]
noncomputable def kX:List Str:=["_law_house","_law_name","_law_turn","_law_words_here","_law_e"]
noncomputable def jI(p:Nat->Pos):List Stmt:=[.Assign [.Name "_law_words_here" (p 0)] (.List [] (p 1)) (p 2),Hk p 3 "on_duty" "_law_words_here" [.Name "_law_name" (p 15),.Name "_law_turn" (p 16)],
 .Return (some (.Compare (.Name "_law_words_here" (p 17)) [.Eq] [.List [.Constant (.str "unknown") 0 (p 18)] (p 19)] (p 20))) (p 21)]
noncomputable def jF(p:Nat->Pos):Prop:=((p 4).endLine==(p 5).line)=true
structure qe (sc:Scope):Prop where
 loc:∀x∈kX,sc.names.lookup x=some .local
 bA:∀x∈Oj,sc.names.lookup x=some .globalImplicit
theorem J8{C t:Nat}{m:Str}{M:MH}(h:HM (hY C m (.ob t) M)=true):∃fs,M[t]?=some (.ins C fs)/\fs.lookup m=none:=by
 cases e:hY C m (.ob t) M with
 |none=>rw[e]at h;cases h
 |some r =>
  obtain⟨o,M'⟩:=r;cases o with
  |ok u=>exact(tR e).2
  |ex c ds=>rw[e]at h;cases h
theorem Mq{C:Nat}{m:Str}{M:MH}{d:D}(h:HM (hY C m d M)=true):∃t,d=.ob t:=by
 cases d <;> first|exact⟨_,rfl⟩|cases h
section
variable {X:Cx}{Cu D hc0:Addr}{k kk:Nat}{p:Nat->Pos}{rz:Str->List L3.D->MH->Option MH}
noncomputable def RL(X:Cx)(hc0 Cu:Addr)(rz:Str->List L3.D->MH->Option MH)(kk:Nat)(m:Str):Prop:=∃(fa:Addr) (fd:FuncData) (ps:List Str),Meth X.K hc0 m fa/\Binds X.K fd ps []/\cq X.prog X.w X.K X.mg X.base (eR X.prog X.w) kk fa fd ps (mC X.K ps.length (rz (aA m)) Cu)/\∀ds M M',rz (aA m) ds M=some M'->ds.length=ps.length
theorem JA(Z:ZK X.K X.mg Cu D)(R:mQ X.K X.mg)(hr:bG (k+1) X.A)(hk:kk<=k+1)(hN:X.N=kX)(hfn:∀x,X.fn x=true)(hex:X.ex=[])(cw:X.stack=X.env::X.outer)(Nn:X.env.frame=some X.env.locals)(sc:qe X.env.scope)(cls:ib X.K hc0)(ln:jF p)(hu:X.A.units+100<cLine)
  (hD:RL X hc0 Cu rz kk "on_duty")
  : dB X (jI p) (fun D' σ H=>∃ι M M' ds vs,σ=vs.map some++zN (kX.length-vs.length) none/\vs.length=eW.length/\aK X.K ι M H/\aC X.K ι H ds vs/\nW hc0 rz ds M=some M'/\∀H' ι',aK X.K ι' M' H'->Ext X.K ι H ι' H'->D'.rt (.bl true) H'):=by
 have nd:X.N.Nodup:=by rw[hN];decide
 obtain⟨da,dd,XX,d1,d2,d3,d4⟩:=hD;have nv:∀{i:Nat} {x:Str} {pos:Pos} {E1:Value->Shared->Prop},X.N[i]?=some x->x∈kX->(x==("__debug__":Str))=false->(x==("__classdict__":Str))=false->PE (X.dE E1) (.Name x pos) (cZ i):=fun h1 h2 h3 h4=>eo h1 (.inl (sc.loc _ h2)) h3 h4;have nw:∀{i:Nat} {x:Str} {pos:Pos},X.N[i]?=some x->x∈kX->(x==("__debug__":Str))=false->(x==("__classdict__":Str))=false->PE X (.Name x pos) (cZ i):=fun h1 h2 h3 h4=>eo h1 (.inl (sc.loc _ h2)) h3 h4;have s1:=jN (pos:=p 2) (pos':=p 0) (X:=X) nd (i:=3) (x:="_law_words_here") (by rw[hN];rfl) (.inl (sc.loc _ (by decide))) (ly (pos:=p 1) bq) (by rfl) (.inl (hfn _));have s2:=KZ (X:=X) (p:=p) (i0:=3) (ie:=4) (ix:=3) (x:="_law_words_here") (m:="on_duty") (k:=k) (kk:=kk) (a:=.Name "_law_name" (p 15)) (as:=[.Name "_law_turn" (p 16)]) Z R hr hk nd hfn hex cw Nn (by rw[hN];rfl) (sc.loc _ (by decide)) (by rw[hN];rfl) (sc.loc _ (by decide)) (by rw[hN];rfl) (sc.loc _ (by decide)) (sc.bA _ (by decide)) (sc.bA _ (by decide))
  cls d1 d2 d3 d4 (fun E1=>ay (nv (i:=1) (by rw[hN];rfl) (by decide) (by decide) (by decide)) (ay (nv (i:=2) (by rw[hN];rfl) (by decide) (by decide) (by decide)) bq)) rfl (by show 2<29;decide) ln
 have s5:=sW (X:=X) (pos:=p 21) (vC (pos:=p 20) (F0 hu) (nw (i:=3) (x:="_law_words_here") (pos:=p 17) (by rw[hN];rfl) (by decide) (by decide) (by decide)) (ly (pos:=p 19) (ay (fJ (x:="unknown") (j:=0) (pos:=p 18)) bq)) rfl);refine dB.imp (cJ s1 (cJ s2 (cJ s5 lY))) fun D' σ H h=>?_;obtain⟨ι,M,M',ds,vs,rfl,hl,S,Rp,ez,kq⟩:=h;unfold nW at ez;split at ez
 ·rename_i d0 d1 d2
  cases Rp with
  |cons r0 Rp =>
  cases Rp with
  |cons r1 Rp =>
  cases Rp with
  |cons r2 Rp =>
  cases Rp;rename_i v0 v1 v2;split at ez
  ·rename_i h1
   obtain⟨t0,rfl⟩:=Mq h1;obtain⟨f1,o1,n1⟩:=J8 h1;obtain⟨a0,dx,ws,rfl,_,ha,fr⟩:=jK S r0 o1;refine⟨by show 0<=zp;decide,fun l oA=>?_⟩;have X1:Ext X.K ι H ι (upd H l (.lst [])):=Ext.dn oA;refine⟨ι,M,M',[.ob t0,d1,d2],a0,[v1,v2],ws,rfl,rfl,S.dn oA,.cons (r0.mono X1) (.cons (r1.mono X1) (.cons (r2.mono X1) .nil)),ez,⟨dx,by rw[aB (aP ha oA)];exact ha⟩,fr.none n1,⟨v1,rfl,v2,rfl,rfl,rfl⟩,fun H' ι' q e S' X' hn hq=>?_⟩;refine⟨.ref q,rfl,by show 1<=zp;decide,fun c hc=>?_⟩;have Xc:=Ext.dn (K:=X.K) (ι:=ι') (ho:=.lst [.str "unknown"]) hc;refine⟨q,c,_,rfl,rfl,aJ.of (by rw[aB (aP hq hc)];exact hq),aJ.of aT,?_⟩;exact kq _ ι' (S'.dn hc) ((X1.trans X').trans Xc)
  ·cases ez
 ·cases ez
end
section
variable {P:Program}{w:World}{K:Q_}{mg:Str->Option Value}{base:Heap}{Cu D hc0 fa:Addr}{fd:FuncData}{p:Nat->Pos}{k:Nat}{rz:Str->List L3.D->MH->Option MH}{st:Stmt}
theorem Il{A:Around}{k:Nat}(hr:bG k A):A.units+100<cLine:=by have:=hr.un;omega
theorem Am(F:eC K "_law_unknown" "_law_unknown" st fa fd)(hS:bZ kX eW (aj st))(hb:aN st=jI p)(sc:qe (aj st))(ln:jF p)(Z:ZK K mg Cu D)(R:mQ K mg)(cls:ib K hc0)
  (hD:∃(fa:Addr) (fd:FuncData) (ps:List Str),Meth K hc0 "on_duty" fa/\Binds K fd ps []/\cq P w K mg base (eR P w) k fa fd ps (mC K ps.length (rz (aA "on_duty")) Cu)/\∀ds M M',rz (aA "on_duty") ds M=some M'->ds.length=ps.length)
  : cq P w K mg base jA (k+2) fa fd eW (eY K eW.length (fun ds M=>match nW hc0 rz ds M with
   |some M'=>some (.ok (.bl true),M')
   |none=>none)):=by
 refine F.ok (k:=k+1) hS (fun vs H Q E h=>h.1) (fun cdv A outer s H vs Q E hr h=>?_);obtain⟨hl,ι,M,M',ds,d,S,Rp,ez,kk⟩:=h;dsimp only at ez;split at ez
 ·rename_i M1 VF
  cases ez;rw[hb];exact⟨_,JA (X:=(et jA P w K mg base kX "_law_unknown" (aj st) fa cdv A outer s H E).d9) (k:=k) (kk:=k) Z R hr (yh _) rfl (fun _=>rfl) rfl rfl rfl sc cls ln (Il hr) hD
   ,ι,M,_,ds,vs,rfl,hl,S,Rp,VF,fun H' ι' S' X'=>kk _ H' ι' (.bl true) S' X'⟩
 ·cases ez
end
end L3
namespace L3
open PySem PySem.Spec PyProof.Rows L2
noncomputable def stillOk(h:Heap)(name:Str):Bool:=match h.clsAt mainGlobals name with
 |some (_,_,cd)=>eF.all fun n=>(h.nsMap cd.ns n).isNone
 |none=>false
noncomputable def vE(h:Heap)(x:Str):Bool:=match h.clsAt mainGlobals x with
 |some (B,o,_)=>decide (o.cls=.type "type")&&!decide (h.nsMap mainGlobals "Unknown" = some (.ref B))&&!decide (h.nsMap mainGlobals "HouseError" = some (.ref B))
 |none=>false
noncomputable def Fb(s:Shared):Bool:=s.heap.ownExcOk "Unknown" ["HouseError"] gA "ValueError.__new__"&&s.heap.ownExcOk "HouseError" [] gA "ValueError.__new__"&&stillOk s.heap "Unknown"&&stillOk s.heap "HouseError"&&pq.all (vE s.heap)
noncomputable def y4(_:World)(h:Heap):Prop:=∃C D,h.nsMap mainGlobals "Unknown" = some (.ref C)/\h.nsMap mainGlobals "HouseError" = some (.ref D)/\ZH h C D/\∀x∈pq,∃B,h.nsMap mainGlobals x=some (.ref B)/\B≠C/\B≠D/\ZB h B
theorem Hg{h:Heap}{name:Str}{chain:List Str}(x:h.ownExcOk name chain gA "ValueError.__new__" = true)(y:stillOk h name=true):∃C,h.nsMap mainGlobals name=some (.ref C)/\ZC h C ((chain.map fun n=>(h.nsMap mainGlobals n).getD .none)++gA):=by
 obtain⟨C,N,nm,q,bs,hdct,sn,sub,ab,col,dd,k0,k1,k2,k3,k5,hb,hC,hN,_⟩:=Heap.ownExc_of_ok x;refine⟨C,hb,N,nm,q,bs,hdct,sn,sub,ab,col,dd,k0,k1,k2,k3,k5,_,hC,hN,fun n hn=>?_⟩;unfold stillOk at y;cases hf:h.clsAt mainGlobals name with
 |none=>rw[hf]at y;cases y
 |some z =>
  obtain⟨C',o',cd'⟩:=z;rw[hf]at y;obtain⟨hn',ho',hd'⟩:=xV hf;rw[hb]at hn';obtain rfl:C=C':=by injection hn' with q1;injection q1
  rw[hC]at ho';obtain rfl:=Option.some.inj ho';obtain rfl:_=cd':=by injection hd'
  exact ya.mp (zB.mp y n hn)
theorem QF(w:World)(s:Shared)(x:Fb s=true):y4 w s.heap:=by
 unfold Fb at x;simp only[zx]at x;obtain⟨⟨⟨⟨x1,x2⟩,x3⟩,x4⟩,x5⟩:=x;obtain⟨C,c1,c2⟩:=Hg x1 x3;obtain⟨D,d1,d2⟩:=Hg x2 x4;refine⟨C,D,c1,d1,⟨?_,d2⟩,fun x hx=>?_⟩
 ·rw[zH,xf,d1]at c2
  exact c2
 ·have y:=zB.mp x5 x hx
  unfold vE at y;cases hf:s.heap.clsAt mainGlobals x with
  |none=>rw[hf]at y;cases y
  |some z =>
   obtain⟨B,o,cd⟩:=z;rw[hf]at y;obtain⟨h1,h2,h3⟩:=xV hf;simp only[zx,decide_eq_true_eq,yf,decide_eq_false_iff_not]at y;obtain⟨⟨y1,y2⟩,y3⟩:=y;exact⟨B,h1,fun q=>y2 (q▸c1),fun q=>y3 (q▸d1),o,cd,h2,y1,h3⟩
theorem gJ{h h':Heap}{a:Addr}{x:Str}{v:Value}(k:∀b o,h.get? b=some o->h'.get? b=some o)(e:h.nsMap a x=some v):h'.nsMap a x=some v:=by
 unfold Heap.nsMap at e ⊢;split at e
 ·rename_i o ho
  rw[k _ _ ho];exact e
 ·cases e
theorem Jr(w:World)(h h':Heap)(z:y4 w h)(k:∀b o,h.get? b=some o->h'.get? b=some o):y4 w h':=by
 obtain⟨C,D,c,d,zh,ot⟩:=z;refine⟨C,D,gJ k c,gJ k d,zh.keeps k,fun x hx=>?_⟩;obtain⟨B,b1,b2,b3,o,cd,b4,b5⟩:=ot x hx;exact⟨B,gJ k b1,b2,b3,o,cd,k _ _ b4,b5⟩
noncomputable def Nu:List Str:=(["__getattribute__","__getattr__","__setattr__"]:List Str)++kC
noncomputable def Gp(ms:List Str)(h:Heap):Bool:=match h.clsAt mainGlobals "House" with
 |some (C,o,cd)=>decide (o.cls=.type "type")&&decide (cd.mro=[.ref C,.type "object"])&&!cd.abstract&&!cd.hasDel&&cd.hasDict&&decide ((o.slots.toList[4]?).join=some (.builtin "object.__new__"))&&h.isNs cd.ns&&(Nu.all fun n=>(h.nsMap cd.ns n).isNone) &&
  ms.all fun m=>match h.fnAt cd.ns m with
   |some (_,o,_)=>decide (o.cls=.type "function")
   |none=>false
 |none=>false
noncomputable def Gn(cg:List (Str×Stmt))(h:Heap):List (Option FnShape):=match h.clsAt mainGlobals "House" with
 |some (_,_,cd)=>cg.map fun p=>h.shapeAt cd.ns p.1
 |none=>[]
noncomputable def Az(p:Str×Stmt):Option FnShape:=some ⟨p.1,aA p.1,bx p.2,.stmts (aN p.2),aj p.2,mainGlobals,[],.none,.none,none,.none,builtinsNs,true⟩
noncomputable def qh(cg:List (Str×Stmt))(h:Heap):Prop:=∃C od cd sl mN,h.nsMap mainGlobals "House" = some (.ref C)/\h.get? C=some ⟨.type "type",od,.cls cd,sl⟩/\cd.mro=[.ref C,.type "object"]/\cd.abstract=false/\cd.hasDel=false/\cd.hasDict=true/\(sl.toList[4]?).join=some (.builtin "object.__new__")/\h.Ns cd.ns mN/\(∀x∈Nu,mN x=none) /\
 ∀p∈cg,∃fI od iL doc pm cdv,mN p.1=some (.ref fI)/\h.get? fI=some ⟨.type "function",od,.func (Z0 p.1 (aA p.1) (bx p.2) (aN p.2) (aj p.2) .none .none doc pm none cdv .none),iL⟩/\h.CodeRec cdv (aA p.1)
theorem OT{cg:List (Str×Stmt)}{h:Heap}(x:Gp (cg.map (·.1)) h=true)(y:Gn cg h=cg.map Az):qh cg h:=by
 unfold Gp at x;unfold Gn at y;cases hf:h.clsAt mainGlobals "House" with
 |none=>rw[hf]at x;cases x
 |some z =>
  obtain⟨C,o,cd⟩:=z;rw[hf]at x y;obtain⟨hn,ho,hd⟩:=xV hf;obtain⟨oc,dd,dt,sl⟩:=o;simp only[zx,decide_eq_true_eq,yf]at x;obtain⟨⟨⟨⟨⟨⟨⟨⟨h1,h2⟩,h3⟩,h4⟩,h5⟩,h6⟩,h7⟩,h8⟩,h9⟩:=x;obtain rfl:oc=.type "type":=h1;obtain rfl:dt=_:=hd;refine⟨C,dd,cd,sl,_,hn,ho,h2,h3,h4,h5,h6,.of_isNs h7,fun n hn=>ya.mp (zB.mp h8 n hn),fun p hp=>?_⟩;have yp:h.shapeAt cd.ns p.1=Az p:=xG.mp y p hp;have hfn:=zB.mp h9 p.1 (yP.mpr ⟨p,hp,rfl⟩);unfold Heap.shapeAt at yp;cases hg:h.fnAt cd.ns p.1 with
  |none=>rw[hg]at yp;cases yp
  |some z =>
   obtain⟨fI,o',fd⟩:=z;rw[hg]at yp hfn;obtain⟨hn',ho',hd'⟩:=Heap.fnAt_spec hg;obtain⟨n,q',ps,b,sc,g,cl,df,kd,doc,pm,an,code,ct,bi⟩:=fd;unfold Az at yp;simp only[yU,Option.some.injEq,FnShape.mk.injEq]at yp;obtain⟨rfl,rfl,rfl,rfl,rfl,rfl,rfl,rfl,rfl,rfl,rfl,rfl,hc⟩:=yp;obtain⟨oc',od',dt',osl'⟩:=o';cases hd';simp only[decide_eq_true_eq]at hfn;subst hfn;exact⟨fI,od',osl',doc,pm,code,hn',ho',.of_ok hc⟩
theorem Gm{cg:List (Str×Stmt)}{h h':Heap}(z:qh cg h)(k:∀b o,h.get? b=some o->h'.get? b=some o):qh cg h':=by
 obtain⟨C,od,cd,sl,mN,h1,h2,h3,h4,h5,h6,h7,h8,h9,Nx⟩:=z;refine⟨C,od,cd,sl,mN,gJ k h1,k _ _ h2,h3,h4,h5,h6,h7,h8.keeps k,h9,fun p hp=>?_⟩;obtain⟨fI,od',iL,doc,pm,cdv,g1,g2,g3⟩:=Nx p hp;exact⟨fI,od',iL,doc,pm,cdv,g1,k _ _ g2,g3.keeps k⟩
noncomputable def ft(cg:List (Str×Stmt)):PySem.W.Hook:=⟨Bool×List (Option FnShape),fun s=>(Fb s&&Gp (cg.map (·.1)) s.heap,Gn cg s.heap),fun _=>(true,cg.map Az),fun w h=>y4 w h/\qh cg h,
 fun w s e=>by
  obtain⟨e1,e2⟩:=Prod.mk.inj e;rw[zx]at e1;exact⟨QF w s e1.1,OT e1.2 e2⟩,
 fun w h h' x k=>⟨Jr w h h' x.1 k,Gm x.2 k⟩⟩
end L3
namespace L3
open PySem PySem.Spec PyProof.Rows L2
theorem Po{α:Type}{P:List α->Prop}(h:∀a,P [a]):∀us:List α,us.length=1->P us
 |[a],_=>h a
theorem Ui{α:Type}{P:List α->Prop}(h:∀a b,P [a,b]):∀us:List α,us.length=2->P us
 |a::r,z9=>Po (P:=fun r=>P (a::r)) (fun b=>h a b) r (Nat.succ.inj z9)
theorem Uh{α:Type}{P:List α->Prop}(h:∀a b c,P [a,b,c]):∀us:List α,us.length=3->P us
 |a::r,z9=>Ui (P:=fun r=>P (a::r)) (fun b c=>h a b c) r (Nat.succ.inj z9)
structure Ent where
 x:Str
 st:Stmt
 N:List Str
 ps:List Str
 b:aI
noncomputable def tabOf(es:List Ent):List (Str×Fd):=es.map fun e=>(e.x,⟨e.N.length,e.ps.length,e.b⟩)
structure Cq (fns gls bo:List Str) (tab:List (Str×Fd)) (e:Ent):Prop where
 S:bZ e.N e.ps (aj e.st)
 c:dD ⟨aj e.st,e.N,fns,gls,bo⟩ 200 (aN e.st)=some e.b
 t:tab.lookup e.x=some ⟨e.N.length,e.ps.length,e.b⟩
noncomputable def uB(K:Q_)(mg:Str->Option Value)(e:Ent):Prop:=∃(fa:Addr) (fd:FuncData),eC K e.x e.x e.st fa fd/\mg e.x=some (.ref fa)/\Binds K fd e.ps []
noncomputable def nK(K:Q_)(C:Addr)(m:Str)(e:Ent):Prop:=e.x=aA m/\∃(fa:Addr) (fd:FuncData),eC K m (aA m) e.st fa fd/\Meth K C m fa/\Binds K fd e.ps []
noncomputable def N0(K:Q_)(mg:Str->Option Value)(C:Addr)(e:Ent):Prop:=e.x = "House.__init__"/\∃(fa:Addr) (fd:FuncData),eC K "__init__" "House.__init__" e.st fa fd/\Mk K C fa/\mg "House" = some (.ref C)/\Binds K fd e.ps []
noncomputable def V6(K:Q_)(mg:Str->Option Value)(gl:Str->Option D)(x:Str):Prop:=∃d u v,gl x=some d/\mg x=some u/\RelV v u/\∀ι H,Rep K ι H d v
noncomputable def Al:List Str:=["known_rota","on_duty"]
structure Hf (K:Q_) (mg:Str->Option Value) (gl:Str->Option D) (es ms:List Ent) (gls bo:List Str) (C Cu Dd:Addr):Prop where
 ok:∀e∈es++ms,Cq (es.map (·.x)) gls bo (tabOf (es++ms)) e
 df:∀e∈es,uB K mg e
 dm:∀m∈kB,∃e∈ms,nK K C m e
 di:∃e∈ms,N0 K mg C e
 gs:∀x∈gls,V6 K mg gl x
 bs:∀x∈bo,mg x=none
 cls:ib K C
 kl:∀f∈kC,eB K C f
 Z:ZK K mg Cu Dd
 R:mQ K mg
 rf:∃(fa:Addr) (fd:FuncData) (st:Stmt) (p:Nat->Pos),eC K "_law_unknown" "_law_unknown" st fa fd/\mg "_law_unknown" = some (.ref fa)/\Binds K fd eW []/\bZ kX eW (aj st)/\aN st=jI p/\qe (aj st)/\jF p
 zm:∀m∈Al,∃e∈ms,nK K C m e/\fq 200 (aN e.st) e.b=true
section
variable {P:Program}{w:World}{K:Q_}{mg:Str->Option Value}{base:Heap}{es ms:List Ent}{gls bo:List Str}{gl:Str->Option D}{srt:List D->Option (List D)}{n0:Nat}{C Cu Dd:Addr}
noncomputable abbrev CN(es ms:List Ent) (gl:Str->Option D) (srt:List D->Option (List D)) (n0:Nat) (C:Addr) (k:Nat):Ctx:=iY (tabOf (es++ms)) gl srt (n0,C) k
theorem mx(k:Nat):(CN es ms gl srt n0 C k).hc=C:=by cases k <;> rfl
noncomputable def Ad(P:Program)(w:World)(K:Q_)(mg:Str->Option Value)(base:Heap)(g:List D->Mo D)(k:Nat)(fa:Addr)(fd:FuncData)(ps:List Str):Prop:=cq P w K mg base jA (2*k) fa fd ps (eY K ps.length g)/\∀ds M d M',g ds M=some (.ok d,M')->ds.length=ps.length
structure Ct (P:Program) (w:World) (K:Q_) (mg:Str->Option Value) (base:Heap) (es:List Ent) (C Cu:Addr) (Γ:Ctx) (k:Nat):Prop where
 a:∀e∈es,∃(fa:Addr) (fd:FuncData),eC K e.x e.x e.st fa fd/\mg e.x=some (.ref fa)/\Binds K fd e.ps []/\Ad P w K mg base (Γ.fn e.x) k fa fd e.ps
 m:∀m∈kB,∃(fa:Addr) (fd:FuncData) (ps:List Str),Meth K C m fa/\Binds K fd ps []/\Ad P w K mg base (Γ.fn (aA m)) k fa fd ps
 i:∃(fa:Addr) (fd:FuncData) (ps:List Str),Mk K C fa/\mg "House" = some (.ref C)/\Binds K fd ps []/\Ad P w K mg base (Γ.fn "House.__init__") k fa fd ps
 r:∃(fa:Addr) (fd:FuncData),mg "_law_unknown" = some (.ref fa)/\Z1 K (.ref fa)=true/\Binds K fd eW []/\Ad P w K mg base (vk Γ) k fa fd eW
 z:∀m∈Al,NU P w K mg base Γ Cu (2*k) m
variable (A:Hf K mg gl es ms gls bo C Cu Dd)
include A
theorem Jc{k:Nat}(F:Ct P w K mg base es C Cu (CN es ms gl srt n0 C k) k){N ps:List Str}{x:Str}{sc:Scope}(hS:bZ N ps sc){CX:kS}(fa:Addr)(cdv:Value)(Ar:Around)(outer:List Env)(s:Shared)(H:Hp)(E:XK)(hr:bG (2*k+1) (Ar.deeper (envOfC x sc s.heap.objs.size fa cdv))) :
  aL (CN es ms gl srt n0 C k) ⟨sc,N,es.map (·.x),gls,bo⟩ (et CX P w K mg base N x sc fa cdv Ar outer s H E).d9:={
 n:=rfl
 sc:=fun x q hx=>⟨q,hx,.inl rfl⟩
 calm:=rfl
 hu:=Il hr
 d9:=rfl
 fns:=fun x hx=>by
  obtain⟨e',he',rfl⟩:=yP.mp hx;obtain⟨fa',fd',g0,g1,g3,g4,g5⟩:=F.a e' he';exact⟨2*k,fa',fd',e'.ps,g1,g0.kp,g3,g4,hr.mono (yh _),g5⟩
 gls:=fun x hx=>by
  obtain⟨d',u,v,g1,g2,g3,g4⟩:=A.gs x hx;refine⟨d',u,v,?_,g2,g3,g4⟩;cases k <;> exact g1
 bo:=A.bs
 cls:=by rw[mx];exact A.cls
 kl:=by rw[mx];exact A.kl
 lD:=fun m hm=>by
  obtain⟨fa',fd',ps',g1,g3,g4,g5⟩:=F.m m hm;rw[mx];exact⟨2*k,fa',fd',ps',g1,g3,g4,hr.mono (yh _),g5⟩
 HS:=by
  obtain⟨fa',fd',ps',g1,g2,g3,g4,g5⟩:=F.i;rw[mx];exact⟨2*k,fa',fd',ps',g1,g2,g3,g4,hr,g5⟩
 rfs:=by
  obtain⟨fa',fd',g1,g2,g3,g4,g5⟩:=F.r;exact⟨2*k,fa',fd',eW,g1,g2,g3,g4,hr.mono (yh _),g5⟩
 nd:=hS.nd }
omit A in
theorem O1{tab:List (Str×Fd)}{wh:Wh}{k:Nat}{x:Str}{n p:Nat}{b:aI}(ht:tab.lookup x=some ⟨n,p,b⟩):(iY tab gl srt wh (k+1)).fn x=fun xs=>(do need (xs.length=p);mU (iY tab gl srt wh k) n b xs:Mo D):=by
 funext xs;show (match tab.lookup x with
  |some d=>(do need (xs.length=d.p);mU (iY tab gl srt wh k) d.n d.b xs:Mo D)
  |none=>Mo.stop)=_
 rw[ht]
omit A in
theorem Ou{tab:List (Str×Fd)}{wh:Wh}{k:Nat}{x:Str}{n p:Nat}{b:aI}(ht:tab.lookup x=some ⟨n,p,b⟩):(iY tab gl srt wh (k+1)).rz x=fun xs M=>if xs.length=p then dF (iY tab gl srt wh k) b (xs.map some++zN (n-xs.length) none) M else none:=by
 funext xs M;show (match tab.lookup x with
  |some d=>if xs.length=d.p then dF (iY tab gl srt wh k) d.b (xs.map some++zN (d.n-xs.length) none) M else none
  |none=>none)=_
 rw[ht]
theorem qc{k:Nat}(cK:gU (CN es ms gl srt n0 C k))(F:Ct P w K mg base es C Cu (CN es ms gl srt n0 C k) k){e:Ent}(he:e∈es++ms){nm:Str}{fa:Addr}{fd:FuncData}{q:Str}(hf:eC K nm q e.st fa fd):Ad P w K mg base ((CN es ms gl srt n0 C (k+1)).fn e.x) (k+1) fa fd e.ps:=by
 obtain⟨hS,hc,ht⟩:=A.ok e he;have hfn:(CN es ms gl srt n0 C (k+1)).fn e.x=_:=O1 ht;rw[hfn];refine⟨?_,fun ds M d M' h=>?_⟩
 ·refine hf.ok (k:=2*k+1) hS (fun vs H Q E h=>h.1) (fun cdv Ar outer s H vs Q E hr h=>?_)
  obtain⟨hl,ι,M,M',ds,d,S,r,eq,kk⟩:=h;obtain⟨_,M0,e1,eq1⟩:=aa eq;obtain⟨hn,hM⟩:=aG e1;rw[hM]at eq1;obtain⟨f,M1,e2,eq2⟩:=aa eq1;refine⟨_,(nT (sound cK) 200).Ss _ _ _ _ (Jc A F hS fa cdv Ar outer s H E hr) (fun _=>rfl) hc,?_⟩;refine⟨ι,_,_,f,M1,S,qI (N:=e.N) r,e2,fun H' ι' S' X'=>?_⟩;cases f with
  |nx ρ=>obtain⟨rfl,rfl⟩:=af eq2;exact fun σ _=>kk .non H' ι' .non S' X'
  |rt v=>obtain⟨rfl,rfl⟩:=af eq2;exact fun v' r'=>kk v' H' ι' r' S' X'
  |bk ρ=>exact(ah eq2).elim
  |ct ρ=>exact(ah eq2).elim
 ·obtain⟨_,_,e1,_⟩:=aa h
  exact(aG e1).1
theorem FE{k:Nat}(cK:gU (CN es ms gl srt n0 C k))(F:Ct P w K mg base es C Cu (CN es ms gl srt n0 C k) k){e:Ent}(he:e∈es++ms)(hz:fq 200 (aN e.st) e.b=true){nm:Str}{fa:Addr}{fd:FuncData}{q:Str}(hf:eC K nm q e.st fa fd) :
  cq P w K mg base (eR P w) (2*(k+1)) fa fd e.ps (mC K e.ps.length ((CN es ms gl srt n0 C (k+1)).rz e.x) Cu)/\∀ds M M',(CN es ms gl srt n0 C (k+1)).rz e.x ds M=some M'->ds.length=e.ps.length:=by
 obtain⟨hS,hc,ht⟩:=A.ok e he;have Iu:(CN es ms gl srt n0 C (k+1)).rz e.x=_:=Ou ht;rw[Iu];refine⟨C8 (k:=2*k+1) (kk:=2*k) hf hS hc hz A.Z (sound cK) (yh _) (fun cdv Ar outer s H E hr=>Jc A F hS fa cdv Ar outer s H E hr) (F.z _ (by decide))
  ,fun ds M M' h=>?_⟩
 dsimp only at h;split at h
 ·assumption
 ·cases h
omit A in
theorem pQ{fa:Addr}{fd:FuncData}{ps:List Str}:Ad P w K mg base (fun _=>Mo.stop) 0 fa fd ps:=by
 refine⟨⟨fun vs H Q E h=>h.1,fun Ar outer s H args us vs Q E _ _ _ _ h=>?_⟩,fun ds M d M' h=>(ah h).elim⟩;obtain⟨_,_,_,_,_,_,_,_,e,_⟩:=h;exact(ah e).elim
omit A in
theorem Kc{fa:Addr}{fd:FuncData}{ps:List Str}{z:List D->MH->Option MH}(hz:∀ds M,z ds M=none):cq P w K mg base (eR P w) (2*0) fa fd ps (mC K ps.length z Cu)/\∀ds M M',z ds M=some M'->ds.length=ps.length:=by
 refine⟨⟨fun vs H Q E h=>h.1,fun Ar outer s H args us vs Q E _ _ _ _ h=>?_⟩,fun ds M M' h=>(by rw[hz]at h;cases h)⟩;obtain⟨_,_,_,_,_,_,_,e,_⟩:=h;rw[hz]at e;cases e
theorem KQ(cK:∀k,gU (CN es ms gl srt n0 C k))(k:Nat):Ct P w K mg base es C Cu (CN es ms gl srt n0 C k) k:=by
 obtain⟨fr,Qm,str,pr,Fr,mr,br,Sr,Vq,TM,UD⟩:=A.rf;induction k with
 |zero =>
  refine { a:=fun e he=>?_,m:=fun m hm=>?_,i:=?_,r:=?_,z:=fun m hm=>?_ }
  ·obtain⟨fa,fd,F,hm,hb⟩:=A.df e he
   exact⟨fa,fd,F,hm,hb,pQ⟩
  ·obtain⟨e,he,ex,fa,fd,F,hm,hb⟩:=A.dm m hm
   exact⟨fa,fd,e.ps,hm,hb,pQ⟩
  ·obtain⟨e,he,ex,fa,fd,F,hm,hg,hb⟩:=A.di
   exact⟨fa,fd,e.ps,hm,hg,hb,pQ⟩
  ·refine⟨fr,Qm,mr,Fr.kp,br,⟨⟨fun vs H Q E h=>h.1,fun Ar outer s H args us vs Q E _ _ _ _ h=>?_⟩,fun ds M d M' h=>(by cases h)⟩⟩
   obtain⟨_,_,_,_,_,_,_,_,e,_⟩:=h;cases e
  ·obtain⟨e,he,⟨ex,fa,fd,F,hm,hb⟩,_⟩:=A.zm m hm
   obtain⟨h1,h2⟩:=Kc (P:=P) (w:=w) (K:=K) (mg:=mg) (base:=base) (Cu:=Cu) (fa:=fa) (fd:=fd) (ps:=e.ps) (z:=(CN es ms gl srt n0 C 0).rz (aA m)) (fun _ _=>rfl);exact⟨fa,fd,e.ps,hm,hb,h1,h2⟩
 |succ k F =>
  have hs:=cK k;refine { a:=fun e he=>?_,m:=fun m hm=>?_,i:=?_,r:=?_,z:=fun m hm=>?_ }
  ·obtain⟨fa,fd,Fn,hm,hb⟩:=A.df e he
   exact⟨fa,fd,Fn,hm,hb,qc A hs F (zW _ he) Fn⟩
  ·obtain⟨e,he,ex,fa,fd,Fn,hm',hb⟩:=A.dm m hm
   refine⟨fa,fd,e.ps,hm',hb,?_⟩;rw[<- ex];exact qc A hs F (zC _ he) Fn
  ·obtain⟨e,he,ex,fa,fd,Fn,hm',hg,hb⟩:=A.di
   refine⟨fa,fd,e.ps,hm',hg,hb,?_⟩;rw[<- ex];exact qc A hs F (zC _ he) Fn
  ·refine⟨fr,Qm,mr,Fr.kp,br,Am (k:=2*k) (hc0:=C) (rz:=(CN es ms gl srt n0 C k).rz) Fr Sr Vq TM UD A.Z A.R A.cls ?_
    ,fun ds M d M' h=>?_⟩
   ·have:=F.z "on_duty" (by decide)
    unfold NU at this;rw[mx]at this;exact this
   ·replace h:(match nW C (CN es ms gl srt n0 C k).rz ds M with
     |some M'=>(some (.ok (.bl true),M'):Option (Out D×MH))
     |none=>none)=some (.ok d,M'):=h
    cases q:nW C (CN es ms gl srt n0 C k).rz ds M with
    |none=>rw[q]at h;cases h
    |some M1 =>
     unfold nW at q;split at q
     ·rfl
     ·cases q
  ·obtain⟨e,he,⟨ex,fa,fd,Fn,hm',hb⟩,hz⟩:=A.zm m hm
   obtain⟨h1,h2⟩:=FE (P:=P) (w:=w) (base:=base) A hs F (zC _ he) hz Fn;rw[ex]at h1 h2;exact⟨fa,fd,e.ps,by rw[mx];exact hm',hb,h1,h2⟩
end
theorem qC{K:Q_}{ι:List Addr}{H:Hp}:∀ns:List Int,aC K ι H (ns.map D.int) (ns.map V.int)
 |[]=>.nil
 |n::r=>.cons (.int n) (qC r)
theorem O0{K:Q_}{H:Hp}{a:Addr}{xs:List V}(hO:Cp H)(h:aJ K H a xs):Ac K H a xs:=by
 rcases h with (h|h)|h
 ·rcases hO a with z|⟨o,ys,z⟩
  ·rw[z]at h;cases h
  ·rw[z]at h;cases h
 ·exact .inl h
 ·exact .inr h
theorem Lv{K:Q_}{H:Hp}{a:Addr}{ns:List Int}{g:List D->Mo D}{E:XK}(hO:Cp H)(hS:aJ K H a (ns.map V.int))(hg:∃M',g [.fl (ns.map .int)] []=some (.ok (.bl true),M')):eY K 1 g [.ref a] H (fun v _=>v=.bl true) E:=by
 obtain⟨M',e⟩:=hg;refine⟨rfl,[],[],M',_,_,⟨rfl,fun i j a h=>by simp at h,fun i a o h=>by simp at h⟩,.cons (.fl (O0 hO hS) (qC ns)) .nil,e,fun v H' ι' r _ _=>?_⟩;cases r;rfl
end L3
namespace L3
open PySem PySem.Spec PyProof.Rows L2
noncomputable def HP:List D->Option (List D):=fun _=>none
theorem Lr{Γ:Ctx}(h:Γ.srt=HP):gU Γ:=by
 refine⟨?_,?_,trivial,trivial,trivial⟩
 ·trivial
 ·intro S X f a p1 p4 fa C hs hp ha pins s σ H Q I q
  exfalso;obtain⟨ι,ρ,M,d,M',S',R,e,k⟩:=q
  obtain⟨x,M1,e1,ea⟩:=aa e;obtain⟨ds,M2,e2,eb⟩:=aa ea;obtain⟨ys,M3,e3,ec⟩:=aa eb;rw[h]at e3;cases e3
end L3
namespace L3
open PySem PySem.Spec PySem.Calls PyProof.Rows L2
noncomputable def aR(h:Heap):Q_:=(List.range h.objs.size).filterMap fun a=>(h.get? a).map fun o=>(a,o)
theorem jT{h:Heap}{a:Addr}:∀l:List Nat,(l.filterMap fun a=>(h.get? a).map fun o=>(a,o)).lookup a=if a∈l then h.get? a else none
 |[]=>rfl
 |b::l=>by
  rw[ym];by_cases e:a=b
  ·subst e
   rw[if_pos (zR ..)];cases g:h.get? a with
   |none =>
    simp only[wK];rw[jT l,g];split <;> rfl
   |some o=>simp only[yU,List.lookup_cons_self]
  ·have hb:(a==b)=false:=by simpa using e
   have hm:(a∈b::l)=(a∈l):=by simp[e]
   simp only[hm];cases g:h.get? b with
   |none=>simp only[wK];exact jT l
   |some o=>simp only[yU,yr,hb];exact jT l
theorem cA{h:Heap}{a:Addr}{o:Obj}(e:h.get? a=some o):(aR h).lookup a=some o:=by
 unfold aR;rw[jT,if_pos,e];rw[yY];unfold Heap.get? at e;by_cases q:a<h.objs.size
 ·exact q
 ·rw[xw (wB q)]at e
  simp at e
theorem Gy(h:Heap):(aR h).In h:=by
 intro a o e;unfold aR at e;rw[jT]at e;split at e
 ·exact e
 ·cases e
theorem mq{h:Heap}{cd:Value}{x:Str}(c:h.CodeRec cd x):Z7 (aR h) cd x=true:=by
 obtain⟨c,o,vs,t,rfl,e,d,v⟩:=c;have e':=cA e;obtain⟨oc,od,da,sl⟩:=o;cases d;unfold Z7;simp only[e'];rw[<- Array.getElem?_toList]at v;cases q:vs.toList with
 |nil=>rw[q]at v;cases v
 |cons y r =>
  cases r with
  |nil=>rw[q]at v;cases v
  |cons z r =>
   rw[q]at v;cases v;simp
noncomputable def NJ:Stmt->Pos
 |.FunctionDef _ _ _ _ _ _ _ _ _ pos=>pos
 |_=>⟨0,0,0,0⟩
noncomputable def mW(x:Str)(st:Stmt):DefRec:=⟨x,bx st,aN st,aj st,NJ st⟩
section
variable {q:Program}{lo:List Str}{iM:ExcName->Option Value}{mg mb:Str->Option Value}{h:Heap}{bo:List Str}
theorem uB.DC(T:Top q lo iM mg mb h){rs:List DefRec}(hr:recsOf q=rs)(i:Nat){e:Ent}(hm:rs[i]?=some (mW e.x e.st))
  (hb:∀(kV doc pm:Value) (an:Option Addr) (cdv ct:Value) (us:List Value),us.length=e.ps.length->bindArgs (Z0 e.x e.x (bx e.st) (aN e.st) (aj e.st) .none kV doc pm an cdv ct) ⟨us,[]⟩=pure (e.ps.zip us)):uB (aR h) mg e:=by
 obtain⟨a,o,pm,code,doc,h1,h2,h3,h4⟩:=T.fn _ (zF (hr▸hm));obtain⟨oc,od,da,sl⟩:=o;cases h3;have l:=cA h2;have F:eC (aR h) e.x e.x e.st a _:=oM (st:=e.st) (cdv:=code) l (mq h4) (by unfold Z1;simp only[l]);exact⟨a,_,F,h1,F.binds hb⟩
noncomputable def IV(q:Program)(lo bo:List Str):Bool:=bo.all fun x=>!(startupNames.contains x||lo.contains x||((recsOf q).map (·.name)).contains x||((litsOf q).map (·.1)).contains x||((clssOf q lo).map (·.name)).contains x)
theorem mn(T:Top q lo iM mg mb h)(e:IV q lo bo=true):∀x∈bo,mg x=none:=by
 intro x hx
 have:=zB.mp e x hx
 simp only[yf,Bool.or_eq_false_iff,List.contains_eq_mem,decide_eq_false_iff_not]at this;obtain⟨⟨⟨⟨h1,h2⟩,h3⟩,h4⟩,h5⟩:=this;exact T.free x h1 h2 h3 h4 h5
theorem Jm{w:World}(hn:h.Ns mainGlobals mg)(z:y4 w h):∃C D,ZK (aR h) mg C D:=by
 obtain⟨C,D,c,d,zh,ot⟩:=z;have e:=hn.eq_nsMap;have k:∀h':Heap,(aR h).In h'->∀b o,h.get? b=some o->h'.get? b=some o:=fun h' hi b o q=>hi b o (cA q);refine⟨C,D,by rw[e];exact c,by rw[e];exact d,fun h' hi=>zh.keeps (k h' hi),fun x hx=>?_⟩;obtain⟨B,b1,b2,b3,o,cd,b4,b5⟩:=ot x hx;exact⟨B,by rw[e];exact b1,b2,b3,fun h' hi=>⟨o,cd,k h' hi _ _ b4,b5⟩⟩
theorem ON{N:Addr}{mN:Str->Option Value}(hN:h.Ns N mN)(x:Str):Y7 (aR h) N x=some (mN x):=by
 obtain⟨o,es,ep,ho,hd,sk,hf⟩:=hN;obtain⟨oc,od,da,sl⟩:=o;cases hd;unfold Y7;rw[cA ho];dsimp only;have e:=hf x;unfold nsFind findBy at e;rw[<- wu]at e;cases q:es.toList.find? (fun e=>e.key.isStr x) with
 |some en=>rw[q]at e;rw[<- e];rfl
 |none =>
  rw[q]at e;have nr:es.toList.any (·.refKey)=false:=by
   rw[yZ];intro e' he';obtain⟨n,t,hk⟩:=sk e' (Array.mem_def.mpr he');unfold DictEntry.refKey;rw[hk];exact zt
  dsimp only;rw[nr,if_neg zt,<- e];rfl
theorem vX{C:Addr}{oc:Value}{od:Option Addr}{cd:ClassData}{sl:Array (Option Value)}{mN:Str->Option Value}(hC:h.get? C=some ⟨oc,od,.cls cd,sl⟩)(hm:cd.mro=[.ref C,.type "object"])(hN:h.Ns cd.ns mN)(x:Str) :
  Z2 (aR h) (.ref C) x=match mN x with
   |some v=>some (some v)
   |none=>some (fastBuiltinOwn "object" x):=by
 have l:=cA hC;unfold Z2;dsimp only;rw[l];dsimp only;rw[hm];unfold Y8 Y9;dsimp only;rw[l];dsimp only;rw[ON hN];cases mN x with
 |some v=>rfl
 |none =>
  dsimp only;unfold Y8 Y9;dsimp only;cases fastBuiltinOwn "object" x <;> rfl
theorem Km{cg:List (Str×Stmt)}(hn:h.Ns mainGlobals mg)(z:qh cg h):∃C,mg "House" = some (.ref C)/\ib (aR h) C/\(∀f∈kC,eB (aR h) C f)/\(∀p∈cg,∃fa kV doc pm an cdv ct,eC (aR h) p.1 (aA p.1) p.2 fa (Z0 p.1 (aA p.1) (bx p.2) (aN p.2) (aj p.2) .none kV doc pm an cdv ct)/\Meth (aR h) C p.1 fa)/\X9 (aR h) C=true/\Z1 (aR h) (.ref C)=true:=by
 obtain⟨C,od,cd,sl,mN,h1,h2,h3,h4,h5,h6,h7,h8,h9,Nx⟩:=z;have e:=hn.eq_nsMap;have l:=cA h2;have cl:Y_ (aR h) C=some cd:=by unfold Y_;rw[l]
 have IW:∀x∈Nu,∀{r:Option Value},fastBuiltinOwn "object" x=r->Z2 (aR h) (.ref C) x=some r:=fun x hx {r} hr=>by rw[vX h2 h3 h8,h9 x hx,hr]
 have ty:X_ (aR h) (.ref C)=some (.type "type"):=by unfold X_;dsimp only;rw[l];rfl
 have sp:V_ (aR h) (.ref C) "__call__" = some (some (.builtin "type.__call__")):=by
  unfold V_;rw[ty];show Z2 (aR h) (.type "type") "__call__" = _;show fastLookup "type" "__call__" = _;decide +kernel
 refine⟨C,by rw[e];exact h1,⟨?_,?_,?_,IW _ (by decide) (by decide +kernel)⟩,fun f hf=>IW f (zC _ hf) ?_,fun p hp=>?_,?_,?_⟩
 ·unfold Z5
  rw[IW "__getattribute__" (by decide) (r:=some (.builtin "object.__getattribute__")) (by decide +kernel),IW "__getattr__" (by decide) (r:=none) (by decide +kernel)];decide
 ·unfold Z9
  rw[cl];exact h6
 ·unfold Y0
  rw[cl];show PySem.W.onlyObject cd.mro=true;rw[h3];rfl
 ·revert f
  decide +kernel
 ·obtain⟨fI,od',iL,doc,pm,cdv,g1,g2,g3⟩:=Nx p hp
  have lf:=cA g2;have F:eC (aR h) p.1 (aA p.1) p.2 fI _:=oM (st:=p.2) (cdv:=cdv) lf (mq g3) (by unfold Z1;simp only[lf]);refine⟨fI,_,_,_,_,_,_,F,?_,?_,F.kp⟩
  ·rw[vX h2 h3 h8,g1]
  ·unfold Z_ X_
   dsimp only;rw[lf];show (some (Value.type "function")==some (Value.type "function"))=true;decide
 ·unfold X9
  rw[l];dsimp only;have ins:U_ (aR h) (.ref C) (.type "type")=some true:=by
   unfold U_;rw[ty];show PySem.W.subIn (aR h) (.type "type") (.type "type")=_;show (fastBuiltinMro "type").map (·.contains (.type "type"))=some true;decide +kernel
  rw[h4,h5,h7,h3,sp,ins];simp
 ·unfold Z1
  dsimp only;rw[l];dsimp only;rw[sp];decide
theorem nK.DC{K:Q_}{C:Addr}{m:Str}{e:Ent}(hx:e.x=aA m)(z:∃fa kV doc pm an cdv ct,eC K m (aA m) e.st fa (Z0 m (aA m) (bx e.st) (aN e.st) (aj e.st) .none kV doc pm an cdv ct)/\Meth K C m fa)
  (hb:∀(kV doc pm:Value) (an:Option Addr) (cdv ct:Value) (us:List Value),us.length=e.ps.length->bindArgs (Z0 m (aA m) (bx e.st) (aN e.st) (aj e.st) .none kV doc pm an cdv ct) ⟨us,[]⟩=pure (e.ps.zip us)):nK K C m e:=by
 obtain⟨fa,kV,doc,pm,an,cdv,ct,F,hm⟩:=z;exact⟨hx,fa,_,F,hm,F.binds hb⟩
theorem mQ.DC(T:Top q lo iM mg mb h){rs:List DefRec}(hr:recsOf q=rs)(i:Nat){st:Stmt}(hm:rs[i]?=some (mW "_law_classes" st)){p:Nat->Pos}{dC:Scope}
  (hb:∀(kV doc pm:Value) (an:Option Addr) (cdv ct:Value) (us:List Value),us.length=1->bindArgs (Z0 "_law_classes" "_law_classes" (bx st) (aN st) (aj st) .none kV doc pm an cdv ct) ⟨us,[]⟩=pure ((["_law_e"]:List Str).zip us))
  (S:bZ kQ ["_law_e"] (aj st)) (Ef:aN st=oS p dC) (sc:Cs (aj st) dC) (l1:((p 20).endLine==(p 29).line)=true) (l2:((p 32).endLine==(p 38).line)=true) (hi:mg "isinstance" = none) (hv:mg "ValueError" = none) (hg:mg "range" = none):mQ (aR h) mg:=by
 obtain⟨a,o,pm,code,doc,h1,h2,h3,h4⟩:=T.fn _ (zF (hr▸hm));obtain⟨oc,od,da,sl⟩:=o;cases h3;have l:=cA h2;have F:eC (aR h) "_law_classes" "_law_classes" st a _:=oM (st:=st) (cdv:=code) l (mq h4) (by unfold Z1;simp only[l]);exact⟨hi,hv,hg,a,_,st,p,dC,F,h1,F.binds hb,S,Ef,sc,l1,l2⟩
theorem K2(T:Top q lo iM mg mb h){rs:List DefRec}(hr:recsOf q=rs)(i:Nat){st:Stmt}(hm:rs[i]?=some (mW "_law_unknown" st)){p:Nat->Pos}
  (hb:∀(kV doc pm:Value) (an:Option Addr) (cdv ct:Value) (us:List Value),us.length=eW.length->bindArgs (Z0 "_law_unknown" "_law_unknown" (bx st) (aN st) (aj st) .none kV doc pm an cdv ct) ⟨us,[]⟩=pure (eW.zip us))
  (S:bZ kX eW (aj st)) (Ef:aN st=jI p) (sc:qe (aj st)) (ln:jF p) :
  ∃(fa:Addr) (fd:FuncData) (st:Stmt) (p:Nat->Pos),eC (aR h) "_law_unknown" "_law_unknown" st fa fd/\mg "_law_unknown" = some (.ref fa)/\Binds (aR h) fd eW []/\bZ kX eW (aj st)/\aN st=jI p/\qe (aj st)/\jF p:=by
 obtain⟨a,o,pm,code,doc,h1,h2,h3,h4⟩:=T.fn _ (zF (hr▸hm));obtain⟨oc,od,da,sl⟩:=o;cases h3;have l:=cA h2;have F:eC (aR h) "_law_unknown" "_law_unknown" st a _:=oM (st:=st) (cdv:=code) l (mq h4) (by unfold Z1;simp only[l]);exact⟨a,_,st,p,F,h1,F.binds hb,S,Ef,sc,ln⟩
theorem Kk{P:Program}{w:World}{es ms:List Ent}{gls bo:List Str}{gl:Str->Option D}{srt:List D->Option (List D)}{n0:Nat}{C Cu Dd:Addr}(A:Hf (aR h) mg gl es ms gls bo C Cu Dd)(cK:∀k,gU (CN es ms gl srt n0 C k))(k:Nat){e:Ent}(he:e∈es){x:Str}(hx:e.ps=[x])
  (hb1:∀(kV doc pm:Value) (an:Option Addr) (cdv ct u:Value),bindArgs (Z0 e.x e.x (bx e.st) (aN e.st) (aj e.st) .none kV doc pm an cdv ct) ⟨[u],[]⟩=pure [(x,u)]) {fa:Addr} (ID:mg e.x=some (.ref fa)) :
  ∃fd:FuncData,(∀(s:Shared) (u:Value),BindsTo s fd ⟨[u],[]⟩ [(x,u)])/\∀base:Heap,(aR h).In base->base.Ns mainGlobals mg->cq P w (aR h) mg base jA (2*k) fa fd [x] (eY (aR h) 1 ((CN es ms gl srt n0 C k).fn e.x)):=by
 obtain⟨fa',fd,F,hm,_⟩:=A.df e he;rw[ID]at hm;cases hm;refine⟨fd,fun s u=>?_,fun base _ _=>?_⟩
 ·obtain⟨_,_,kV,doc,pm,an,cdv,ct,_,rfl,_⟩:=F.ex
  exact .of_eq (hb1 kV doc pm an cdv ct u)
 ·obtain⟨fa',fd',F',hm',_,g,_⟩:=(KQ (P:=P) (w:=w) (base:=base) A cK k).a e he
  rw[ID]at hm';cases hm';obtain⟨_,_,_,_,_,_,_,_,_,_,l1,_⟩:=F.ex;obtain⟨_,_,_,_,_,_,_,_,_,_,l2,_⟩:=F'.ex;rw[l1]at l2;cases l2;rw[hx]at g;exact g
end
theorem Of{l:PySem.W.OpenLaw}{q:Program}{loose:List Str}{XP:(Str->Option Value)->Heap->Prop}{YP:World->Heap->Prop}{d:DefRec}{x:Str}{k:Nat}(hk:bG k callerA)(hn:l.most=some 63)(Np:d.params.defaults=[])
  (F:∀(w:World) (iM:ExcName->Option Value) (mg mb:Str->Option Value) (fa:Addr) (h:Heap),Top q (PySem.W.looseW q loose) iM mg mb h->YP w h->mg d.name=some (.ref fa) ->
   ∃(g:List D->Mo D) (fd:FuncData),(∀ns:List Int,ns.length<=63->∃M',g [.fl (ns.map .int)] []=some (.ok (.bl true),M'))/\(∀(s:Shared) (u:Value),BindsTo s fd ⟨[u],[]⟩ [(x,u)])/\∀base:Heap,(aR h).In base->base.Ns mainGlobals mg->cq l.prog w (aR h) mg base jA k fa fd [x] (eY (aR h) 1 g)) :
  PySem.W.WalkO q loose XP YP l.row.toRowW d [] (fun f vs=>PySem.call f vs):=by
 refine QE.u0 hn Np fun w s₀ s₁ mg mb fa o pm cd doc a vs ns G Y ho hd jV qD Gq hints hlen hg'=>?_;obtain⟨g,fd,hg,hb,hF⟩:=F w _ mg mb fa _ G.T Y qD;exact Ge (Gy _) G.T.g G.T.b G.T.builtins G.T.nolimit hg' Gq hints (zO hlen (by decide)) hk hF hb (fun H hO hS=>Lv hO hS (hg ns hlen)) fun _ _ _ z=>z
end L3
namespace L3
open PySem PySem.Spec PyProof.Rows L2
theorem DJ:∀{ps:List Str} {us:List Value} (x:Str),x∈ps->us.length=ps.length->((ps.zip us).lookup x).isSome=true
 |p::ps,u::us,x,h,l=>by
  rw[yV,yr];by_cases e:x=p
  ·simp[e]
  ·have:=DJ x ((zg.mp h).resolve_left e) (Nat.succ.inj l)
   simpa [beq_eq_false_iff_ne.mpr e] using this
theorem vW{p:Str}{u:Value}{l:List (Str×Value)}:∀qs:List Str,p ∉ qs->(qs.filterMap fun n=>(((p,u)::l).lookup n).map (n,·))=qs.filterMap fun n=>(l.lookup n).map (n,·)
 |[],_=>rfl
 |q::qs,h=>by
  have h:p≠q/\p ∉ qs:=not_or.mp fun x=>h (zg.mpr x);rw[ym,ym,vW qs h.2,yr,beq_eq_false_iff_ne.mpr (Ne.symm h.1)]
theorem Er:∀(ps:List Str) (us:List Value),ps.Nodup->us.length=ps.length->(ps.filterMap fun n=>((ps.zip us).lookup n).map (n,·))=ps.zip us
 |[],_,_,_=>by simp
 |p::ps,u::us,nd,l=>by
  have nd:=yA.mp nd;rw[yV,List.filterMap_cons_some (b:=(p,u)) (by simp),vW ps nd.1,Er ps us nd.2 (Nat.succ.inj l)]
theorem G0{fd:FuncData}{ps:List Str}(h:fd.params.posonlyargs=[]/\fd.params.args.map Arg.arg=ps/\fd.params.kwonlyargs=[]/\fd.params.vararg=none/\fd.params.kwarg=none)(hd:fd.defaults=.none)(nd:ps.Nodup)(us:List Value)(hl:us.length=ps.length):bindArgs fd ⟨us,[]⟩=pure (ps.zip us):=by
 obtain⟨h1,h2,h3,h4,h5⟩:=h;have e:ps.filter (fun n=>((ps.zip us).lookup n).isNone)=[]:=List.filter_eq_nil_iff.mpr fun x hx=>by
  have:=DJ x hx hl
  revert this;cases (ps.zip us).lookup x <;> simp
 obtain⟨n,q,p,b,sc,g,c,df⟩:=fd;obtain⟨p1,p2,p3,p4,p5⟩:=p;cases h1;cases h3;cases h4;cases h5;cases hd;have h2:p2.map Arg.arg=ps:=h2;have d:¬ (decide (us.length > (p2.map Arg.arg).length)&&true)=true:=by rw[hl,h2];simp
 refine(if_neg d).trans ?_;refine(if_neg ?_).trans ?_
 ·show ¬ (!(List.filter (fun n=>(((p2.map Arg.arg).zip us).lookup n).isNone) ((p2.map Arg.arg).take ((p2.map Arg.arg).length-(List.drop (0-(p2.map Arg.arg).length) ([]:List Value)).length))).isEmpty)=true
  rw[wV,h2,yT,xS,zU,e];exact zt
 ·show (forIn (List.zip (List.drop _ _) (List.drop (0-(p2.map Arg.arg).length) ([]:List Value))) ((p2.map Arg.arg).zip us) _ >>= _)=_
  rw[wV,List.zip_nil_right];show (pure (((p2.map Arg.arg)++[]).filterMap fun n=>(((p2.map Arg.arg).zip us).lookup n).map (n,·)):Sem (List (Str×Value)))=_;rw[zJ,h2,Er _ _ nd hl]
noncomputable def qG(s:Stmt):Str:=match s with
 |.FunctionDef n _ _ _ _ _ _ _ _ _=>n
 |_=>""
noncomputable def EE(p:Str->Str)(s:Stmt)(x:List Str)(b:aI):Ent:=⟨p (qG s),s,(bx s).args.map Arg.arg++x,(bx s).args.map Arg.arg,b⟩
noncomputable def qr(e:Ent):Bool:=(decide ((aj e.st).kind=.function)&&!(aj e.st).isCoroutine&&!(aj e.st).isGenerator)&&(decide e.N.Nodup&&decide (e.N.take e.ps.length=e.ps))&&(e.ps.all (fun x=>decide ((aj e.st).names.lookup x=some .local\/(aj e.st).names.lookup x=some .cell))&&(aj e.st).names.all fun y=>decide (y.2≠.free)) &&
 ((bx e.st).posonlyargs.isEmpty&&decide ((bx e.st).args.map Arg.arg=e.ps)&&(bx e.st).kwonlyargs.isEmpty&&(bx e.st).vararg.isNone&&(bx e.st).kwarg.isNone)
theorem HA{e:Ent}(h:qr e=true):bZ e.N e.ps (aj e.st):=by
 unfold qr at h;simp only[zx,decide_eq_true_eq,yf,zB]at h;obtain⟨⟨⟨⟨⟨a,b⟩,c⟩,d,f⟩,g,i⟩,_⟩:=h;exact⟨a,b,c,d,f,g,i⟩
theorem AB{e:Ent}(h:qr e=true){x q:Str}(kV doc pm:Value)(an:Option Addr)(cdv ct:Value)(us:List Value)(hl:us.length=e.ps.length):bindArgs (Z0 x q (bx e.st) (aN e.st) (aj e.st) .none kV doc pm an cdv ct) ⟨us,[]⟩=pure (e.ps.zip us):=by
 have S:=HA h;unfold qr at h;simp only[zx,decide_eq_true_eq,yc,ya]at h;obtain⟨_,⟨⟨⟨a,b⟩,c⟩,d⟩,f⟩:=h;exact G0 ⟨a,b,c,d,f⟩ rfl (S.pre▸S.nd.sublist (we _ _)) us hl
theorem GP{fns gls bo:List Str}{tab:List (Str×Fd)}{l:List Ent}(hS:l.all qr=true)(hc:l.map (fun e=>dD ⟨aj e.st,e.N,fns,gls,bo⟩ 200 (aN e.st))=l.map fun e=>some e.b)(ht:l.map (fun e=>tab.lookup e.x)=l.map fun e=>some ⟨e.N.length,e.ps.length,e.b⟩):∀e∈l,Cq fns gls bo tab e :=
 fun e he=>⟨HA (zB.mp hS e he),xG.mp hc e he,xG.mp ht e he⟩
section
variable {q:Program}{lo:List Str}{iM:ExcName->Option Value}{mg mb:Str->Option Value}{h:Heap}{es ms:List Ent}{K:Q_}{C:Addr}
theorem GR(T:Top q lo iM mg mb h){rs:List DefRec}(hr:recsOf q=rs)(hS:es.all qr=true)(is:List Nat)(hm:is.map (fun i=>rs[i]?)=es.map fun e=>some (mW e.x e.st)):∀e∈es,uB (aR h) mg e:=fun e he=>by
 have m:some (mW e.x e.st)∈is.map fun i=>rs[i]?:=hm▸yP.mpr ⟨e,he,rfl⟩;obtain⟨i,_,hi⟩:=yP.mp m;exact uB.DC T hr i hi (AB (zB.mp hS e he))
noncomputable abbrev O9(K:Q_) (C:Addr) (cg:List (Str×Stmt)):Prop:=∀p∈cg,∃fa kV doc pm an cdv ct,eC K p.1 (aA p.1) p.2 fa (Z0 p.1 (aA p.1) (bx p.2) (aN p.2) (aj p.2) .none kV doc pm an cdv ct)/\Meth K C p.1 fa
theorem ni(hm:O9 K C (ms.map fun e=>(qG e.st,e.st)))(hS:ms.all qr=true){l:List Str}{f:Ent->Bool}(hl:l.all (fun m=>ms.any fun e=>e.x==aA m&&qG e.st==m&&f e)=true):∀m∈l,∃e∈ms,nK K C m e/\f e=true:=fun m hl'=>by
 obtain⟨e,he,h⟩:=xt.mp (zB.mp hl m hl');simp only[zx,beq_iff_eq]at h;obtain⟨⟨h1,h2⟩,h3⟩:=h;subst h2;exact⟨e,he,nK.DC h1 (hm _ (yP.mpr ⟨e,he,rfl⟩)) (AB (zB.mp hS e he)),h3⟩
end
end L3
namespace L3
open PySem
theorem AR{Γ:Ctx}:∀i ρ,ae Γ (.var i) ρ=(kW ρ i):=fun _ _=>rfl
theorem Oc{Γ:Ctx}:∀i ρ,ae Γ (.cint i) ρ=(pure (.int i)):=fun _ _=>rfl
theorem OE{Γ:Ctx}:∀b ρ,ae Γ (.cbl b) ρ=(pure (.bl b)):=fun _ _=>rfl
theorem Ob{Γ:Ctx}:∀ρ,ae Γ (.cnon) ρ=(pure .non):=fun _=>rfl
theorem Oa{Γ:Ctx}:∀x ρ,ae Γ (.cstr x) ρ=(pure (.str x)):=fun _ _=>rfl
theorem OD{Γ:Ctx}:∀x ρ,ae Γ (.glb x) ρ=(lift (Γ.gl x)):=fun _ _=>rfl
theorem Bb{Γ:Ctx}:∀op a b ρ,ae Γ (.bin op a b) ρ=(do let x<-ae Γ a ρ;let y<-ae Γ b ρ;eK op x y):=fun _ _ _ _=>rfl
theorem A9{Γ:Ctx}:∀op a b ρ,ae Γ (.cmp op a b) ρ=(do let x<-ae Γ a ρ;let y<-ae Γ b ρ;let k<-bS op x y;pure (.bl k)):=fun _ _ _ _=>rfl
theorem uR{Γ:Ctx}:∀op op' a b c ρ,ae Γ (.cmp2 op op' a b c) ρ=(do
  let x<-ae Γ a ρ
  let y<-ae Γ b ρ
  let k<-bS op x y
  if k=true then do let z<-ae Γ c ρ;let k'<-bS op' y z;pure (.bl k') else pure (.bl false)):=fun _ _ _ _ _ _=>rfl
theorem Bc{Γ:Ctx}:∀a b ρ,ae Γ (.and a b) ρ=(do let x<-ae Γ a ρ;let k<-lift (bz x);if k=true then ae Γ b ρ else pure (.bl false)):=fun _ _ _=>rfl
theorem Pm{Γ:Ctx}:∀a b ρ,ae Γ (.or a b) ρ=(do let x<-ae Γ a ρ;let k<-lift (bz x);if k=true then pure (.bl true) else ae Γ b ρ):=fun _ _ _=>rfl
theorem OC{Γ:Ctx}:∀a ρ,ae Γ (.not a) ρ=(do let x<-ae Γ a ρ;let k<-lift (bz x);pure (.bl (!k))):=fun _ _=>rfl
theorem A6{Γ:Ctx}:∀c a b ρ,ae Γ (.ifE c a b) ρ=(do let k<-bg Γ c ρ;if k=true then ae Γ a ρ else ae Γ b ρ):=fun _ _ _ _=>rfl
theorem AS{Γ:Ctx}:∀es ρ,ae Γ (.tup es) ρ=(do let xs<-aS Γ es ρ;need (xs.length<=zp);pure (.tup xs)):=fun _ _=>rfl
theorem A4{Γ:Ctx}:∀es ρ,ae Γ (.lst es) ρ=(do let xs<-aS Γ es ρ;need (xs.length<=zp);bu (.lst xs)):=fun _ _=>rfl
theorem N9{Γ:Ctx}:∀ρ,ae Γ (.dic0) ρ=(bu (.aY [])):=fun _=>rfl
theorem A7{Γ:Ctx}:∀a b ρ,ae Γ (.idx a b) ρ=(do let x<-ae Γ a ρ;let y<-ae Γ b ρ;gM x y):=fun _ _ _=>rfl
theorem AW{Γ:Ctx}:∀a lo hi ρ,ae Γ (.slc a lo hi) ρ=(do let x<-ae Γ a ρ;let l<-gF Γ lo ρ;let h<-gF Γ hi ρ;fF x l h):=fun _ _ _ _=>rfl
theorem uS{Γ:Ctx}:∀f es ρ,ae Γ (.call f es) ρ=(do let xs<-aS Γ es ρ;Γ.fn f xs):=fun _ _ _=>rfl
theorem Ba{Γ:Ctx}:∀b es ρ,ae Γ (.blt b es) ρ=(do let xs<-aS Γ es ρ;eA b xs):=fun _ _ _=>rfl
theorem uQ{Γ:Ctx}:∀j it c e ρ,ae Γ (.comp j it c e) ρ=(do
  let s<-eZ Γ it ρ
  need (s.ds.length<=zp)
  let ys<-dJ s.ck (ir Γ c) (ae Γ e) (ρ.set j none) s.ds
  bu (.lst ys)):=fun _ _ _ _ _=>rfl
theorem LP{Γ:Ctx}:∀a ρ,ae Γ (.sortL a) ρ=(do
  let x<-ae Γ a ρ
  let ds<-km x
  let ys<-lift (Γ.srt ds)
  bu (.lst ys)):=fun _ _=>rfl
theorem uO{Γ:Ctx}:∀a ρ,ae Γ (.intB a) ρ=(do let x<-ae Γ a ρ;let b<-lift (bz x);pure (.int (if b then 1 else 0))):=fun _ _=>rfl
theorem uM{Γ:Ctx}:∀a ρ,ae Γ (.revL a) ρ=(do
  let x<-ae Γ a ρ
  let ds<-km x
  bu (.lst ds.reverse)):=fun _ _=>rfl
theorem AZ{Γ:Ctx}:∀a ρ,ae Γ (.neg a) ρ=(do
  let x<-ae Γ a ρ
  (match x with
  |.int i=>pure (.int (-i))
  |_=>Mo.stop)):=fun _ _=>rfl
theorem A5{Γ:Ctx}:∀a t ρ,ae Γ (.isI a t) ρ=(do let x<-ae Γ a ρ;let k<-c9 t x;pure (.bl k)):=fun _ _ _=>rfl
theorem uN{Γ:Ctx}:∀a t u ρ,ae Γ (.isI2 a t u) ρ=(do let x<-ae Γ a ρ;let k<-c9 t x;let l<-c9 u x;pure (.bl (k||l))):=fun _ _ _ _=>rfl
theorem uP{Γ:Ctx}:∀ks es ρ,ae Γ (.dicS ks es) ρ=(do let o<-bu (.aY []);let xs<-aS Γ es ρ;oP ks o xs):=fun _ _ _=>rfl
theorem sR{Γ:Ctx}:∀i j a b e ρ,ae Γ (.compZ i j a b e) ρ=(do
  let x<-ae Γ a ρ
  let y<-ae Γ b ρ
  let s<-mR x y
  need (s.ds.length<=zp)
  let ys<-dW s.c1 s.c2 (ae Γ e) ((ρ.set i none).set j none) s.ds
  bu (.lst ys)):=fun _ _ _ _ _ _=>rfl
theorem A0{Γ:Ctx}:∀m a es ρ,ae Γ (.mth m a es) ρ=(do let x<-ae Γ a ρ;iK m x;let xs<-aS Γ es ρ;hU m x xs):=fun _ _ _ _=>rfl
theorem N8{Γ:Ctx}:∀ρ,aS Γ (.nil) ρ=(pure []):=fun _=>rfl
theorem sQ{Γ:Ctx}:∀e es ρ,aS Γ (.cons e es) ρ=(do let x<-ae Γ e ρ;let xs<-aS Γ es ρ;pure (x::xs)):=fun _ _ _=>rfl
theorem N7{Γ:Ctx}:∀ρ,gF Γ (.none) ρ=(pure none):=fun _=>rfl
theorem uL{Γ:Ctx}:∀e ρ,gF Γ (.some e) ρ=(do
  let x<-ae Γ e ρ
  (match x with
  |.int i=>pure (some i)
  |_=>Mo.stop)):=fun _ _=>rfl
theorem AN{Γ:Ctx}:∀e ρ,eZ Γ (.seq e) ρ=(do let x<-ae Γ e ρ;eX x):=fun _ _=>rfl
theorem uF{Γ:Ctx}:∀a ρ,eZ Γ (.rng1 a) ρ=(do
  let x<-ae Γ a ρ
  (match x with
  |.int i=>do need (small i);pure ⟨none,ff 0 i⟩
  |_=>Mo.stop)):=fun _ _=>rfl
theorem N1{Γ:Ctx}:∀a b ρ,eZ Γ (.sG a b) ρ=(do
  let x<-ae Γ a ρ
  let y<-ae Γ b ρ
  (match x,y with
  |.int i,.int j=>do need (small i/\small j);pure ⟨none,ff i j⟩
  |_,_=>Mo.stop)):=fun _ _ _=>rfl
theorem Bf{Γ:Ctx}:∀e ρ,bg Γ (.cmp e) ρ=(do let x<-ae Γ e ρ;lift (bz x)):=fun _ _=>rfl
theorem Bd{Γ:Ctx}:∀e ρ,bg Γ (.tru e) ρ=(do let x<-ae Γ e ρ;ka x):=fun _ _=>rfl
theorem Be{Γ:Ctx}:∀c ρ,bg Γ (.not c) ρ=(do let k<-bg Γ c ρ;pure (!k)):=fun _ _=>rfl
theorem Bg{Γ:Ctx}:∀a b ρ,bg Γ (.and a b) ρ=(do let k<-bg Γ a ρ;if k=true then bg Γ b ρ else pure false):=fun _ _ _=>rfl
theorem Dc{Γ:Ctx}:∀a b ρ,bg Γ (.or a b) ρ=(do let k<-bg Γ a ρ;if k=true then pure true else bg Γ b ρ):=fun _ _ _=>rfl
theorem LQ{Γ:Ctx}:∀ρ,ir Γ (.none) ρ=(pure true):=fun _=>rfl
theorem sS{Γ:Ctx}:∀c ρ,ir Γ (.some c) ρ=(bg Γ c ρ):=fun _ _=>rfl
theorem AQ{Γ:Ctx}:∀e ρ,kc Γ (.seq e) ρ=(do let x<-ae Γ e ρ;eX x):=fun _ _=>rfl
theorem N6{Γ:Ctx}:∀e ρ,kc Γ (.enum e) ρ=(do let x<-ae Γ e ρ;rF x):=fun _ _=>rfl
theorem nX{Γ:Ctx}:∀i e ρ,bc Γ (.set i e) ρ=(do let x<-ae Γ e ρ;pure (.nx (ρ.set i (some x)))):=fun _ _ _=>rfl
theorem uG{Γ:Ctx}:∀i j e ρ,bc Γ (.setP i j e) ρ=(do let x<-ae Γ e ρ;let p<-lift (pairD x);pure (.nx ((ρ.set i (some p.1)).set j (some p.2)))):=fun _ _ _ _=>rfl
theorem uK{Γ:Ctx}:∀is e b ρ,bc Γ (.forN is e b) ρ=(do let x<-ae Γ e ρ;let s<-eX x;dg s.ck is (aq Γ b) s.ds ρ):=fun _ _ _ _=>rfl
theorem sP{Γ:Ctx}:∀o i e ρ,bc Γ (.setIx o i e) ρ=(do let v<-ae Γ e ρ;let x<-ae Γ o ρ;let y<-ae Γ i ρ;setIx x y v;pure (.nx ρ)):=fun _ _ _ _=>rfl
theorem mF{Γ:Ctx}:∀e ρ,bc Γ (.expr e) ρ=(do let _<-ae Γ e ρ;pure (.nx ρ)):=fun _ _=>rfl
theorem AO{Γ:Ctx}:∀e ρ,bc Γ (.ret e) ρ=(do let x<-ae Γ e ρ;pure (.rt x)):=fun _ _=>rfl
theorem N3{Γ:Ctx}:∀ρ,bc Γ (.retN) ρ=(pure (.rt .non)):=fun _=>rfl
theorem N4{Γ:Ctx}:∀ρ,bc Γ (.pass) ρ=(pure (.nx ρ)):=fun _=>rfl
theorem OB{Γ:Ctx}:∀ρ,bc Γ (.brk) ρ=(pure (.bk ρ)):=fun _=>rfl
theorem OA{Γ:Ctx}:∀ρ,bc Γ (.cnt) ρ=(pure (.ct ρ)):=fun _=>rfl
theorem N5{Γ:Ctx}:∀ρ,bc Γ (.halt) ρ=(Mo.stop):=fun _=>rfl
theorem nY{Γ:Ctx}:∀c a b ρ,bc Γ (.ifS c a b) ρ=(do let k<-bg Γ c ρ;if k=true then aq Γ a ρ else aq Γ b ρ):=fun _ _ _ _=>rfl
theorem uI{Γ:Ctx}:∀i it b ρ,bc Γ (.forS i it b) ρ=(do let s<-eZ Γ it ρ;dI s.ck i (aq Γ b) s.ds ρ):=fun _ _ _ _=>rfl
theorem uJ{Γ:Ctx}:∀i j it b ρ,bc Γ (.forP i j it b) ρ=(do let s<-kc Γ it ρ;eG s.ck i j (aq Γ b) s.ds ρ):=fun _ _ _ _ _=>rfl
theorem qX{Γ:Ctx}:∀c b ρ,bc Γ (.whileS c b) ρ=(dO (bg Γ c) (aq Γ b) Γ.wh ρ):=fun _ _ _=>rfl
theorem N2{Γ:Ctx}:∀ρ,aq Γ (.nil) ρ=(pure (.nx ρ)):=fun _=>rfl
theorem fG{Γ:Ctx}:∀s r ρ,aq Γ (.cons s r) ρ=(do
  let f<-bc Γ s ρ
  (match f with
  |.nx ρ'=>aq Γ r ρ'
  |.rt v=>pure (.rt v)
  |.bk ρ'=>pure (.bk ρ')
  |.ct ρ'=>pure (.ct ρ'))):=fun _ _ _=>rfl
end L3
namespace L3
open PySem
theorem F5{p:Prop}[Decidable p](h:p)(M:MH):need p M=some (.ok (),M):=by unfold need;rw[if_pos h];rfl
theorem Rc{α:Type}(a:α)(M:MH):lift (some a) M=some (.ok a,M):=rfl
theorem GF{i:Nat}{o:MO}{M:MH}(h:M[i]?=some o):getM i M=some (.ok o,M):=by unfold getM;rw[h]
theorem GG{i:Nat}{ds:List D}{M:MH}(h:M[i]?=some (.lst ds)):getL i M=some (.ok ds,M):=by unfold getL;rw[h]
theorem GH{i:Nat}{ds:List (Ky×D)}{M:MH}(h:M[i]?=some (.aY ds)):getD i M=some (.ok ds,M):=by unfold getD;rw[h]
theorem F3(o:MO)(M:MH):bu o M=some (.ok (.ob M.length),M++[o]):=rfl
theorem FH{i:Nat}{o:MO}{M:MH}(h:i<M.length):du i o M=some (.ok (),M.set i o):=by unfold du;rw[if_pos h]
theorem bY{α:Type}{xs:List α}{j:Nat}{v:α}(h:xs[j]?=some v):dA xs (j:Int)=some v:=by
 have hj:j<xs.length:=(zv.mp h).1;unfold dA ow;rw[if_pos (by first|lia|omega),if_pos (by first|lia|omega)]
 simpa using h
theorem ao(M:MH)(o:MO):(M++[o])[M.length]?=some o:=by simp
structure Gr (M M':MH):Prop where
 keep:∀(i:Nat) (o:MO),M[i]?=some o->M'[i]?=some o
 len:M.length<=M'.length
theorem Gr.refl{M:MH}:Gr M M:=⟨fun _ _ h=>h,zr _⟩
theorem Gr.trans{M M1 M2:MH}(a:Gr M M1)(b:Gr M1 M2):Gr M M2:=⟨fun i o e=>b.keep i o (a.keep i o e),zO a.len b.len⟩
theorem Gr.app(M X:MH):Gr M (M++X):=⟨fun i o e=>by rw[zD (zv.mp e).1];exact e,by rw[zf];omega⟩
theorem Gr.snoc{M M1:MH}(g:Gr M M1)(o:MO):Gr M (M1++[o]):=g.trans (Gr.app _ _)
theorem dq{M:MH}{j:Nat}{o q:MO}(h:M[j]?=some q):(M.set j o)[j]?=some o:=zP (zv.mp h).1
theorem aQ{α:Type}{M:List α}{j:Nat}{q:α}(h:M[j]?=some q):j<M.length:=(zv.mp h).1
theorem iw(bs:List Bool):(bs.map D.bl).mapM bz=some bs:=by
 induction bs with
 |nil=>rfl
 |cons b r ih=>rw[zH,xC,ih];rfl
theorem DG(bs:List Str):(bs.map D.str).mapM sm=some bs:=by
 induction bs with
 |nil=>rfl
 |cons b r ih=>rw[zH,xC,ih];rfl
theorem NC{Γ:Ctx}{ρ:Ev}{M:MH}{d:D}{i:Nat}(h:ρ[i]?=some (some d)):ae Γ (.var i) ρ M=some (.ok d,M):=by
 show kW ρ i M=_;unfold kW;rw[h];rfl
theorem iC{lo hi:Int}:(ff lo hi).length=(hi-lo).toNat:=by unfold ff;rw[zu,yL]
theorem vg{lo hi:Int}{j:Nat}{d:D}(h:(ff lo hi)[j]?=some d):d=.int (lo+j)/\j<(hi-lo).toNat:=by
 unfold ff at h;rw[ze]at h;cases q:(List.range (hi-lo).toNat)[j]? with
 |none=>rw[q]at h;cases h
 |some n =>
  rw[q]at h;obtain⟨h1,h2⟩:=zv.mp q;rw[yL]at h1;rw[wm]at h2;subst h2;cases h;exact⟨rfl,h1⟩
end L3
namespace L3
open PySem
theorem gf{α:Type}{xs:List α}{i:Int}(h0:0<=i)(h1:i<xs.length):∃v,dA xs i=some v/\v∈xs:=by
 obtain⟨n,rfl⟩:=yz h0;have hj:n<xs.length:=by first|lia|omega
 exact⟨xs[n],bY (zw hj),yd hj⟩
theorem BA(x:Str):x.cps.toList.length=x.length:=by simp[Str.length]
theorem bB:(100000:Nat)<=zp:=by unfold zp;decide
theorem vK{n:Nat}(h:n<=100000):n<=zp:=zO h bB
end L3
namespace L3
open PySem
noncomputable def Wp{α:Type}(m:Mo α)(M:MH)(Q:α->MH->Prop):Prop:=∃a M',m M=some (.ok a,M')/\Q a M'
inductive V7 {α:Type} (Q:α->MH->Prop):Type where
 |mk
noncomputable def W{α:Type}(m:Mo α)(M:MH)(Q:α->MH->Prop)(_:V7 Q:=.mk):Prop:=Wp m M Q
theorem Hc{α:Type}{m:Mo α}{M:MH}{Q R:α->MH->Prop}(h:∀a M,Q a M=R a M):W m M Q=W m M R:=by
 have:Q=R:=funext fun a=>funext fun M=>h a M
 subst this;rfl
theorem W.mono{α:Type}{m:Mo α}{M:MH}{Q R:α->MH->Prop}(h:W m M Q)(f:∀a M',Q a M'->R a M'):W m M R:=by
 obtain⟨a,M',e,q⟩:=h;exact⟨a,M',e,f a M' q⟩
theorem W.of{α:Type}{m:Mo α}{M M':MH}{a:α}{Q:α->MH->Prop}(e:m M=some (.ok a,M'))(q:Q a M'):W m M Q:=⟨a,M',e,q⟩
theorem ak{α:Type}(a:α)(M:MH)(Q:α->MH->Prop):W (pure a:Mo α) M Q=Q a M:=by
 refine propext ⟨fun ⟨b,M',e,q⟩=>?_,fun q=>⟨a,M,rfl,q⟩⟩;cases e;exact q
theorem Wl{α:Type}(a:α)(M:MH)(Q:α->MH->Prop):W (fun M=>some (.ok a,M)) M Q=Q a M:=ak a M Q
theorem ar{α β:Type}(m:Mo α)(k:α->Mo β)(M:MH)(Q:β->MH->Prop):W (m >>= k) M Q=W m M fun a M'=>W (k a) M' Q:=by
 refine propext ⟨fun ⟨b,M',e,q⟩=>?_,fun ⟨a,M1,e,b,M2,e2,q⟩=>⟨b,M2,by rw[pO e];exact e2,q⟩⟩;obtain⟨a,M1,e1,e2⟩:=aa e;exact⟨a,M1,e1,b,M',e2,q⟩
theorem bF{p:Prop}[Decidable p](M:MH)(Q:Unit->MH->Prop):W (need p) M Q=(p/\Q () M):=by
 refine propext ⟨fun ⟨b,M',e,q⟩=>?_,fun ⟨hp,q⟩=>⟨(),M,F5 hp M,q⟩⟩;unfold need at e;split at e
 ·rename_i hp
  cases e;exact⟨hp,q⟩
 ·cases e
theorem dj{α:Type}(o:Option α)(M:MH)(Q:α->MH->Prop):W (lift o) M Q=∃a,o=some a/\Q a M:=by
 refine propext ⟨fun ⟨b,M',e,q⟩=>?_,fun ⟨a,ho,q⟩=>⟨a,M,by rw[ho];rfl,q⟩⟩;cases o with
 |none=>cases e
 |some a=>cases e;exact⟨_,rfl,q⟩
theorem jC(i:Nat)(M:MH)(Q:MO->MH->Prop):W (getM i) M Q=∃o,M[i]?=some o/\Q o M:=by
 refine propext ⟨fun ⟨b,M',e,q⟩=>?_,fun ⟨a,ho,q⟩=>⟨a,M,GF ho,q⟩⟩;unfold getM at e;split at e
 ·rename_i o h;cases e;exact⟨_,h,q⟩
 ·cases e
theorem jD(i:Nat)(M:MH)(Q:List D->MH->Prop):W (getL i) M Q=∃ds,M[i]?=some (.lst ds)/\Q ds M:=by
 refine propext ⟨fun ⟨b,M',e,q⟩=>?_,fun ⟨a,ho,q⟩=>⟨a,M,GG ho,q⟩⟩;unfold getL at e;split at e
 ·rename_i o h;cases e;exact⟨_,h,q⟩
 ·cases e
theorem CG(i:Nat)(M:MH)(Q:List (Ky×D)->MH->Prop):W (getD i) M Q=∃ds,M[i]?=some (.aY ds)/\Q ds M:=by
 refine propext ⟨fun ⟨b,M',e,q⟩=>?_,fun ⟨a,ho,q⟩=>⟨a,M,GH ho,q⟩⟩;unfold getD at e;split at e
 ·rename_i o h;cases e;exact⟨_,h,q⟩
 ·cases e
theorem rW(o:MO)(M:MH)(Q:D->MH->Prop):W (bu o) M Q=Q (.ob M.length) (M++[o]):=by
 refine propext ⟨fun ⟨b,M',e,q⟩=>?_,fun q=>⟨_,_,F3 o M,q⟩⟩;cases e;exact q
theorem iF(i:Nat)(o:MO)(M:MH)(Q:Unit->MH->Prop):W (du i o) M Q=(i<M.length/\Q () (M.set i o)):=by
 refine propext ⟨fun ⟨b,M',e,q⟩=>?_,fun ⟨h,q⟩=>⟨_,_,FH h,q⟩⟩;unfold du at e;split at e
 ·rename_i h;cases e;exact⟨h,q⟩
 ·cases e
theorem fu{α:Type}(M:MH)(Q:α->MH->Prop):W (Mo.stop:Mo α) M Q=False:=by
 refine propext ⟨fun ⟨b,M',e,q⟩=>?_,fun q=>q.elim⟩;cases e
theorem KW{α:Type}(b:Bool)(m n:Mo α)(M:MH)(Q:α->MH->Prop):W (if b=true then m else n) M Q=((b=true->W m M Q)/\(b=false->W n M Q)):=by
 cases b <;> simp
section
variable {α β:Type}
theorem aX(a:α)(M:MH)(Q:α->MH->Prop):Wp (pure a:Mo α) M Q=Q a M:=ak a M Q
theorem au(m:Mo α)(k:α->Mo β)(M:MH)(Q:β->MH->Prop):Wp (m >>= k) M Q=Wp m M fun a M'=>Wp (k a) M' Q:=ar m k M Q
theorem cI{p:Prop}[Decidable p](M:MH)(Q:Unit->MH->Prop):Wp (need p) M Q=(p/\Q () M):=bF M Q
theorem eO(o:Option α)(M:MH)(Q:α->MH->Prop):Wp (lift o) M Q=∃a,o=some a/\Q a M:=dj o M Q
theorem TC(i:Nat)(M:MH)(Q:MO->MH->Prop):Wp (getM i) M Q=∃o,M[i]?=some o/\Q o M:=jC i M Q
theorem dP(i:Nat)(M:MH)(Q:List D->MH->Prop):Wp (getL i) M Q=∃ds,M[i]?=some (.lst ds)/\Q ds M:=jD i M Q
theorem KY(i:Nat)(M:MH)(Q:List (Ky×D)->MH->Prop):Wp (getD i) M Q=∃ds,M[i]?=some (.aY ds)/\Q ds M:=CG i M Q
theorem eg(o:MO)(M:MH)(Q:D->MH->Prop):Wp (bu o) M Q=Q (.ob M.length) (M++[o]):=rW o M Q
theorem TB(i:Nat)(o:MO)(M:MH)(Q:Unit->MH->Prop):Wp (du i o) M Q=(i<M.length/\Q () (M.set i o)):=iF i o M Q
theorem r8(M:MH)(Q:α->MH->Prop):Wp (Mo.stop:Mo α) M Q=False:=fu M Q
theorem pw(b:Bool)(m n:Mo α)(M:MH)(Q:α->MH->Prop):Wp (if b=true then m else n) M Q=((b=true->Wp m M Q)/\(b=false->Wp n M Q)):=KW b m n M Q
end
section
variable {Γ:Ctx}{ρ:Ev}{M:MH}{a b c:IE}{Q:D->MH->Prop}{es:cH}
theorem cv{i:Nat}:W (ae Γ (.var i) ρ) M Q=∃d,ρ[i]?=some (some d)/\Q d M:=by
 refine propext ⟨fun ⟨b,M',e,q⟩=>?_,fun ⟨d,h,q⟩=>⟨d,M,NC h,q⟩⟩;simp only[AR]at e;unfold kW at e;cases h:ρ[i]? with
 |none=>rw[h]at e;cases e
 |some o =>
  rw[h]at e;cases o with
  |none=>cases e
  |some d=>cases e;exact⟨_,rfl,q⟩
theorem Th{i:Int}:W (ae Γ (.cint i) ρ) M Q=Q (.int i) M:=ak _ M Q
theorem Wj{i:Bool}:W (ae Γ (.cbl i) ρ) M Q=Q (.bl i) M:=ak _ M Q
theorem SX:W (ae Γ .cnon ρ) M Q=Q .non M:=ak _ M Q
theorem SQ{i:Str}:W (ae Γ (.cstr i) ρ) M Q=Q (.str i) M:=ak _ M Q
theorem Tn{i:Str}:W (ae Γ (.glb i) ρ) M Q=∃d,Γ.gl i=some d/\Q d M:=dj _ M Q
theorem Ts{op:Operator}:W (ae Γ (.bin op a b) ρ) M Q=W (ae Γ a ρ) M fun x M1=>W (ae Γ b ρ) M1 fun y M2=>W (eK op x y) M2 Q:=by
 delta W;simp only[Bb,au]
theorem Tq{op:CmpOp}:W (ae Γ (.cmp op a b) ρ) M Q=W (ae Γ a ρ) M fun x M1=>W (ae Γ b ρ) M1 fun y M2=>W (bS op x y) M2 fun k M3=>Q (.bl k) M3:=by
 delta W;simp only[A9,au,aX]
theorem Si{op op':CmpOp}:W (ae Γ (.cmp2 op op' a b c) ρ) M Q=W (ae Γ a ρ) M fun x M1=>W (ae Γ b ρ) M1 fun y M2=>W (bS op x y) M2 fun k M3=>(k=true->W (ae Γ c ρ) M3 fun z M4=>W (bS op' y z) M4 fun k' M5=>Q (.bl k') M5)/\(k=false->Q (.bl false) M3):=by
 delta W;simp only[uR,au,aX,pw]
theorem Tt:W (ae Γ (.and a b) ρ) M Q=W (ae Γ a ρ) M fun x M1=>∃k,bz x=some k/\(k=true->W (ae Γ b ρ) M1 Q)/\(k=false->Q (.bl false) M1):=by
 delta W;simp only[Bc,au,aX,pw,eO]
theorem Ti{q:IC}:W (ae Γ (.ifE q a b) ρ) M Q=W (bg Γ q ρ) M fun k M1=>(k=true->W (ae Γ a ρ) M1 Q)/\(k=false->W (ae Γ b ρ) M1 Q):=by
 delta W;simp only[A6,au,pw]
theorem SO:W (ae Γ (.tup es) ρ) M Q=W (aS Γ es ρ) M fun xs M1=>xs.length<=zp/\Q (.tup xs) M1:=by
 delta W;simp only[AS,au,aX,cI]
theorem Tf:W (ae Γ (.lst es) ρ) M Q=W (aS Γ es ρ) M fun xs M1=>xs.length<=zp/\Q (.ob M1.length) (M1++[.lst xs]):=by
 delta W;simp only[A4,au,eg,cI]
theorem Sg:W (ae Γ .dic0 ρ) M Q=Q (.ob M.length) (M++[.aY []]):=rW _ M Q
theorem Tj:W (ae Γ (.idx a b) ρ) M Q=W (ae Γ a ρ) M fun x M1=>W (ae Γ b ρ) M1 fun y M2=>W (gM x y) M2 Q:=by
 delta W;simp only[A7,au]
theorem SV{lo hi:lQ}:W (ae Γ (.slc a lo hi) ρ) M Q=W (ae Γ a ρ) M fun x M1=>W (gF Γ lo ρ) M1 fun l M2=>W (gF Γ hi ρ) M2 fun h M3=>W (fF x l h) M3 Q:=by
 delta W;simp only[AW,au]
theorem Sj{f:Str}:W (ae Γ (.call f es) ρ) M Q=W (aS Γ es ρ) M fun xs M1=>W (Γ.fn f xs) M1 Q:=by
 delta W;simp only[uS,au]
theorem AX{Γ:Ctx}:∀es ρ,ae Γ (.rfs es) ρ=(do let xs<-aS Γ es ρ;vk Γ xs):=fun _ _=>rfl
theorem SW:W (ae Γ (.rfs es) ρ) M Q=W (aS Γ es ρ) M fun xs M1=>∃M2,Γ.rf xs M1=some M2/\Q (.bl true) M2:=by
 rw[AX,ar];refine Hc (fun xs M1=>?_);refine propext ⟨fun ⟨d,M',e,q⟩=>?_,fun ⟨M2,e,q⟩=>⟨_,M2,by unfold vk;rw[e],q⟩⟩;unfold vk at e;cases h:Γ.rf xs M1 with
 |none=>rw[h]at e;cases e
 |some M2=>rw[h]at e;cases e;exact⟨_,rfl,q⟩
theorem Tr{f:Bl}:W (ae Γ (.blt f es) ρ) M Q=W (aS Γ es ρ) M fun xs M1=>W (eA f xs) M1 Q:=by
 delta W;simp only[Ba,au]
theorem Sh{j:Nat}{it:IT}{cc:mP}:W (ae Γ (.comp j it cc a) ρ) M Q=W (eZ Γ it ρ) M fun s M1=>s.ds.length<=zp/\W (dJ s.ck (ir Γ cc) (ae Γ a) (ρ.set j none) s.ds) M1 fun ys M2=>Q (.ob M2.length) (M2++[.lst ys]):=by
 delta W;simp only[uQ,au,eg,cI]
theorem Sa{Q:List D->MH->Prop}:W (aS Γ .nil ρ) M Q=Q [] M:=ak _ M Q
theorem QH{Q:List D->MH->Prop}:W (aS Γ (.cons a es) ρ) M Q=W (ae Γ a ρ) M fun x M1=>W (aS Γ es ρ) M1 fun xs M2=>Q (x::xs) M2:=by
 delta W;simp only[sQ,au,aX]
theorem R9{Q:Option Int->MH->Prop}:W (gF Γ .none ρ) M Q=Q none M:=ak _ M Q
theorem R8{Q:Option Int->MH->Prop}:W (gF Γ (.some a) ρ) M Q=W (ae Γ a ρ) M fun x M1=>∃i,x=.int i/\Q (some i) M1:=by
 delta W;simp only[uL,au];refine congrArg _ (funext fun x=>funext fun M1=>?_);cases x <;> simp[r8,aX]
theorem SG{Q:Src->MH->Prop}:W (eZ Γ (.seq a) ρ) M Q=W (ae Γ a ρ) M fun x M1=>W (eX x) M1 Q:=by
 delta W;simp only[AN,au]
theorem RV{Q:Src->MH->Prop}:W (eZ Γ (.rng1 a) ρ) M Q=W (ae Γ a ρ) M fun x M1=>∃i,x=.int i/\small i/\Q ⟨none,ff 0 i⟩ M1:=by
 delta W;simp only[uF,au];refine congrArg _ (funext fun x=>funext fun M1=>?_);cases x <;> simp[r8,aX,au,cI]
section
variable {Q:Bool->MH->Prop}{q r:IC}
theorem Tw:W (bg Γ (.cmp a) ρ) M Q=W (ae Γ a ρ) M fun x M1=>∃k,bz x=some k/\Q k M1:=by delta W;simp only[Bf,au,eO]
theorem Tu:W (bg Γ (.tru a) ρ) M Q=W (ae Γ a ρ) M fun x M1=>W (ka x) M1 Q:=by delta W;simp only[Bd,au]
theorem Tv:W (bg Γ (.not q) ρ) M Q=W (bg Γ q ρ) M fun k M1=>Q (!k) M1:=by delta W;simp only[Be,au,aX]
theorem Tz:W (bg Γ (.and q r) ρ) M Q=W (bg Γ q ρ) M fun k M1=>(k=true->W (bg Γ r ρ) M1 Q)/\(k=false->Q false M1):=by delta W;simp only[Bg,au,pw,aX]
theorem Wk:W (bg Γ (.or q r) ρ) M Q=W (bg Γ q ρ) M fun k M1=>(k=true->Q true M1)/\(k=false->W (bg Γ r ρ) M1 Q):=by delta W;simp only[Dc,au,pw,aX]
theorem QK:W (ir Γ .none ρ) M Q=Q true M:=ak _ M Q
theorem QJ:W (ir Γ (.some q) ρ) M Q=W (bg Γ q ρ) M Q:=by delta W;simp only[sS]
end
section
variable {Q:Fl->MH->Prop}{s:IS}{r s1 s2:aI}{q:IC}
noncomputable def vH(Γ:Ctx)(r:aI)(Q:Fl->MH->Prop)(f:Fl)(M:MH):Prop:=match f with
 |.nx ρ=>W (aq Γ r ρ) M Q
 |.rt v=>Q (.rt v) M
 |.bk ρ=>Q (.bk ρ) M
 |.ct ρ=>Q (.ct ρ) M
theorem Us:vH Γ r Q (.nx ρ) M=W (aq Γ r ρ) M Q:=rfl
theorem Ur{v:D}:vH Γ r Q (.rt v) M=Q (.rt v) M:=rfl
theorem Uu:vH Γ r Q (.bk ρ) M=Q (.bk ρ) M:=rfl
theorem Ut:vH Γ r Q (.ct ρ) M=Q (.ct ρ) M:=rfl
theorem SJ:W (aq Γ .nil ρ) M Q=Q (.nx ρ) M:=ak _ M Q
theorem bL:W (aq Γ (.cons s r) ρ) M Q=W (bc Γ s ρ) M (vH Γ r Q):=by
 delta W;simp only[fG,au];refine congrArg _ (funext fun f=>funext fun M1=>?_);cases f <;> simp[vH,aX,W]
theorem cu{i:Nat}:W (bc Γ (.set i a) ρ) M Q=W (ae Γ a ρ) M fun x M1=>Q (.nx (ρ.set i (some x))) M1:=by delta W;simp only[nX,au,aX]
theorem RW{i j:Nat}:W (bc Γ (.setP i j a) ρ) M Q=W (ae Γ a ρ) M fun x M1=>∃p,pairD x=some p/\Q (.nx ((ρ.set i (some p.1)).set j (some p.2))) M1:=by
 delta W;simp only[uG,au,eO,aX]
theorem SF{x y:D}:pairD (.tup [x,y])=some (x,y):=rfl
theorem QG:W (bc Γ (.setIx a b c) ρ) M Q=W (ae Γ c ρ) M fun v M1=>W (ae Γ a ρ) M1 fun x M2=>W (ae Γ b ρ) M2 fun y M3=>W (setIx x y v) M3 fun _ M4=>Q (.nx ρ) M4:=by delta W;simp only[sP,au,aX]
theorem R7:W (bc Γ (.expr a) ρ) M Q=W (ae Γ a ρ) M fun _ M1=>Q (.nx ρ) M1:=by delta W;simp only[mF,au,aX]
theorem SI:W (bc Γ (.ret a) ρ) M Q=W (ae Γ a ρ) M fun x M1=>Q (.rt x) M1:=by delta W;simp only[AO,au,aX]
theorem RX:W (bc Γ .retN ρ) M Q=Q (.rt .non) M:=ak _ M Q
theorem RY:W (bc Γ .pass ρ) M Q=Q (.nx ρ) M:=ak _ M Q
theorem SN:W (bc Γ .brk ρ) M Q=Q (.bk ρ) M:=ak _ M Q
theorem SM:W (bc Γ .cnt ρ) M Q=Q (.ct ρ) M:=ak _ M Q
theorem Od:W (bc Γ (.ifS q s1 s2) ρ) M Q=W (bg Γ q ρ) M fun k M1=>(k=true->W (aq Γ s1 ρ) M1 Q)/\(k=false->W (aq Γ s2 ρ) M1 Q):=by delta W;simp only[nY,au,pw]
noncomputable def pF:Bool->aI->aI->aI
 |true,a,_=>a
 |false,_,b=>b
theorem Wr{a b:aI}:pF true a b=a:=rfl
theorem Ws{a b:aI}:pF false a b=b:=rfl
theorem SH:W (bc Γ (.ifS q s1 s2) ρ) M Q=W (bg Γ q ρ) M fun k M1=>W (aq Γ (pF k s1 s2) ρ) M1 Q:=by
 rw[Od];refine congrArg _ (funext fun k=>funext fun M1=>?_);cases k <;> simp[pF]
theorem sT{k:Bool}(h:k=true)(t:W (aq Γ s1 ρ) M Q):W (aq Γ (pF k s1 s2) ρ) M Q:=h▸t
theorem sF{k:Bool}(h:k=false)(t:W (aq Γ s2 ρ) M Q):W (aq Γ (pF k s1 s2) ρ) M Q:=h▸t
theorem SK{i:Nat}{it:IT}:W (bc Γ (.forS i it s1) ρ) M Q=W (eZ Γ it ρ) M fun s M1=>W (dI s.ck i (aq Γ s1) s.ds ρ) M1 Q:=by delta W;simp only[uI,au]
end
noncomputable def BS(Q:D->MH->Prop)(f:Fl)(M:MH):Prop:=match f with
 |.nx _=>Q .non M
 |.rt v=>Q v M
 |_=>False
theorem VL:BS Q (.nx ρ) M=Q .non M:=rfl
theorem VJ{v:D}:BS Q (.rt v) M=Q v M:=rfl
theorem wf{n p:Nat}{b:aI}{xs:List D}:W (do need (xs.length=p);mU Γ n b xs:Mo D) M Q=(xs.length=p/\W (aq Γ b (xs.map some++zN (n-xs.length) none)) M (BS Q)):=by
 rw[ar,bF];unfold mU;rw[ar];refine congrArg _ (Hc fun f M1=>?_);cases f <;> simp[BS,ak,fu]
end
end L3
namespace L3
open PySem
section
variable {M:MH}{Q:D->MH->Prop}{B:Bool->MH->Prop}{U:Unit->MH->Prop}{S:Src->MH->Prop}{x y v:D}
theorem Ug{i j:Int}:W (eK .Add (.int i) (.int j)) M Q=Q (.int (i+j)) M:=ak _ M Q
theorem Ub{i j:Int}:W (eK .Sub (.int i) (.int j)) M Q=Q (.int (i-j)) M:=ak _ M Q
theorem Ud{i j:Str}:W (eK .Add (.str i) (.str j)) M Q=(i.length+j.length<=zp/\Q (.str (i++j)) M):=by
 show W (need _ >>= fun _=>pure _) M Q=_;rw[ar,bF,ak]
theorem Uc{i j:List D}:W (eK .Add (.tup i) (.tup j)) M Q=(i.length+j.length<=zp/\Q (.tup (i++j)) M):=by
 show W (need _ >>= fun _=>pure _) M Q=_;rw[ar,bF,ak]
theorem Ue{i j:Nat}:W (eK .Add (.ob i) (.ob j)) M Q=∃xs,M[i]?=some (.lst xs)/\∃ys,M[j]?=some (.lst ys)/\xs.length+ys.length<=zp/\Q (.ob M.length) (M++[.lst (xs++ys)]):=by
 show W (getL i >>= fun xs=>getL j >>= fun ys=>need _ >>= fun _=>bu _) M Q=_;delta W;simp only[au,dP,cI,eg]
theorem WO{i j:Int}:W (eK .FloorDiv (.int i) (.int j)) M Q=((0<j/\j<1073741824)/\Q (.int (i / j)) M):=by
 show W (need _ >>= fun _=>pure _) M Q=_;rw[ar,bF,ak]
theorem WA{i j:Int}:W (eK .Mod (.int i) (.int j)) M Q=(0<j/\Q (.int (i % j)) M):=by
 show W (need _ >>= fun _=>pure _) M Q=_;rw[ar,bF,ak]
theorem tj:W (bS .Eq x y) M B=∃b,bP M 20 x y=some b/\B b M:=by
 show W (nB x y) M B=_;refine propext ⟨fun ⟨b,M',e,q⟩=>?_,fun ⟨b,e,q⟩=>⟨b,M,by unfold nB;rw[e],q⟩⟩;unfold nB at e;cases h:bP M 20 x y with
 |none=>rw[h]at e;cases e
 |some k=>rw[h]at e;cases e;exact⟨_,rfl,q⟩
theorem Md:W (bS .NotEq x y) M B=∃b,bP M 20 x y=some b/\B (!b) M:=by
 show W (bS .Eq x y >>= fun b=>pure (!b)) M B=_;rw[ar]
 have:∀b M,W (pure (!b):Mo Bool) M B=B (!b) M:=fun b M=>ak _ M B
 rw[Hc this,tj]
theorem Kq{n:Nat}(h1:bC x=true)(h2:bC y=true):bP M (n+1) x y=some (eP x y):=by
 cases x <;> cases y <;> first|exact absurd h1 zt|exact absurd h2 zt|rfl
theorem Ey{n:Nat}{i j:Int}:bP M (n+1) (.int i) (.int j)=some (i==j):=rfl
theorem ND{n:Nat}{i j:Str}:bP M (n+1) (.str i) (.str j)=some (i==j):=rfl
theorem IZ{n:Nat}{i j:Bool}:bP M (n+1) (.bl i) (.bl j)=some (i==j):=rfl
theorem W6{n:Nat}:bP M (n+1) .non .non=some true:=rfl
theorem W5{n:Nat}{j:Str}:bP M (n+1) .non (.str j)=some false:=rfl
theorem W0{n:Nat}{j:Str}:bP M (n+1) (.str j) .non=some false:=rfl
theorem VI{n:Nat}{i j:List D}:bP M (n+1) (.tup i) (.tup j)=fR (bP M n) i j:=rfl
theorem NF{n:Nat}{i j:Nat}{xs:List D}(h1:M[i]?=some (.lst xs))(h2:M[j]?=some (.lst [])):bP M (n+1) (.ob i) (.ob j)=some xs.isEmpty:=by
 show (match M[i]?,M[j]? with
   |some (.lst xs),some (.lst ys)=>if xs.length=ys.length then fR (bP M n) xs ys else some false
   |_,_=>none)=_
 rw[h1,h2];cases xs <;> rfl
theorem WM{i j:Int}:W (bS .Eq (.int i) (.int j)) M B=B (i==j) M:=by rw[tj];simp[Ey]
theorem WL{i j:Str}:W (bS .Eq (.str i) (.str j)) M B=B (i==j) M:=by rw[tj];simp[ND]
theorem WN{i j:Bool}:W (bS .Eq (.bl i) (.bl j)) M B=B (i==j) M:=by rw[tj];simp[IZ]
theorem Wy{i j:Int}:W (bS .NotEq (.int i) (.int j)) M B=B (!(i==j)) M:=by rw[Md];simp[Ey]
theorem Wz{i j:Bool}:W (bS .NotEq (.bl i) (.bl j)) M B=B (!(i==j)) M:=by rw[Md];simp[IZ]
theorem WC{i j:Int}:W (bS .Lt (.int i) (.int j)) M B=B (decide (i<j)) M:=ak _ M B
theorem WE{i j:Int}:W (bS .LtE (.int i) (.int j)) M B=B (decide (i<=j)) M:=ak _ M B
theorem WJ{i j:Int}:W (bS .Gt (.int i) (.int j)) M B=B (decide (j<i)) M:=ak _ M B
theorem WK{i j:Int}:W (bS .GtE (.int i) (.int j)) M B=B (decide (j<=i)) M:=ak _ M B
theorem WD{i j:Str}:W (bS .LtE (.str i) (.str j)) M B=B (!decide (j.cps.toList<i.cps.toList)) M:=ak _ M B
theorem WB{i j:Str}:W (bS .Lt (.str i) (.str j)) M B=B (decide (i.cps.toList<j.cps.toList)) M:=ak _ M B
theorem Xg:W (bS .In x y) M B=W (inD x y) M B:=rfl
theorem Sq:W (bS .NotIn x y) M B=W (inD x y) M fun k M1=>B (!k) M1:=by
 show W (inD x y >>= fun b=>pure (!b)) M B=_;delta W;simp only[au,aX]
theorem WH{i j:Str}:W (inD (.str i) (.str j)) M B=B (CT j i) M:=ak _ M B
theorem KU{ds:List D}:W (ko x ds) M B=∃b,ip M x ds=some b/\B b M:=by
 refine propext ⟨fun ⟨b,M',e,q⟩=>?_,fun ⟨b,e,q⟩=>⟨b,M,by unfold ko;rw[e],q⟩⟩;unfold ko at e;cases h:ip M x ds with
 |none=>rw[h]at e;cases e
 |some k=>rw[h]at e;cases e;exact⟨_,rfl,q⟩
theorem kr(h1:bC x=true):∀{ds:List D},ds.all bC=true->ip M x ds=some (ds.any fun d=>eP d x)
 |[],_=>rfl
 |d::ds,h=>by
  rw[zK,zx]at h;unfold ip;rw[Kq h.1 h1,kr h1 h.2];rfl
theorem WG{ds:List D}:W (inD x (.tup ds)) M B=∃b,ip M x ds=some b/\B b M:=KU
theorem WI{i:Nat}:W (inD x (.ob i)) M B=∃o,M[i]?=some o/\W (match o with
  |.lst ds=>ko x ds
  |.aY kvs=>(do let k<-lift (jU x);pure (cV kvs k).isSome)
  |.ins _ _=>Mo.stop
  ) M B:=by
 exact(ar (getM i) _ M B).trans (jC i M _)
theorem Xf:W (bS .Is x y) M B=(gk y=true/\B (gk x) M):=by
 show W (need _ >>= fun _=>pure _) M B=_;rw[ar,bF,ak]
theorem Su:W (bS .IsNot x y) M B=(gk y=true/\B (!gk x) M):=by
 show W (need _ >>= fun _=>pure _) M B=_;rw[ar,bF,ak]
theorem WW{ds:List D}{i:Int}:W (gM (.tup ds) (.int i)) M Q=∃d,dA ds i=some d/\Q d M:=dj _ M Q
theorem Xq{ds:List D}{i:Int}:W (gM (.fl ds) (.int i)) M Q=∃d,dA ds i=some d/\Q d M:=dj _ M Q
theorem WX{t:Str}{i:Int}:W (gM (.str t) (.int i)) M Q=(t.length<=zp/\∃c,dA t.cps.toList i=some c/\Q (sgn c) M):=by
 show W (need _ >>= fun _=>lift (dA t.cps.toList i) >>= fun c=>pure (sgn c)) M Q=_;delta W;simp only[au,cI,eO,aX]
noncomputable def mY(o:MO)(y:D)(M:MH)(Q:D->MH->Prop):Prop:=match o with
 |.lst ds=>∃i,y=.int i/\∃d,dA ds i=some d/\Q d M
 |.aY kvs=>∃k,jU y=some k/\∃d,cV kvs k=some d/\Q d M
 |.ins _ _=>False
theorem WY{ds:List D}{i:Int}:mY (.lst ds) (.int i) M Q=∃d,dA ds i=some d/\Q d M:=by simp[mY]
theorem WZ{kvs:List (Ky×D)}:mY (.aY kvs) y M Q=∃k,jU y=some k/\∃d,cV kvs k=some d/\Q d M:=rfl
theorem Xp{j:Nat}:W (gM (.ob j) y) M Q=∃o,M[j]?=some o/\mY o y M Q:=by
 have e:gM (.ob j) y=(getM j >>= fun o=>(match o with
  |.lst ds=>(match y with
   |.int i=>lift (dA ds i)
   |_=>Mo.stop)
  |.aY kvs=>(do let q<-lift (jU y);lift (cV kvs q))
  |.ins _ _=>Mo.stop
  ):Mo D):=by cases y <;> rfl
 rw[e,ar,jC];refine congrArg _ (funext fun o=>congrArg _ ?_);cases o with
 |lst ds=>cases y <;> simp[mY,fu,dj]
 |aY kvs=>simp[mY,ar,dj]
 |ins C fs=>simp[mY,fu]
noncomputable def kj(j:Nat)(o:MO)(y v:D)(M:MH)(U:Unit->MH->Prop):Prop:=match o with
 |.lst ds=>∃i,y=.int i/\∃n,ow ds.length i=some n/\U () (M.set j (.lst (ds.set n v)))
 |.aY kvs=>∃k,jU y=some k/\kvs.length<zp/\U () (M.set j (.aY (iy kvs k v)))
 |.ins _ _=>False
theorem Wq{j:Nat}{ds:List D}{i:Int}:kj j (.lst ds) (.int i) v M U=∃n,ow ds.length i=some n/\U () (M.set j (.lst (ds.set n v))):=by simp[kj]
theorem Om{j:Nat}{kvs:List (Ky×D)}:kj j (.aY kvs) y v M U=∃k,jU y=some k/\kvs.length<zp/\U () (M.set j (.aY (iy kvs k v))):=rfl
theorem Fh{j:Nat}:W (setIx (.ob j) y v) M U=∃o,M[j]?=some o/\kj j o y v M U:=by
 show W (getM j >>= _) M U=_;rw[ar,jC];refine congrArg _ (funext fun o=>?_);refine propext (and_congr_right fun h=>?_);have hl:j<M.length:=(zv.mp h).1;cases o with
 |lst ds=>cases y <;> simp[kj,fu,dj,ar,iF,hl]
 |aY kvs=>simp[kj,ar,dj,bF,iF,hl]
 |ins C fs=>simp[kj,fu]
theorem V9{t:Str}{lo hi:Option Int}:W (fF (.str t) lo hi) M Q=(t.length<=zp/\Q (.str ⟨(cutD t.cps.toList lo hi).toArray⟩) M):=by
 show W (need _ >>= fun _=>pure _) M Q=_;rw[ar,bF,ak]
theorem Wa{j:Nat}{lo hi:Option Int}:W (fF (.ob j) lo hi) M Q=∃ds,M[j]?=some (.lst ds)/\Q (.ob M.length) (M++[.lst (cutD ds lo hi)]):=by
 show W (getL j >>= fun ds=>bu _) M Q=_;delta W;simp only[au,dP,eg]
theorem V8{ds:List D}{lo hi:Option Int}:W (fF (.tup ds) lo hi) M Q=Q (.tup (cutD ds lo hi)) M:=ak _ M Q
theorem W9{ds:List D}{lo hi:Option Int}:W (fF (.fl ds) lo hi) M Q=Q (.ob M.length) (M++[.lst (cutD ds lo hi)]):=rW _ M Q
theorem UN{t:Str}:W (eA .len [.str t]) M Q=(t.length<=zp/\Q (.int t.length) M):=by
 show W (need _ >>= fun _=>pure _) M Q=_;rw[ar,bF,ak]
noncomputable def vG(o:MO)(p:Prop):Prop:=match o with
 |.lst _=>p
 |.aY _=>p
 |_=>False
theorem Xh{ds:List D}{p:Prop}:vG (.lst ds) p=p:=rfl
theorem Xi{ds:List (Ky×D)}{p:Prop}:vG (.aY ds) p=p:=rfl
noncomputable def tO(o:MO):Int:=match o with
 |.lst ds=>ds.length
 |.aY kvs=>kvs.length
 |.ins _ _=>0
theorem UO{j:Nat}:W (eA .len [.ob j]) M Q=∃o,M[j]?=some o/\vG o (Q (.int (tO o)) M):=by
 show W (getM j >>= _) M Q=_;rw[ar,jC];refine congrArg _ (funext fun o=>congrArg _ ?_);cases o <;> simp[tO,vG,ak,fu]
theorem UK{ds:List D}:tO (.lst ds)=ds.length:=rfl
theorem UL{ds:List (Ky×D)}:tO (.aY ds)=ds.length:=rfl
theorem UM{ds:List D}:W (eA .len [.tup ds]) M Q=Q (.int ds.length) M:=ak _ M Q
theorem UP{ds:List D}:W (eA .len [.fl ds]) M Q=Q (.int ds.length) M:=ak _ M Q
theorem UJ{j:Nat}:W (eA .tuple [.ob j]) M Q=∃ds,M[j]?=some (.lst ds)/\Q (.tup ds) M:=by
 show W (getL j >>= fun ds=>pure _) M Q=_;delta W;simp only[au,dP,aX]
theorem k_all{j:Nat}:W (eA .all [.ob j]) M Q=∃ds,M[j]?=some (.lst ds)/\∃bs,ds.mapM bz=some bs/\Q (.bl (bs.all id)) M:=by
 show W (getL j >>= fun ds=>lift (ds.mapM bz) >>= fun bs=>pure _) M Q=_;delta W;simp only[au,dP,eO,aX]
theorem WU{j:Nat}:W (eA .any [.ob j]) M Q=∃ds,M[j]?=some (.lst ds)/\∃bs,ds.mapM bz=some bs/\Q (.bl (bs.any id)) M:=by
 show W (getL j >>= fun ds=>lift (ds.mapM bz) >>= fun bs=>pure _) M Q=_;delta W;simp only[au,dP,eO,aX]
theorem Wb{ds:List D}:W (eX (.tup ds)) M S=S ⟨none,ds⟩ M:=ak _ M S
theorem Xa{ds:List D}:W (eX (.fl ds)) M S=S ⟨none,ds⟩ M:=ak _ M S
theorem Wg{j:Nat}:W (eX (.ob j)) M S=∃ds,M[j]?=some (.lst ds)/\S ⟨some (j,ds),ds⟩ M:=by
 show W (getL j >>= fun ds=>pure _) M S=_;delta W;simp only[au,dP,aX]
theorem Xb{b:Bool}:W (ka (.bl b)) M B=B b M:=ak _ M B
theorem Wm{ds:List D}:W (ka (.tup ds)) M B=B (!ds.isEmpty) M:=ak _ M B
theorem Wo{b:Int}:W (ka (.int b)) M B=B (b != 0) M:=ak _ M B
theorem Xr{b:Bool}:bz (.bl b)=some b:=rfl
theorem fk{ck:Option (Nat×List D)}{c:Ev->Mo Bool}{e:Ev->Mo D}{ρ:Ev}{ds:List D}{L:List D->MH->Prop}(I:Nat->List D->MH->Prop)(h0:I 0 [] M)(hs:∀n ys M,I n ys M->fK ck M)
  (h:∀(n:Nat) (d:D) (ys:List D) (M:MH),ds[n]?=some d->I n ys M->W (c (some d::ρ)) M fun b M1=>(b=true->W (e (some d::ρ)) M1 fun y M2=>I (n+1) (ys++[y]) M2)/\(b=false->I (n+1) ys M1))
  (q:∀ys M,I ds.length ys M->L ys M):W (dJ ck c e ρ ds) M L:=by
 suffices H:∀(r:List D) (n:Nat) (ys:List D) (M:MH),(∀j d,r[j]?=some d->ds[n+j]?=some d)->n+r.length=ds.length->I n ys M->W (dJ ck c e ρ r) M fun zs M'=>L (ys++zs) M' by
  simpa using H ds 0 [] M (fun j d e=>by simpa using e) (by simp) h0
 intro r;induction r with
 |nil =>
  intro n ys M _ hn hI;unfold dJ;rw[ar];refine W.of (show bH ck M=some (.ok (),M) from if_pos (hs _ _ _ hI)) ?_;rw[ak,zJ]
  have:n=ds.length:=by simpa using hn
  exact q _ _ (this▸hI)
 |cons d r ih =>
  intro n ys M hr hn hI;unfold dJ;rw[ar];refine W.of (show bH ck M=some (.ok (),M) from if_pos (hs _ _ _ hI)) ?_;rw[ar];have hd:ds[n]?=some d:=by simpa using hr 0 d rfl
  have hr':∀j d',r[j]?=some d'->ds[n+1+j]?=some d':=fun j d' e=>by
   have:=hr (j+1) d' (by simpa using e)
   rwa [show n+(j+1)=n+1+j by omega]at this
  have hn':n+1+r.length=ds.length:=by rw[zi]at hn;first|lia|omega
  refine(h n d ys M hd hI).mono fun b M1 hb=>?_;rw[KW];refine⟨fun hb'=>?_,fun hb'=>ih (n+1) ys M1 hr' hn' (hb.2 hb')⟩;rw[ar];refine(hb.1 hb').mono fun y M2 Nw=>?_;rw[ar];refine(ih (n+1) (ys++[y]) M2 hr' hn' Nw).mono fun zs M3 hL=>?_;rw[ak];simpa using hL
noncomputable def kn(I:Nat->Ev->MH->Prop)(F:Fl->MH->Prop)(n:Nat)(f:Fl)(M1:MH):Prop:=match f with
 |.nx ρ'=>I (n+1) ρ' M1
 |.ct ρ'=>I (n+1) ρ' M1
 |.bk ρ'=>F (.nx ρ') M1
 |.rt v=>F (.rt v) M1
theorem WR{I:Nat->Ev->MH->Prop}{F:Fl->MH->Prop}{n:Nat}{ρ:Ev}:kn I F n (.nx ρ) M=I (n+1) ρ M:=rfl
theorem WS{I:Nat->Ev->MH->Prop}{F:Fl->MH->Prop}{n:Nat}{ρ:Ev}:kn I F n (.ct ρ) M=I (n+1) ρ M:=rfl
theorem WT{I:Nat->Ev->MH->Prop}{F:Fl->MH->Prop}{n:Nat}{ρ:Ev}:kn I F n (.bk ρ) M=F (.nx ρ) M:=rfl
theorem WQ{I:Nat->Ev->MH->Prop}{F:Fl->MH->Prop}{n:Nat}{v:D}:kn I F n (.rt v) M=F (.rt v) M:=rfl
theorem fw{ck:Option (Nat×List D)}{i:Nat}{body:Ev->Mo Fl}{ds:List D}{ρ:Ev}{F:Fl->MH->Prop}(I:Nat->Ev->MH->Prop)(h0:I 0 ρ M)(hs:∀n ρ M,I n ρ M->fK ck M)
  (h:∀(n:Nat) (d:D) (ρ:Ev) (M:MH),ds[n]?=some d->I n ρ M->W (body (ρ.set i (some d))) M (kn I F n))
  (q:∀ρ M,I ds.length ρ M->F (.nx ρ) M):W (dI ck i body ds ρ) M F:=by
 suffices H:∀(r:List D) (n:Nat) (ρ:Ev) (M:MH),(∀j d,r[j]?=some d->ds[n+j]?=some d)->n+r.length=ds.length->I n ρ M->W (dI ck i body r ρ) M F from
  H ds 0 ρ M (fun j d e=>by simpa using e) (by simp) h0
 intro r;induction r with
 |nil =>
  intro n ρ M _ hn hI;unfold dI;rw[ar];refine W.of (show bH ck M=some (.ok (),M) from if_pos (hs _ _ _ hI)) ?_;rw[ak]
  have:n=ds.length:=by simpa using hn
  exact q _ _ (this▸hI)
 |cons d r ih =>
  intro n ρ M hr hn hI;unfold dI;rw[ar];refine W.of (show bH ck M=some (.ok (),M) from if_pos (hs _ _ _ hI)) ?_;rw[ar];have hd:ds[n]?=some d:=by simpa using hr 0 d rfl
  have hr':∀j d',r[j]?=some d'->ds[n+1+j]?=some d':=fun j d' e=>by
   have:=hr (j+1) d' (by simpa using e)
   rwa [show n+(j+1)=n+1+j by omega]at this
  have hn':n+1+r.length=ds.length:=by rw[zi]at hn;first|lia|omega
  refine(h n d ρ M hd hI).mono fun f M1 hf=>?_;cases f with
  |nx ρ'=>exact ih (n+1) ρ' M1 hr' hn' hf
  |ct ρ'=>exact ih (n+1) ρ' M1 hr' hn' hf
  |bk ρ'=>exact(ak _ _ _).mpr hf
  |rt v=>exact(ak _ _ _).mpr hf
end
end L3
namespace L3
open PySem
theorem UH{x:Str}:jU (.str x)=some (.inr x):=rfl
theorem UI{x:Int}:jU (.int x)=some (.inl x):=rfl
theorem eq_str{a b:Str}:eP (.str a) (.str b)=(a==b):=rfl
theorem eq_int{a b:Int}:eP (.int a) (.int b)=(a==b):=rfl
end L3
namespace L3
open PySem
section
variable {Γ:Ctx}{ρ:Ev}{M:MH}{a b c:IE}{Q:D->MH->Prop}{es:cH}{x y:D}{B:Bool->MH->Prop}
theorem S8:W (ae Γ (.neg a) ρ) M Q=W (ae Γ a ρ) M fun x M1=>∃i,x=.int i/\Q (.int (-i)) M1:=by
 delta W;simp only[AZ,au];refine congrArg _ (funext fun x=>funext fun M1=>?_);cases x <;> simp[r8,aX]
theorem w_getI(i:Nat)(M:MH)(Q:Nat×List (Str×D)->MH->Prop):W (iT i) M Q=∃C fs,M[i]?=some (.ins C fs)/\Q (C,fs) M:=by
 refine propext ⟨fun ⟨b,M',e,q⟩=>?_,fun ⟨C,fs,ho,q⟩=>⟨(C,fs),M,by unfold iT;rw[ho],q⟩⟩;unfold iT at e;split at e
 ·rename_i C fs h;cases e;exact⟨_,_,h,q⟩
 ·cases e
theorem A8{Γ:Ctx}:∀a f ρ,ae Γ (.fld a f) ρ=(do let x<-ae Γ a ρ;ua Γ.hc f x):=fun _ _ _=>rfl
theorem To{f:Str}:W (ae Γ (.fld a f) ρ) M Q=W (ae Γ a ρ) M fun x M1=>W (ua Γ.hc f x) M1 Q:=by delta W;simp only[A8,au]
theorem Wi{C k:Nat}{f:Str}:W (ua C f (.ob k)) M Q=∃fs,M[k]?=some (.ins C fs)/\∃d,fs.lookup f=some d/\Q d M:=by
 show W (iT k >>= fun p=>need _ >>= fun _=>lift _) M Q=_;rw[ar,w_getI];refine propext ⟨fun ⟨C',fs,h,q⟩=>?_,fun ⟨fs,h,q⟩=>⟨C,fs,h,?_⟩⟩
 ·rw[ar,bF,dj]at q
  obtain⟨e,q⟩:=q;cases (show C'=C from e);exact⟨fs,h,q⟩
 ·rw[ar,bF,dj]
  exact⟨rfl,q⟩
theorem Hh{C k:Nat}{m:Str}{U:Unit->MH->Prop}:W (hY C m (.ob k)) M U=∃fs,M[k]?=some (.ins C fs)/\(fs.lookup m).isNone=true/\U () M:=by
 show W (iT k >>= fun p=>need _) M U=_;rw[ar,w_getI];refine propext ⟨fun ⟨C',fs,h,q⟩=>?_,fun ⟨fs,h,q⟩=>⟨C,fs,h,?_⟩⟩
 ·rw[bF]at q
  obtain⟨⟨e,e2⟩,q⟩:=q;cases (show C'=C from e);exact⟨fs,h,e2,q⟩
 ·rw[bF]
  exact⟨⟨rfl,q.1⟩,q.2⟩
theorem nZ{Γ:Ctx}:∀a m es ρ,ae Γ (.mcl a m es) ρ=(do let x<-ae Γ a ρ;hY Γ.hc m x;let xs<-aS Γ es ρ;Γ.fn (aA m) (x::xs)):=fun _ _ _ _=>rfl
theorem Te{m:Str}:W (ae Γ (.mcl a m es) ρ) M Q=W (ae Γ a ρ) M fun x M1=>W (hY Γ.hc m x) M1 fun _ M2=>W (aS Γ es ρ) M2 fun xs M3=>W (Γ.fn (aA m) (x::xs)) M3 Q:=by delta W;simp only[nZ,au]
theorem AY{Γ:Ctx}:∀es ρ,ae Γ (.new es) ρ=(do let xs<-aS Γ es ρ;let o<-bu (.ins Γ.hc []);let r<-Γ.fn "House.__init__" (o::xs);need (gk r=true);pure o):=fun _ _=>rfl
theorem SY:W (ae Γ (.new es) ρ) M Q=W (aS Γ es ρ) M fun xs M1=>W (Γ.fn "House.__init__" (.ob M1.length::xs)) (M1++[.ins Γ.hc []]) fun r M2=>gk r=true/\Q (.ob M1.length) M2:=by
 delta W;simp only[AY,au,eg,cI,aX]
theorem AU{Γ:Ctx}:∀a ρ,ae Γ (.ssE a) ρ=(do let x<-ae Γ a ρ;ssE x):=fun _ _=>rfl
theorem SR:W (ae Γ (.ssE a) ρ) M Q=W (ae Γ a ρ) M fun x M1=>W (ssE x) M1 Q:=by delta W;simp only[AU,au]
theorem Wc{k:Nat}:W (ssE (.ob k)) M Q=∃ds,M[k]?=some (.lst ds)/\ds.isEmpty=true/\Q (.ob M.length) (M++[.lst []]):=by
 show W (getL k >>= fun ds=>need _ >>= fun _=>bu _) M Q=_;delta W;simp only[au,dP,cI,eg]
theorem AV{Γ:Ctx}:∀a ρ,ae Γ (.srE a) ρ=(do let x<-ae Γ a ρ;srE x):=fun _ _=>rfl
theorem SU:W (ae Γ (.srE a) ρ) M Q=W (ae Γ a ρ) M fun x M1=>W (srE x) M1 Q:=by delta W;simp only[AV,au]
theorem We{k:Nat}:W (srE (.ob k)) M Q=∃kvs,M[k]?=some (.aY kvs)/\kvs.isEmpty=true/\Q (.ob M.length) (M++[.lst []]):=by
 show W (getD k >>= fun ds=>need _ >>= fun _=>bu _) M Q=_;delta W;simp only[au,KY,cI,eg]
theorem A3{Γ:Ctx}:∀a b ρ,ae Γ (.mnE a b) ρ=(do let x<-ae Γ a ρ;let y<-ae Γ b ρ;mnE y x):=fun _ _ _=>rfl
theorem Td:W (ae Γ (.mnE a b) ρ) M Q=W (ae Γ a ρ) M fun x M1=>W (ae Γ b ρ) M1 fun y M2=>W (mnE y x) M2 Q:=by delta W;simp only[A3,au]
theorem Wf{k:Nat}:W (mnE y (.ob k)) M Q=∃ds,M[k]?=some (.lst ds)/\ds.isEmpty=true/\Q y M:=by
 show W (getL k >>= fun ds=>need _ >>= fun _=>pure _) M Q=_;delta W;simp only[au,dP,cI,aX]
theorem uH{Γ:Ctx}:∀o f e ρ,bc Γ (.setF o f e) ρ=(do let v<-ae Γ e ρ;let x<-ae Γ o ρ;setF Γ.hc f v x;pure (.nx ρ)):=fun _ _ _ _=>rfl
theorem Js{f:Str}{F:Fl->MH->Prop}:W (bc Γ (.setF a f c) ρ) M F=W (ae Γ c ρ) M fun v M1=>W (ae Γ a ρ) M1 fun x M2=>W (setF Γ.hc f v x) M2 fun _ M3=>F (.nx ρ) M3:=by delta W;simp only[uH,au,aX]
theorem SE{C k:Nat}{f:Str}{v:D}{U:Unit->MH->Prop}:W (setF C f v (.ob k)) M U=∃fs,M[k]?=some (.ins C fs)/\fs.length<100/\U () (M.set k (.ins C (putD f v fs))):=by
 show W (iT k >>= fun p=>need _ >>= fun _=>du _ _) M U=_;rw[ar,w_getI];refine propext ⟨fun ⟨C',fs,h,q⟩=>?_,fun ⟨fs,h,q⟩=>⟨C,fs,h,?_⟩⟩
 ·rw[ar,bF,iF]at q
  obtain⟨⟨e,e2⟩,_,q⟩:=q;cases (show C'=C from e);exact⟨fs,h,e2,q⟩
 ·rw[ar,bF,iF]
  exact⟨⟨rfl,q.1⟩,(zv.mp h).1,q.2⟩
theorem Se:W (ae Γ (.intB a) ρ) M Q=W (ae Γ a ρ) M fun x M1=>∃b,bz x=some b/\Q (.int (if b then 1 else 0)) M1:=by
 delta W;simp only[uO,au,eO,aX]
theorem Sb:W (ae Γ (.revL a) ρ) M Q=W (ae Γ a ρ) M fun x M1=>W (km x) M1 fun ds M2=>Q (.ob M2.length) (M2++[.lst ds.reverse]):=by
 delta W;simp only[uM,au,eg]
theorem Tg{t:Ty}:W (ae Γ (.isI a t) ρ) M Q=W (ae Γ a ρ) M fun x M1=>W (c9 t x) M1 fun k M2=>Q (.bl k) M2:=by
 delta W;simp only[A5,au,aX]
theorem Sd{t u:Ty}:W (ae Γ (.isI2 a t u) ρ) M Q=W (ae Γ a ρ) M fun x M1=>W (c9 t x) M1 fun k M2=>W (c9 u x) M2 fun l M3=>Q (.bl (k||l)) M3:=by
 delta W;simp only[uN,au,aX]
theorem Sf{ks:List Str}:W (ae Γ (.dicS ks es) ρ) M Q=W (aS Γ es ρ) (M++[.aY []]) fun xs M1=>W (oP ks (.ob M.length) xs) M1 Q:=by
 delta W;simp only[uP,au,eg]
theorem Sk{ks:List Str}{i:Nat}{xs:List D}:W (oP ks (.ob i) xs) M Q=∃kvs,M[i]?=some (.aY kvs)/\(kvs.isEmpty=true/\ks.length=xs.length/\ks.length<=15)/\Q (.ob i) (M.set i (.aY (iP [] ((ks.map Sum.inr).zip xs)))):=by
 show W (getD i >>= fun kvs=>need _ >>= fun _=>du i _ >>= fun _=>pure _) M Q=_;rw[ar,CG];refine congrArg _ (funext fun kvs=>propext (and_congr_right fun h=>?_));rw[ar,bF,ar,iF,ak];exact and_congr_right fun _=>⟨fun q=>q.2,fun q=>⟨(zv.mp h).1,q⟩⟩
theorem QI{i j:Nat}{e:IE}:W (ae Γ (.compZ i j a b e) ρ) M Q=W (ae Γ a ρ) M fun x M1=>W (ae Γ b ρ) M1 fun y M2=>W (mR x y) M2 fun s M3=>s.ds.length<=zp/\W (dW s.c1 s.c2 (ae Γ e) ((ρ.set i none).set j none) s.ds) M3 fun ys M4=>Q (.ob M4.length) (M4++[.lst ys]):=by
 delta W;simp only[sR,au,cI,eg]
theorem SA{xs ys:List D}{Z:G9->MH->Prop}:W (mR (.tup xs) (.tup ys)) M Z=(xs.length=ys.length/\Z ⟨none,none,xs.zip ys⟩ M):=by
 show W (need _ >>= fun _=>pure _) M Z=_;rw[ar,bF,ak]
theorem SD{i j:Nat}{Z:G9->MH->Prop}:W (mR (.ob i) (.ob j)) M Z=∃xs,M[i]?=some (.lst xs)/\∃ys,M[j]?=some (.lst ys)/\xs.length=ys.length/\Z ⟨some (i,xs),some (j,ys),xs.zip ys⟩ M:=by
 show W (getL i >>= fun xs=>getL j >>= fun ys=>need _ >>= fun _=>pure _) M Z=_;delta W;simp only[au,dP,cI,aX]
theorem Jx{c1 c2:Option (Nat×List D)}{e:Ev->Mo D}{ds:List (D×D)}{L:List D->MH->Prop}(I:Nat->List D->MH->Prop)(h0:I 0 [] M)(hs:∀n ys M,I n ys M->fK c1 M/\fK c2 M)
  (h:∀(n:Nat) (p:D×D) (ys:List D) (M:MH),ds[n]?=some p->I n ys M->W (e (some p.1::some p.2::ρ)) M fun y M2=>I (n+1) (ys++[y]) M2)
  (q:∀ys M,I ds.length ys M->L ys M):W (dW c1 c2 e ρ ds) M L:=by
 suffices H:∀(r:List (D×D)) (n:Nat) (ys:List D) (M:MH),(∀j d,r[j]?=some d->ds[n+j]?=some d)->n+r.length=ds.length->I n ys M->W (dW c1 c2 e ρ r) M fun zs M'=>L (ys++zs) M' by
  simpa using H ds 0 [] M (fun j d e=>by simpa using e) (by simp) h0
 intro r;induction r with
 |nil =>
  intro n ys M _ hn hI;unfold dW;rw[ar];refine W.of (show bH c1 M=some (.ok (),M) from if_pos (hs _ _ _ hI).1) ?_;rw[ar];refine W.of (show bH c2 M=some (.ok (),M) from if_pos (hs _ _ _ hI).2) ?_;rw[ak,zJ]
  have:n=ds.length:=by simpa using hn
  exact q _ _ (this▸hI)
 |cons d r ih =>
  intro n ys M hr hn hI;unfold dW;rw[ar];refine W.of (show bH c1 M=some (.ok (),M) from if_pos (hs _ _ _ hI).1) ?_;rw[ar];refine W.of (show bH c2 M=some (.ok (),M) from if_pos (hs _ _ _ hI).2) ?_;rw[ar];have hd:ds[n]?=some d:=by simpa using hr 0 d rfl
  have hr':∀j d',r[j]?=some d'->ds[n+1+j]?=some d':=fun j d' e=>by
   have:=hr (j+1) d' (by simpa using e)
   rwa [show n+(j+1)=n+1+j by omega]at this
  have hn':n+1+r.length=ds.length:=by rw[zi]at hn;first|lia|omega
  refine(h n d ys M hd hI).mono fun y M2 Nw=>?_;rw[ar];refine(ih (n+1) (ys++[y]) M2 hr' hn' Nw).mono fun zs M3 hL=>?_;rw[ak];simpa using hL
theorem S9{m:Mt}:W (ae Γ (.mth m a es) ρ) M Q=W (ae Γ a ρ) M fun x M1=>W (iK m x) M1 fun _ M2=>W (aS Γ es ρ) M2 fun xs M3=>W (hU m x xs) M3 Q:=by
 delta W;simp only[A0,au]
theorem Wx{i j:Int}:W (eK .Pow (.int i) (.int j)) M Q=((0<=j/\j<=1000000/\i.natAbs<2 ^ 64)/\Q (.int (i ^ j.toNat)) M):=by
 show W (need _ >>= fun _=>pure _) M Q=_;rw[ar,bF,ak]
theorem Wv{t:Ty}:W (c9 t .non) M B=B false M:=ak _ M B
theorem Xe{t:Ty}{k:Bool}:W (c9 t (.bl k)) M B=B (t==.bool||t==.int) M:=ak _ M B
theorem Ww{t:Ty}{k:Int}:W (c9 t (.int k)) M B=B (t==.int) M:=ak _ M B
theorem Wu{t:Ty}{k:Str}:W (c9 t (.str k)) M B=B (t==.str) M:=ak _ M B
theorem Wt{t:Ty}{k:List D}:W (c9 t (.tup k)) M B=B (t==.tuple) M:=ak _ M B
theorem Xd{t:Ty}{k:List D}:W (c9 t (.fl k)) M B=B (t==.list) M:=ak _ M B
noncomputable def Pd(t:Ty):MO->Bool
 |.lst _=>t==.list
 |.aY _=>t==.dict
 |.ins _ _=>false
theorem QY{t:Ty}{k:Nat}:W (c9 t (.ob k)) M B=∃o,M[k]?=some o/\vG o (B (Pd t o) M):=by
 show W (getM k >>= _) M B=_;rw[ar,jC];refine congrArg _ (funext fun o=>congrArg _ ?_);cases o <;> simp[Pd,vG,ak,fu]
theorem WV{ds:List D}{L:List D->MH->Prop}:W (iQ (.tup ds)) M L=L ds M:=ak _ M L
theorem Xm{ds:List D}{L:List D->MH->Prop}:W (iQ (.fl ds)) M L=L ds M:=ak _ M L
theorem Xl{k:Nat}{L:List D->MH->Prop}:W (iQ (.ob k)) M L=∃ds,M[k]?=some (.lst ds)/\L ds M:=jD k M L
theorem Xk{ds:List D}{L:List D->MH->Prop}:W (km (.fl ds)) M L=L ds M:=ak _ M L
theorem Xj{k:Nat}{L:List D->MH->Prop}:W (km (.ob k)) M L=∃ds,M[k]?=some (.lst ds)/\L ds M:=jD k M L
theorem Sv:W (eA .list [x]) M Q=W (iQ x) M fun ds M1=>Q (.ob M1.length) (M1++[.lst ds]):=by
 show W (iQ x >>= fun ds=>bu (.lst ds)) M Q=_;delta W;simp only[au,eg]
section
variable {U:Unit->MH->Prop}
theorem sO{k:Nat}:W (iK .append (.ob k)) M U=∃ds,M[k]?=some (.lst ds)/\U () M:=by
 show W (getL k >>= fun _=>pure ()) M U=_;delta W;simp only[au,dP,aX]
theorem QS{k:Nat}:W (iK .extend (.ob k)) M U=∃ds,M[k]?=some (.lst ds)/\U () M:=sO
theorem QR{k:Nat}:W (iK .index (.ob k)) M U=∃ds,M[k]?=some (.lst ds)/\U () M:=sO
theorem QQ{k:List D}:W (iK .index (.tup k)) M U=U () M:=ak _ M U
theorem TU{k:Str}:W (iK .find (.str k)) M U=U () M:=ak _ M U
theorem TR{k:Str}:W (iK .join (.str k)) M U=U () M:=ak _ M U
end
theorem Hi{β:Type}{k:Nat}{o:MO}{r:β}{R:β->MH->Prop}{ds:List D}(h:M[k]?=some (.lst ds)):W (du k o >>= fun _=>pure r) M R=R r (M.set k o):=by
 rw[ar,iF];have e:W (pure r:Mo β) (M.set k o) R=R r (M.set k o):=ak _ _ _;rw[e];simp[aQ h]
theorem Q8{k:Nat}:W (hU .append (.ob k) [y]) M Q=∃ds,M[k]?=some (.lst ds)/\ds.length<zp/\Q .non (M.set k (.lst (ds++[y]))):=by
 show W (getL k >>= fun ds=>need _ >>= fun _=>du k _ >>= fun _=>pure D.non) M Q=_;rw[ar,jD];refine congrArg _ (funext fun ds=>propext (and_congr_right fun h=>?_));rw[ar,bF,Hi h]
theorem Q6{ds:List D}:W (hU .index (.tup ds) [y]) M Q=((bC y=true/\ds.all bC=true)/\∃j,ds.findIdx? (fun d=>eP d y)=some j/\Q (.int (j:Nat)) M):=by
 show W (need _ >>= fun _=>lift _ >>= fun j=>pure _) M Q=_;delta W;simp only[au,cI,eO,aX]
theorem Q7{k:Nat}:W (hU .index (.ob k) [y]) M Q=∃ds,M[k]?=some (.lst ds)/\(bC y=true/\ds.all bC=true)/\∃j,ds.findIdx? (fun d=>eP d y)=some j/\Q (.int (j:Nat)) M:=by
 show W (getL k >>= fun ds=>need _ >>= fun _=>lift _ >>= fun j=>pure _) M Q=_;delta W;simp only[au,dP,cI,eO,aX]
theorem m_find{s t:Str}:W (hU .find (.str s) [.str t]) M Q=Q (.int (findS s t)) M:=ak _ M Q
theorem UC{t:Str}{k:Nat}:W (hU .join (.str t) [.ob k]) M Q=∃ds,M[k]?=some (.lst ds)/\∃ys,ds.mapM sm=some ys/\(ys.map (·.length)).sum+ys.length*t.length<=16777216/\Q (.str (i5 t ys)) M:=by
 show W (getL k >>= fun ds=>lift _ >>= fun ys=>need _ >>= fun _=>pure _) M Q=_;delta W;simp only[au,dP,cI,eO,aX]
theorem Pt{k j:Nat}:W (hU .extend (.ob k) [.ob j]) M Q=∃es,M[j]?=some (.lst es)/\∃ds,M[k]?=some (.lst ds)/\(ds.length+es.length<=zp/\(j==k)=false)/\Q .non (M.set k (.lst (ds++es))):=by
 show W (getL j >>= fun es=>getL k >>= fun ds=>need _ >>= fun _=>du k _ >>= fun _=>pure D.non) M Q=_;rw[ar,jD];refine congrArg _ (funext fun es=>propext (and_congr_right fun h0=>?_));rw[ar,jD];refine exists_congr fun ds=>and_congr_right fun h=>?_;rw[ar,bF,Hi h];rfl
theorem RZ{F:Fl->MH->Prop}:W (bc Γ .halt ρ) M F=False:=fu M F
end
section
variable {α:Type}{a b c d e f g:α}{l:List α}
theorem VW:dA (a::l) 0=some a:=by simp[dA,ow]
theorem VU:dA (a::b::l) 1=some b:=bY (j:=1) rfl
theorem at2:dA (a::b::c::l) 2=some c:=bY (j:=2) rfl
theorem X0:dA (a::b::c::d::l) 3=some d:=bY (j:=3) rfl
theorem XZ:dA (a::b::c::d::e::l) 4=some e:=bY (j:=4) rfl
end
theorem oQ{α:Type}(xs:List α){v:Int}(h:0<=v):cutD xs none (some v)=xs.take v.toNat:=by
 unfold cutD;simp only[dh];rw[if_neg (by first|lia|omega),xS,xz]
 by_cases h2:v.toNat<=xs.length
 ·rw[wL h2]
 ·rw[wE (by first|lia|omega),zU,xy (by first|lia|omega)]
theorem NL{α:Type}(xs:List α){v:Int}(h:0<=v):cutD xs (some v) none=xs.drop v.toNat:=by
 unfold cutD;simp only[dh];rw[if_neg (by first|lia|omega)]
 by_cases h2:v.toNat<=xs.length
 ·rw[wL h2,xy (by rw[zZ];exact zr _)]
 ·rw[wE (by first|lia|omega),yF,List.drop_of_length_le (by first|lia|omega)]
  simp
noncomputable def fH:Nat->D->Bool
 |0,_=>false
 |n+1,.tup ds=>ds.all (fH n)
 |_+1,d=>bC d
noncomputable def oO:Nat->aI->aI
 |0,s=>s
 |n+1,.cons _ r=>oO n r
 |_+1,.nil=>.nil
theorem VR{s:aI}:oO 0 s=s:=rfl
noncomputable def ui:Nat->aI->aI->aI
 |0,_,t=>t
 |n+1,.cons s r,t=>.cons s (ui n r t)
 |_+1,.nil,t=>t
theorem W8{s t:aI}:ui 0 s t=t:=rfl
theorem W7{n:Nat}{s:IS}{r t:aI}:ui (n+1) (.cons s r) t=.cons s (ui n r t):=rfl
theorem O6:∀(n:Nat) (b:aI),b=ui n b (oO n b)
 |0,_=>rfl
 |n+1,.cons s r=>congrArg _ (O6 n r)
 |_+1,.nil=>rfl
theorem VQ{n:Nat}{s:IS}{r:aI}:oO (n+1) (.cons s r)=oO n r:=rfl
end L3
namespace L3
open PySem
section
variable {Γ:Ctx}{ρ:Ev}{M:MH}{Q:D->MH->Prop}{x y v:D}{a:IE}{s1:aI}{U:Unit->MH->Prop}{B:Bool->MH->Prop}{S:Src->MH->Prop}{F:Fl->MH->Prop}
theorem wp_seq:W (kc Γ (.seq a) ρ) M S=W (ae Γ a ρ) M fun x M1=>W (eX x) M1 S:=by delta W;simp only[AQ,au]
theorem RU{ds:List D}:W (rF (.fl ds)) M S=S ⟨none,kF ds⟩ M:=ak _ M S
theorem R5{i j:Nat}{it:IP}:W (bc Γ (.forP i j it s1) ρ) M F=W (kc Γ it ρ) M fun s M1=>W (eG s.ck i j (aq Γ s1) s.ds ρ) M1 F:=by delta W;simp only[uJ,au]
theorem R6{is:List Nat}:W (bc Γ (.forN is a s1) ρ) M F=W (ae Γ a ρ) M fun x M1=>W (eX x) M1 fun s M2=>W (dg s.ck is (aq Γ s1) s.ds ρ) M2 F:=by delta W;simp only[uK,au]
theorem Jw{ck:Option (Nat×List D)}{is:List Nat}{body:Ev->Mo Fl}{ds:List D}(I:Nat->Ev->MH->Prop)(h0:I 0 ρ M)(hs:∀n ρ M,I n ρ M->fK ck M)
  (h:∀(n:Nat) (d:D) (ρ:Ev) (M:MH),ds[n]?=some d->I n ρ M->∃xs ρ1,d=.tup xs/\gP is xs ρ=some ρ1/\W (body ρ1) M (kn I F n))
  (q:∀ρ M,I ds.length ρ M->F (.nx ρ) M):W (dg ck is body ds ρ) M F:=by
 suffices H:∀(r:List D) (n:Nat) (ρ:Ev) (M:MH),(∀j d,r[j]?=some d->ds[n+j]?=some d)->n+r.length=ds.length->I n ρ M->W (dg ck is body r ρ) M F from
  H ds 0 ρ M (fun j d e=>by simpa using e) (by simp) h0
 intro r;induction r with
 |nil =>
  intro n ρ M _ hn hI;unfold dg;rw[ar];refine W.of (show bH ck M=some (.ok (),M) from if_pos (hs _ _ _ hI)) ?_;rw[ak]
  have:n=ds.length:=by simpa using hn
  exact q _ _ (this▸hI)
 |cons d r ih =>
  intro n ρ M hr hn hI;unfold dg;rw[ar];refine W.of (show bH ck M=some (.ok (),M) from if_pos (hs _ _ _ hI)) ?_;have hd:ds[n]?=some d:=by simpa using hr 0 d rfl
  have hr':∀j d',r[j]?=some d'->ds[n+1+j]?=some d':=fun j d' e=>by
   have:=hr (j+1) d' (by simpa using e)
   rwa [show n+(j+1)=n+1+j by omega]at this
  have hn':n+1+r.length=ds.length:=by rw[zi]at hn;first|lia|omega
  obtain⟨xs,ρ1,rfl,hb,hw⟩:=h n d ρ M hd hI;rw[ar,dj];refine⟨xs,rfl,?_⟩;rw[ar,dj];refine⟨ρ1,hb,?_⟩;rw[ar];refine hw.mono fun f M1 hf=>?_;cases f with
  |nx ρ'=>exact ih (n+1) ρ' M1 hr' hn' hf
  |ct ρ'=>exact ih (n+1) ρ' M1 hr' hn' hf
  |bk ρ'=>exact(ak _ _ _).mpr hf
  |rt v=>exact(ak _ _ _).mpr hf
noncomputable def QL:MO->Bool
 |.lst ds=>!ds.isEmpty
 |.aY kvs=>!kvs.isEmpty
 |.ins _ _=>false
theorem Wn{ds:List D}:QL (.lst ds)=!ds.isEmpty:=rfl
theorem Jv{ck:Option (Nat×List D)}{i j:Nat}{body:Ev->Mo Fl}{ds:List D}(I:Nat->Ev->MH->Prop)(h0:I 0 ρ M)(hs:∀n ρ M,I n ρ M->fK ck M)
  (h:∀(n:Nat) (d:D) (ρ:Ev) (M:MH),ds[n]?=some d->I n ρ M->∃x y,d=.tup [x,y]/\W (body ((ρ.set i (some x)).set j (some y))) M (kn I F n))
  (q:∀ρ M,I ds.length ρ M->F (.nx ρ) M):W (eG ck i j body ds ρ) M F:=by
 suffices H:∀(r:List D) (n:Nat) (ρ:Ev) (M:MH),(∀j d,r[j]?=some d->ds[n+j]?=some d)->n+r.length=ds.length->I n ρ M->W (eG ck i j body r ρ) M F from
  H ds 0 ρ M (fun j d e=>by simpa using e) (by simp) h0
 intro r;induction r with
 |nil =>
  intro n ρ M _ hn hI;unfold eG;rw[ar];refine W.of (show bH ck M=some (.ok (),M) from if_pos (hs _ _ _ hI)) ?_;rw[ak]
  have:n=ds.length:=by simpa using hn
  exact q _ _ (this▸hI)
 |cons d r ih =>
  intro n ρ M hr hn hI;unfold eG;rw[ar];refine W.of (show bH ck M=some (.ok (),M) from if_pos (hs _ _ _ hI)) ?_;have hd:ds[n]?=some d:=by simpa using hr 0 d rfl
  have hr':∀j d',r[j]?=some d'->ds[n+1+j]?=some d':=fun j d' e=>by
   have:=hr (j+1) d' (by simpa using e)
   rwa [show n+(j+1)=n+1+j by omega]at this
  have hn':n+1+r.length=ds.length:=by rw[zi]at hn;first|lia|omega
  obtain⟨x,y,rfl,hw⟩:=h n d ρ M hd hI;rw[ar,dj];refine⟨(x,y),rfl,?_⟩;rw[ar];refine hw.mono fun f M1 hf=>?_;cases f with
  |nx ρ'=>exact ih (n+1) ρ' M1 hr' hn' hf
  |ct ρ'=>exact ih (n+1) ρ' M1 hr' hn' hf
  |bk ρ'=>exact(ak _ _ _).mpr hf
  |rt v=>exact(ak _ _ _).mpr hf
end
end L3
namespace L3
open PySem
section
variable {Γ:Ctx}{ρ:Ev}{M:MH}{Q:D->MH->Prop}{d:D}{e:IE}{r:aI}{F:Fl->MH->Prop}{y o0 o1 o2 o3 o4 o5 o6 o7 o8 o9 fm il kK qy HN:Option D}
theorem v0_:W (ae Γ (.var 0) (some d::ρ)) M Q=Q d M:=by rw[cv];simp
theorem v1_:W (ae Γ (.var 1) (o0::some d::ρ)) M Q=Q d M:=by rw[cv];simp
theorem v2_:W (ae Γ (.var 2) (o0::o1::some d::ρ)) M Q=Q d M:=by rw[cv];simp
theorem v3_:W (ae Γ (.var 3) (o0::o1::o2::some d::ρ)) M Q=Q d M:=by rw[cv];simp
theorem v4_:W (ae Γ (.var 4) (o0::o1::o2::o3::some d::ρ)) M Q=Q d M:=by rw[cv];simp
theorem v5_:W (ae Γ (.var 5) (o0::o1::o2::o3::o4::some d::ρ)) M Q=Q d M:=by rw[cv];simp
theorem v6_:W (ae Γ (.var 6) (o0::o1::o2::o3::o4::o5::some d::ρ)) M Q=Q d M:=by rw[cv];simp
theorem v7_:W (ae Γ (.var 7) (o0::o1::o2::o3::o4::o5::o6::some d::ρ)) M Q=Q d M:=by rw[cv];simp
theorem v8_:W (ae Γ (.var 8) (o0::o1::o2::o3::o4::o5::o6::o7::some d::ρ)) M Q=Q d M:=by rw[cv];simp
theorem v9_:W (ae Γ (.var 9) (o0::o1::o2::o3::o4::o5::o6::o7::o8::some d::ρ)) M Q=Q d M:=by rw[cv];simp
theorem v10_:W (ae Γ (.var 10) (o0::o1::o2::o3::o4::o5::o6::o7::o8::o9::some d::ρ)) M Q=Q d M:=by rw[cv];simp
theorem v11_:W (ae Γ (.var 11) (o0::o1::o2::o3::o4::o5::o6::o7::o8::o9::fm::some d::ρ)) M Q=Q d M:=by rw[cv];simp
theorem v12_:W (ae Γ (.var 12) (o0::o1::o2::o3::o4::o5::o6::o7::o8::o9::fm::il::some d::ρ)) M Q=Q d M:=by rw[cv];simp
theorem v13_:W (ae Γ (.var 13) (o0::o1::o2::o3::o4::o5::o6::o7::o8::o9::fm::il::kK::some d::ρ)) M Q=Q d M:=by rw[cv];simp
theorem v14_:W (ae Γ (.var 14) (o0::o1::o2::o3::o4::o5::o6::o7::o8::o9::fm::il::kK::qy::some d::ρ)) M Q=Q d M:=by rw[cv];simp
theorem v15_:W (ae Γ (.var 15) (o0::o1::o2::o3::o4::o5::o6::o7::o8::o9::fm::il::kK::qy::HN::some d::ρ)) M Q=Q d M:=by rw[cv];simp
theorem s0_:W (aq Γ (.cons (.set 0 e) r) (y::ρ)) M F=W (ae Γ e (y::ρ)) M fun x M1=>W (aq Γ r (some x::ρ)) M1 F:=by rw[bL,cu];rfl
theorem s1_:W (aq Γ (.cons (.set 1 e) r) (o0::y::ρ)) M F=W (ae Γ e (o0::y::ρ)) M fun x M1=>W (aq Γ r (o0::some x::ρ)) M1 F:=by rw[bL,cu];rfl
theorem s2_:W (aq Γ (.cons (.set 2 e) r) (o0::o1::y::ρ)) M F=W (ae Γ e (o0::o1::y::ρ)) M fun x M1=>W (aq Γ r (o0::o1::some x::ρ)) M1 F:=by rw[bL,cu];rfl
theorem s3_:W (aq Γ (.cons (.set 3 e) r) (o0::o1::o2::y::ρ)) M F=W (ae Γ e (o0::o1::o2::y::ρ)) M fun x M1=>W (aq Γ r (o0::o1::o2::some x::ρ)) M1 F:=by rw[bL,cu];rfl
theorem s4_:W (aq Γ (.cons (.set 4 e) r) (o0::o1::o2::o3::y::ρ)) M F=W (ae Γ e (o0::o1::o2::o3::y::ρ)) M fun x M1=>W (aq Γ r (o0::o1::o2::o3::some x::ρ)) M1 F:=by rw[bL,cu];rfl
theorem s5_:W (aq Γ (.cons (.set 5 e) r) (o0::o1::o2::o3::o4::y::ρ)) M F=W (ae Γ e (o0::o1::o2::o3::o4::y::ρ)) M fun x M1=>W (aq Γ r (o0::o1::o2::o3::o4::some x::ρ)) M1 F:=by rw[bL,cu];rfl
theorem s6_:W (aq Γ (.cons (.set 6 e) r) (o0::o1::o2::o3::o4::o5::y::ρ)) M F=W (ae Γ e (o0::o1::o2::o3::o4::o5::y::ρ)) M fun x M1=>W (aq Γ r (o0::o1::o2::o3::o4::o5::some x::ρ)) M1 F:=by rw[bL,cu];rfl
theorem s7_:W (aq Γ (.cons (.set 7 e) r) (o0::o1::o2::o3::o4::o5::o6::y::ρ)) M F=W (ae Γ e (o0::o1::o2::o3::o4::o5::o6::y::ρ)) M fun x M1=>W (aq Γ r (o0::o1::o2::o3::o4::o5::o6::some x::ρ)) M1 F:=by rw[bL,cu];rfl
theorem s8_:W (aq Γ (.cons (.set 8 e) r) (o0::o1::o2::o3::o4::o5::o6::o7::y::ρ)) M F=W (ae Γ e (o0::o1::o2::o3::o4::o5::o6::o7::y::ρ)) M fun x M1=>W (aq Γ r (o0::o1::o2::o3::o4::o5::o6::o7::some x::ρ)) M1 F:=by rw[bL,cu];rfl
theorem s9_:W (aq Γ (.cons (.set 9 e) r) (o0::o1::o2::o3::o4::o5::o6::o7::o8::y::ρ)) M F=W (ae Γ e (o0::o1::o2::o3::o4::o5::o6::o7::o8::y::ρ)) M fun x M1=>W (aq Γ r (o0::o1::o2::o3::o4::o5::o6::o7::o8::some x::ρ)) M1 F:=by rw[bL,cu];rfl
theorem s10_:W (aq Γ (.cons (.set 10 e) r) (o0::o1::o2::o3::o4::o5::o6::o7::o8::o9::y::ρ)) M F=W (ae Γ e (o0::o1::o2::o3::o4::o5::o6::o7::o8::o9::y::ρ)) M fun x M1=>W (aq Γ r (o0::o1::o2::o3::o4::o5::o6::o7::o8::o9::some x::ρ)) M1 F:=by rw[bL,cu];rfl
theorem s11_:W (aq Γ (.cons (.set 11 e) r) (o0::o1::o2::o3::o4::o5::o6::o7::o8::o9::fm::y::ρ)) M F=W (ae Γ e (o0::o1::o2::o3::o4::o5::o6::o7::o8::o9::fm::y::ρ)) M fun x M1=>W (aq Γ r (o0::o1::o2::o3::o4::o5::o6::o7::o8::o9::fm::some x::ρ)) M1 F:=by rw[bL,cu];rfl
theorem s12_:W (aq Γ (.cons (.set 12 e) r) (o0::o1::o2::o3::o4::o5::o6::o7::o8::o9::fm::il::y::ρ)) M F=W (ae Γ e (o0::o1::o2::o3::o4::o5::o6::o7::o8::o9::fm::il::y::ρ)) M fun x M1=>W (aq Γ r (o0::o1::o2::o3::o4::o5::o6::o7::o8::o9::fm::il::some x::ρ)) M1 F:=by rw[bL,cu];rfl
theorem s13_:W (aq Γ (.cons (.set 13 e) r) (o0::o1::o2::o3::o4::o5::o6::o7::o8::o9::fm::il::kK::y::ρ)) M F=W (ae Γ e (o0::o1::o2::o3::o4::o5::o6::o7::o8::o9::fm::il::kK::y::ρ)) M fun x M1=>W (aq Γ r (o0::o1::o2::o3::o4::o5::o6::o7::o8::o9::fm::il::kK::some x::ρ)) M1 F:=by rw[bL,cu];rfl
theorem s14_:W (aq Γ (.cons (.set 14 e) r) (o0::o1::o2::o3::o4::o5::o6::o7::o8::o9::fm::il::kK::qy::y::ρ)) M F=W (ae Γ e (o0::o1::o2::o3::o4::o5::o6::o7::o8::o9::fm::il::kK::qy::y::ρ)) M fun x M1=>W (aq Γ r (o0::o1::o2::o3::o4::o5::o6::o7::o8::o9::fm::il::kK::qy::some x::ρ)) M1 F:=by rw[bL,cu];rfl
theorem s15_:W (aq Γ (.cons (.set 15 e) r) (o0::o1::o2::o3::o4::o5::o6::o7::o8::o9::fm::il::kK::qy::HN::y::ρ)) M F=W (ae Γ e (o0::o1::o2::o3::o4::o5::o6::o7::o8::o9::fm::il::kK::qy::HN::y::ρ)) M fun x M1=>W (aq Γ r (o0::o1::o2::o3::o4::o5::o6::o7::o8::o9::fm::il::kK::qy::HN::some x::ρ)) M1 F:=by rw[bL,cu];rfl
end
end L3
local macro_rules|`(tactic| walk_at $s:str)=>do
 unless s.getString=="wp"||s.getString=="ws" do Lean.Macro.throwUnsupported
 let a<-(("v0_ v1_ v2_ v3_ v4_ v5_ v6_ v7_ v8_ v9_ v10_ v11_ v12_ v13_ v14_ v15_ s0_ s1_ s2_ s3_ s4_ s5_ s6_ s7_ s8_ s9_ s10_ s11_ s12_ s13_ s14_ s15_".splitOn " ").toArray.map fun s=>Lean.mkIdent (`L3++s.toName)).mapM fun i=>`(Lean.Parser.Tactic.simpLemma| ↓ $i:ident)
 let b<-((("WR To Wi Hh Te SY SR Wc SU We Td Wf Js SE Wm SW WS WT WQ Xh Xi wp_seq RU R5 Wn ar ak cv Th Wj SX SQ Tn Ts Tq Si Tt Ti SO Tf Sg Tj SV Sj Tr Sh Sb Se S8 Tg Sd Sf Sk QI SA SD R6 TU m_find S9 RZ Sa QH R9 R8 SG RV Tw Tu Tv Tz Wk QK QJ Us Ur Uu Ut SJ bL cu QG RW SF R7 SI RX RY SN SM Od SK VL VJ Ug Ub Ud Uc Ue WO WA WM WL WN Wy Wz Wx WC WE WJ WK WD WB Xg Sq WH WG WI KU Xf Su WW Xq WX WY WZ Xp Wq Om Fh V9 Wa W9 V8 UN UO UK UL UM UP UJ Sv WV Xm Xl Xk Xj Wv Xe Ww Wu Wt Xd sO QS QR QQ TR Q8 Q6 Q7 UC Pt VW VU at2 X0 XZ k_all WU Wb Xa Wg Xb Wo Xr dj bF rW jD jC UH UI D.int.injEq D.bl.injEq D.ob.injEq MO.lst.injEq MO.aY.injEq".replace " Od " (if s.getString=="wp" then " Od " else " SH Wr Ws ")).splitOn " ").toArray.map fun s=>Lean.mkIdent (`L3++s.toName)).mapM fun i=>`(Lean.Parser.Tactic.simpLemma| $i:ident)
 let c<-(("List.getElem?_cons_zero List.getElem?_cons_succ List.set_cons_zero List.set_cons_succ Option.some.injEq exists_eq_left' List.map_cons List.map_nil List.cons_append List.nil_append List.replicate_succ List.replicate_zero List.length_cons List.length_nil true_and and_true Nat.reduceAdd Nat.reduceSub".splitOn " ").toArray.map fun s=>Lean.mkIdent s.toName).mapM fun i=>`(Lean.Parser.Tactic.simpLemma| $i:ident)
 let l:=a++b++c
 `(tactic| try simp only[$l,*])
local macro_rules|`(tactic| walk_at "wq")=>`(tactic| (walk_at "wp";try simp only[xq,wP,yo,wl,false_implies,true_implies,implies_true,true_and,and_true]))
local macro_rules|`(tactic| walk_at "wr")=>`(tactic| (walk_at "ws";try simp only[xq,wP,yo,wl,false_implies,true_implies,implies_true,true_and,and_true]))
local macro_rules|`(tactic| walk_at "o")=>`(tactic| first|decide|exact L3.vK (by decide)|with_reducible exact Int.add_nonneg (by assumption) (by decide)|with_reducible exact L3.Xz (by assumption) (by with_reducible decide)|lia|omega)
namespace L3
open PySem
noncomputable def TY(p:Str×Str):D:=.tup [.str p.1,.str p.2]
noncomputable def TJ:D->Str×Str
 |.tup [.str a,.str b]=>(a,b)
 |_=>("","")
noncomputable def look(ps:List (Str×Str))(n:Str):Option Str:=(ps.find? fun p=>decide (p.1=n)).map (·.2)
theorem Sl(p:Str×Str):TJ (TY p)=p:=rfl
end L3
namespace Law
open PySem L3
noncomputable def gl(_:Str):Option D:=none
open Lean in
def pI(t:List String)(p:List Term×List Char)(c:Char):List Term×List Char :=
 let (l,a):=p
 let q:=c=='`'
 if a.isEmpty then
  if q then (l,[c]) else if c.isDigit then (quote (c.toNat-48)::l,a) else
  let j:=t.idxOf c.toString
  let k:=(t.getD (j+2) "").toNat!
  let x:Term:=⟨mkNode `Lean.Parser.Term.dotIdent #[mkAtom ".",mkIdent (.mkSimple (t.getD (j+1) ""))]⟩
  ((if k==0 then x else Syntax.mkApp x (l.take k).reverse.toArray)::l.drop k,a)
 else if q then
  let s:=String.ofList a.tail
  ((match a with
   |_::'#'::r=>quote (String.ofList r).toNat!
   |_::'~'::r=>quote ("_law_"++String.ofList r)
   |_=>quote s)::l,[])
 else (l,a++[c])
local macro_rules|`(tactic| walk_at $s:str)=>do
 unless s.getString.startsWith "!" do Lean.Macro.throwUnsupported
 `(tactic| exact $((s.getString.toList.tail.foldl (pI ("[ cons 2 ] nil 0 a var 1 b cint 1 c idx 2 d call 2 e set 2 f bin 3 g ret 1 h cmp 3 i cmp 1 j Add 0 k blt 2 l some 1 m lst 1 n none 0 o seq 1 p ifS 3 q tup 1 r fld 2 s cstr 1 t slc 3 u comp 4 v Eq 0 w expr 1 x len 0 y mth 3 z list 0 A setF 3 B forS 3 C tru 1 D cnon 0 E and 2 F Lt 0 G halt 0 H mcl 3 I tuple 0 J isI 2 K Mod 0 L or 2 M append 0 N cbl 1 O cmp2 5 P LtE 0 Q not 1 R Is 0 S rng1 1 T false 0 U Sub 0 V Gt 0 W extend 0 X In 0 Y setIx 3 Z Pow 0 ! bool 0 # FloorDiv 0 $ IsNot 0 % neg 1 & intB 1 * isI2 3 + NotEq 0 , str 0 . setP 3 / rz 0 : any 0 ; index 0 < dic0 0 = NotIn 0 > ifE 3 ? srE 1 @ sortL 1 ^ ssE 1 _ max2 0 | mnE 2 α whileS 2 β GtE 0 γ join 0 δ find 0 ε dicS 2 ζ revL 1 η all 0 θ compZ 5 ι int 0 κ forN 3 λ new 1 μ forP 4 ν rfs 1 ξ true 0".splitOn " ")) ([],[])).1.headD default))
noncomputable def jc:aI:=by walk_at "!20a0bce2aK#U1a0a1bcf0a2bcfx2a][kfcg][["
noncomputable def je:aI:=by walk_at "!30ae41aoPF4a2bc2a4a3bcOiX3a4an2blthiE3v3a4a0bchi4a1bc4a0bc>e][]p][B3ag][[["
noncomputable def jg:aI:=by walk_at "!:31aonv0a0bc1ahPF0a1bc3a0a2bcOEu][kg]["
noncomputable def ji:aI:=by walk_at "!40a0bce5;4a`swapped``turn_of`0a3a][[d1a3a][[[d][ye6j4a5alnt4an5altfo`is_away`6a2a3a][[[dCQ6ag][]p][BDg][[[["
noncomputable def dz:aI:=by walk_at "!20aov2a0bc1ahi2a1bcg][]p][BDg][["
noncomputable def jj:aI:=by walk_at "!563aov0a0bc1ahil0a1blntue`hand_on``rota_named`2a0a][[d5a4a1a][[[[dg][["
noncomputable def ux:aI:=by walk_at "!P0a3bc1ahR0a4bcDhV0a4bc1ahLEg]["
noncomputable def oW:aI:=by walk_at "!PF0a2bc1a0a3bcOg]["
noncomputable def jf:aI:=by walk_at "!581ao`stands`0a5a][[dCl0aue6`#10`2ao`in_force`0a5a][[dCl0aue7<e85aoG][B97a?onj0a8a0ac@][qfug][[[[["
noncomputable def kI:aI:=by walk_at "!5<e61ao5a6an2blt6aY][B7]me8]me9`#11`2ao0a2bcCl0auoGGGM7a6a][yw][[[[B7a8a][[qg][[[[[["
noncomputable def eI:aI:=by walk_at "!360a4bcon0a0bcue40a0bcoW3a4a3blnt][yw][B50a1bcoW3a5a2blnt][yw][B63ao$0aDhiFF2a0a3aOiEl0au^g][[[["
noncomputable def gQ:aI:=by walk_at "!452aoV0a1ahil0aueW4a51ao$0a4bcDhil_0a4bcj1a1bf][[ku][yw4a3a|g][[["
noncomputable def fT:aI:=by walk_at "!561a4bcov0a0bc5ahil0a1blntue`closed`0a2a3a5a4a][[[[[dg][["
noncomputable def oX:aI:=by walk_at "!Gjj1a][q0an3bltf6a0a3bc][[qfg][["
noncomputable def iz:aI:=by walk_at "!8`edges_within`4a6a7a][[[de95ae`#10`]me`#11`]me`#12`6aeF`#12`a7ahiv`#12`a6ahiX`#12`a8ahiL`#11``members`0a4a0bc4a1bc2a`#12`a][[[[[de`#13``all_closed`0a4a9a`#11`a`#12`a][[[[[de][[G][p9`#13`a0bceW`#10`a`#14``#13`a1bcon`entry_of`0a`#13`a1a2a5a4a][[[[[[du][yw`#12``next_turn``#12`a9a8a7a][[[[de][[[[α9a`#10`a][[qg][[[[[[["
noncomputable def eT:aI:=by walk_at "!F0a1ahiG][]p]["
noncomputable def dM:aI:=by walk_at "!β1a2ahiG][]pF1a0ahiG][]p][["
noncomputable def gT:aI:=by walk_at "!20a1bce0a1bj2a1bfYvx0a0bc][k0bhi0bg][]pKj0a0bcK2ax0a0bc][kfc#2ax0a0bc][kff1afg][[[["
noncomputable def fV:aI:=by walk_at "!2γ``s6j1b`~draw`0a5b][[dfSn2a`~draw`1ax2a][k][[dcu][ye3jjδ1a2a1b%c][y1bf`~draw`0aUx1a][k1bf][[dfe41aK3ax1a][kfce51a`~draw`0ax1a][k][[dce2aj2an1b%lt4afj2a5afjj2an1b%lt4af5af][[[[mg][[[[["
noncomputable def fU:aI:=by walk_at "!1`abcdefghijklmnopqrstuvwxyz`se2`names``values`][[`~words`0a1a][[dn3blt`~words`0aj1a`0123456789`sf][[d][[εe3`~words`0a1a][[de2a`rotas`s3an3bltY2a`hands`s`~words`0a1a][[d3aζ][[mv`~draw`0a4b][[d3bh&cY2ag][[[[[["
noncomputable def eU:aI:=by walk_at "!21a`names`sc`~draw`0a3b][[dce3`~draw`0a7b][[deV3a4bhi`there`s`lacks`s][[mU3a5bfc2a]q][[[qg][]p4`~draw`0a3b][[de51a`values`scn3blt4aljj4a1bf`~draw`0a2b][[dflte`is`s`is`s`is`s`no`s`no`s][[[[[m3ac2aI5a][k][[[qg][[[[[["
noncomputable def eJ:aI:=by walk_at "!I21b0b1b2b][[[[m`~draw`0a4b][[dcSn`~asking`1a2a][[du][kg]["
noncomputable def fX:aI:=by walk_at "!v`~draw`0a`#12`b][[d`#11`bhij1b`~draw`0aZ`#10`b9bf][[dfg][]pj1b`~draw`0a5b][[dfg][["
noncomputable def iA:aI:=by walk_at "!31a`names`sce4]q3a0bc][q3a2bc3a1bc][[q3a1bc][qI3a][k][[[[[m`~draw`0a5b][[dce5I91b2b0b1b3b][[[[[m`~draw`0a5b][[dcSn2a`rotas`sc`~draw`1a3b][[dcu][ke6]meV2a0bhi692b1b0b][[[m`~draw`0a3b][[dcSn`~row`1a2aU3a1bf][[[due][]p7v`~draw`0a3b][[d2bhe8`~count`0a][d`~count`0a][d][[qejj`~askings`0a1a][[d7a4a][[[q8af5aI6a][k][[qfg][[[[[[[["
noncomputable def fW:aI:=by walk_at "!2]me31a`rotas`sco4`~draw`0a4b][[de5j1a`hands`sc1a`hands`scfe65a4aljj4a1bf`~draw`0a3b][[dflte71b3bj1b`~draw`0aZ`#10`b6bf][[df][[[m`~draw`0a3b][[dceM2a3aI6a][k`~draw`0a`#20`b][[d7a][[[q][[q][yw][[[[[B2ag][[["
noncomputable def bt:aI:=by walk_at "!1azI*C0azI*CQ+0azJ1azJhiLTNg][]p+x0a][kx1a][khiTNg][]pη220a1a`~alike`0a1a][[dθ][kg][[[]pR1aDhiR0aDhiLR1aDhR0aDhEg][]p1a!JC0a!JCL1a!J0a!Jv0a1ahEEg][]p0aι,*CQ+0a,J1a,JhiLTNg][]pv0a1ahg][[[[["
noncomputable def jy:aI:=by walk_at "!4z0a0bc][ke5K#U3a0a1bcf0a2bcfx4a][kfe64a5ace789`#10`][[[[1aPF9a3a`#10`aOiX6a7a8a][[qhiE67a8a][[mv6a7ah&ce][]p][κ5;4a6a][ye`#11`x4a][kS64aKj5a`#11`afx4a][kfcev72aov0a0bc7ahiPF0a1bc4a0a2bcOiEl0au]mhi6ag][]p][[BDg][[[[[[["
noncomputable def gS:aI:=by walk_at "!2j1a`~draw`0a4b][[dfe2ajj2a1bf`~draw`0a`#12`b][[d`~draw`0aZ`#10`b9bf][[d][[mv`~draw`0a6b][[d5bh&cf][[qg][["
noncomputable def gR:aI:=by walk_at "!672a`~draw`0a3b][[dc.8`~draw`0ax7a0bc][k][[de97a0bcKj8a1bfx7a0bc][kfce`#10``#11``~span`0a5a][[d.v`~draw`0a2b][[d0bhiVx7a0bc][k1bhiEM3a6a7a0bc8ac9a`#10`a`#11`a][[[[[q][yw1a`swap`5a6a7a0bc8ac9a`#10`a`#11`a][[[[[[Hg][[]pM4a7a0bc8ac`#10`a`#11`a][[[q][yw1a`away`5a7a0bc8ac`#10`a`#11`a][[[[Hg][[[[[[["
noncomputable def rK:aI:=by walk_at "!10an`#84`blt0b][[me2`~world`1a][de3`~rotas`1a2a][[de4`~row`1a2a0b][[[dz3a][k]m2a`hands`sc0bc][[[[λe5]me6]me7]me80be9j2b`~draw`1a9b][[dfS8j8a`~draw`1a7b][[dfe$`~told`1a4a3a5a6a8a][[[[[[dDhiTNg][]p`#10`7ae7]me`#11``~draw`1a`#60`b][[dj8a`~draw`1a8b][[df`~draw`1aZ`#10`b`#12`bf][[d][[[moM7a`~draw`1a3b][[d`#11`a][[q][yw][B`#12``#11`j`#10`a7afo`#13``#14`3a`#12`ac.`#15``~on``#14`a`#16`5aov0a0bc`#14`ahil0a1blntu6a`#11`a][[[[de`~alike`4a`on_duty``#13`a`#11`a][[H`#15`a][[dCQTNg][]p][[[μ4aj3a0bc0bc`zz`sf8a][[[νCQTNg][]p][[[[[[[BξNg][[[[[[[[[["
noncomputable def dN:aI:=by walk_at "!0a`tree`1aA0a`rotas`z2a][kA0a`rules`z3a][kA0a`top`4aA0a`turn`0bA0a`sayings`]mA0a`quietings`]mA0a`swaps`]mA0a`absences`]mA0a`answers`]mA0a`entries`]mA0a`last_states`]mA][[[[[[[[[[[["
noncomputable def fY:aI:=by walk_at "!`refuse_late`1a0a`turn`r][[dw70a`known_rota`2a][He=3a7a0bchi=4a7a0bchiL/][]pv3a4ahiG][]p`refuse_stretch`1a5a6a][[[dw0a`go_on`1a0a`reckoned_to`1a][H][[HwM0a`swaps`r2a3a4a5a6a][[[[[q][yw][[[[[[["
noncomputable def fZ:aI:=by walk_at "!`refuse_late`1a0a`turn`r][[dw:50a`rotas`ronX3a0a1bc0bchu][kCQ/][]p`refuse_stretch`1a3a4a][[[dw0a`go_on`1a0a`reckoned_to`1a][H][[HwM0a`absences`r2a3a4a][[[q][yw][[[[["
noncomputable def mM:aI:=by walk_at "!0a`turn`rg]["
noncomputable def ee:aI:=by walk_at "!z0a`sayings`r][kz0a`quietings`r][kz0a`swaps`r][kz0a`absences`r][kz0a`answers`r][k][[[[[qg]["
noncomputable def jY:aI:=by walk_at "!10a`last_states`ronjj0an2bltz0a2bc][k][qf0a3blntfug]["
noncomputable def cY:aI:=by walk_at "!0a`known_rota`1a][Hw`hand_by`1a2a0a`rotas`r0a`swaps`r0a`absences`r][[[[[dg][["
noncomputable def bQ:aI:=by walk_at "!2`rota_named`0a`rotas`r1a][[deR2aDhi/][]p2ag][[["
noncomputable def cQ:aI:=by walk_at "!20a`records`]He`reckoned`0a`tree`r0a`rotas`r0a`rules`r0a`top`r2a0a`last_states`r0a`turn`r1a][[[[[[[[dg][["
noncomputable def eV:aI:=by walk_at "!0a`last_states`2a0bcAW0a`entries`r2a1bc][yw0a`turn`1aA][[["
noncomputable def tab:List (Str×Fd):=[(("turn_of":Str),⟨3,2,jc⟩),(("swapped":Str),⟨5,3,je⟩),(("is_away":Str),⟨3,3,jg⟩),(("hand_on":Str),⟨7,4,ji⟩),(("rota_named":Str),⟨3,2,dz⟩),(("hand_by":Str),⟨6,5,jj⟩),(("stands":Str),⟨2,2,ux⟩),(("in_force":Str),⟨2,2,oW⟩),(("members":Str),⟨10,5,jf⟩),(("closed":Str),⟨11,5,kI⟩),(("edges_within":Str),⟨6,3,eI⟩),(("next_turn":Str),⟨5,4,gQ⟩),(("all_closed":Str),⟨6,5,fT⟩),(("entry_of":Str),⟨7,6,oX⟩),(("reckoned":Str),⟨14,8,iz⟩),(("refuse_late":Str),⟨2,2,eT⟩),(("refuse_stretch":Str),⟨3,3,dM⟩),(("_law_draw":Str),⟨3,2,gT⟩),(("_law_words":Str),⟨6,2,fV⟩),(("_law_world":Str),⟨4,1,fU⟩),(("_law_asking":Str),⟨6,2,eU⟩),(("_law_askings":Str),⟨2,2,eJ⟩),(("_law_count":Str),⟨1,1,fX⟩),(("_law_row":Str),⟨9,3,iA⟩),(("_law_rotas":Str),⟨8,2,fW⟩),(("_law_alike":Str),⟨2,2,bt⟩),(("_law_on":Str),⟨12,4,jy⟩),(("_law_span":Str),⟨3,2,gS⟩),(("_law_told":Str),⟨12,6,gR⟩),(("law":Str),⟨16,1,rK⟩),(("House.__init__":Str),⟨5,5,dN⟩),(("House.swap":Str),⟨8,7,fY⟩),(("House.away":Str),⟨5,5,fZ⟩),(("House.now":Str),⟨1,1,mM⟩),(("House.records":Str),⟨1,1,ee⟩),(("House.states":Str),⟨1,1,jY⟩),(("House.on_duty":Str),⟨3,3,cY⟩),(("House.known_rota":Str),⟨3,2,bQ⟩),(("House.reckoned_to":Str),⟨3,2,cQ⟩),(("House.go_on":Str),⟨3,3,eV⟩)]
section
variable {srt:Nat}
noncomputable abbrev cx(srt k:Nat):L3.Ctx:=iY tab gl (fun _=>none) (1000,srt) k
theorem aW(x:Str)(n p:Nat)(b:aI)(h:tab.lookup x=some ⟨n,p,b⟩)(k:Nat)(xs:List D):(cx srt (k+1)).fn x xs=(do need (xs.length=p);mU (cx srt k) n b xs:Mo D):=by
 show (match tab.lookup x with
  |some d=>(do need (xs.length=d.p);mU (cx srt k) d.n d.b xs:Mo D)
  |none=>Mo.stop)=_
 rw[h]
end
end Law
namespace Law
open PySem L3
section
variable {srt:Nat}
structure Gx (j:Nat) (M M':MH):Prop where
 keep:∀k o,k≠j->M[k]?=some o->M'[k]?=some o
 len:M.length<=M'.length
theorem Gx.refl{j:Nat}{M:MH}:Gx j M M:=⟨fun _ _ _ e=>e,zr _⟩
theorem Gx.trans{j:Nat}{A B C:MH}(a:Gx j A B)(b:Gx j B C):Gx j A C:=⟨fun k o h e=>b.keep k o h (a.keep k o h e),zO a.len b.len⟩
theorem Gx.of{j:Nat}{M M':MH}(g:Gr M M'):Gx j M M':=⟨fun k o _ e=>g.keep k o e,g.len⟩
theorem Gx.set{j:Nat}{A M:MH}(g:Gx j A M)(o:MO):Gx j A (M.set j o):=⟨fun k u h e=>by rw[zc (Ne.symm h)];exact g.keep k u h e,by rw[yt];exact g.len⟩
theorem Gx.snoc{j:Nat}{A M:MH}(g:Gx j A M)(o:MO):Gx j A (M++[o]):=g.trans (.of (Gr.app _ _))
theorem Gx.young{j i:Nat}{A M:MH}(g:Gx j A M)(h:A.length<=i)(o:MO):Gx j A (M.set i o):=⟨fun k u hk e=>by
 have hi:k<A.length:=(zv.mp e).1;rw[zc (by walk_at "o")];exact g.keep k u hk e,by rw[yt];exact g.len⟩
noncomputable def Tp(M:MH)(j:Nat):Prop:=∃(jk:Nat) (xs:List Int) (i:Int),jk<j/\0<=i/\xs.length<=84/\M[j]?=some (.lst [.ob jk,.int i])/\M[jk]?=some (.lst (xs.map .int))
theorem Tp.keep{M M':MH}{j:Nat}(h:Tp M j)(g:Gr M M'):Tp M' j:=by
 obtain⟨jk,xs,i,h0,h1,h2,e,e2⟩:=h;exact⟨jk,xs,i,h0,h1,h2,g.keep _ _ e,g.keep _ _ e2⟩
theorem Tp.lt{M:MH}{j:Nat}(h:Tp M j):j<M.length:=by
 obtain⟨jk,xs,i,h0,h1,h2,e,e2⟩:=h;exact aQ e
theorem Tp.young{M:MH}{j i:Nat}(h:Tp M j)(hi:j<i)(o:MO):Tp (M.set i o) j:=by
 obtain⟨jk,xs,n,h0,h1,h2,e,e2⟩:=h;exact⟨jk,xs,n,h0,h1,h2,by rw[zc (by walk_at "o")];exact e,by rw[zc (by walk_at "o")];exact e2⟩
theorem aV(k:Nat)(M:MH){jt:Nat}(T:Tp M jt)(m:Int)(hm:0<m){Q:D->MH->Prop}(q:∀(r:Int) (M':MH),0<=r->r<m->Gx jt M M'->Tp M' jt->Q (.int r) M'):W ((cx srt (k+1)).fn "_law_draw" [.ob jt,.int m]) M Q:=by
 have big:=bB;obtain⟨jk,xs,i,h0,h1,h2,e,e2⟩:=T;have bU:=aQ e;have f1:(M.set jt (MO.lst [.ob jk,.int (i+1)]))[jt]?=some (.lst [.ob jk,.int (i+1)]):=by rw[zP bU]
 have f2:(M.set jt (MO.lst [.ob jk,.int (i+1)]))[jk]?=some (.lst (xs.map .int)):=by rw[zc (by walk_at "o")];exact e2
 have g:Gx jt M (M.set jt (MO.lst [.ob jk,.int (i+1)])):=Gx.refl.set _;rw[aW "_law_draw" 3 2 gT rfl,wf,gT];walk_at "wq";refine⟨_,e,?_⟩;walk_at "wq";refine⟨_,e,?_⟩;walk_at "wq";refine⟨1,rfl,?_⟩;walk_at "wq";generalize M.set jt (MO.lst [.ob jk,.int (i+1)])=M2 at f1 f2 g ⊢;refine⟨_,f1,?_⟩;walk_at "wq";refine⟨_,f2,?_⟩;walk_at "wq";have fin:∀r:Int,0<=r->r<m->Q (.int r) M2:=fun r a b=>q r M2 a b g ⟨jk,xs,i+1,h0,by walk_at "o",h2,f1,f2⟩;rw[zu];refine⟨fun _=>fin 0 (Int.le_refl _) hm,fun hz=>?_⟩;have hl:0<xs.length:=by
  rcases Nat.eq_zero_or_pos xs.length with z|z
  ·rw[z]at hz;cases hz
  ·exact z
 have y0:0<=i % (xs.length:Int):=xj _ (by walk_at "o");have y1:i % (xs.length:Int)<xs.length:=yW _ (by walk_at "o");obtain⟨n,hn⟩:=yz y0;have Nh:n<xs.length:=by walk_at "o"
 refine⟨_,f1,?_⟩;walk_at "wq";refine⟨_,f1,?_⟩;walk_at "wq";refine⟨_,f2,?_⟩;walk_at "wq";rw[zu];refine⟨by walk_at "o",_,f2,?_⟩;walk_at "wq";refine⟨.int xs[n],?_,?_⟩
 ·rw[hn]
  exact bY (by rw[ze,zw Nh];rfl)
 refine⟨_,f1,?_⟩;walk_at "wq";refine⟨_,f2,?_⟩;walk_at "wq";rw[zu];exact⟨⟨by walk_at "o",by walk_at "o"⟩,hm,fin _ (xj _ (by walk_at "o")) (yW _ hm)⟩
end
end Law
namespace Law
open PySem L3
section
variable {srt:Nat}
theorem dZ(a b:Str):(a++b).length=a.length+b.length:=by
 show (a.cps++b.cps).size=a.cps.size+b.cps.size;exact wa
theorem EV(a b:Str):(a++b).cps.toList=a.cps.toList++b.cps.toList:=by
 show (a.cps++b.cps).toList=_;exact Array.toList_append
noncomputable def aO(l:List Nat):Str:=⟨l.toArray⟩
theorem bN(a:List Nat):(aO a).length=a.length:=by simp[aO,Str.length]
theorem om(a:List Nat):(aO a).cps.toList=a:=by simp[aO]
theorem BB(l:List Nat):i5 "" (l.map fun c=>aO [c])=aO l:=by
 unfold i5 aO;congr 2;have e:(("":Str)).cps.toList=[]:=rfl;rw[e,vz];induction l with
 |nil=>rfl
 |cons a r ih =>
  cases r with
  |nil=>rfl
  |cons b r =>
   show [a]++[]++glue [] _=_;rw[zJ];exact congrArg (a::·) ih
theorem Fp(l:List Nat):((l.map fun c=>aO [c]).map (·.length)).sum=l.length:=by
 induction l with
 |nil=>rfl
 |cons a r ih =>
  simp only[zH,List.sum_cons,zi];rw[ih,bN];simp;walk_at "o"
structure Cm (sg:Str):Prop where
 lo:2<=sg.length
 hi:sg.length<=1000
 nd:sg.cps.toList.Nodup
 fd:∀c∈sg.cps.toList,∃j:Nat,findS sg (aO [c])=j/\sg.cps.toList[j]?=some c
structure Words (ws:List Str):Prop where
 ln:ws.length=4
 sz:∀w∈ws,1<=w.length/\w.length<=20
 nd:(ws.take 3).Nodup
 n4:ws.Nodup
 up:∀w∈ws.take 3,w.length<=((ws.take 3).headD "").length+1
theorem KO{α:Type}{xs:List α}(h:xs≠[]):dA xs (-1)=some (xs.getLast h):=by
 have hl:0<xs.length:=yE.mpr h;unfold dA ow;rw[if_neg (by walk_at "o"),if_pos (by walk_at "o")];show xs[(-1+(xs.length:Int)).toNat]?=_;rw[show (-1+(xs.length:Int)).toNat=xs.length-1 by walk_at "o",List.getLast_eq_getElem,zw (by walk_at "o")]
theorem GU{α:Type}(xs:List α):cutD xs none (some (-1))=xs.dropLast:=by
 unfold cutD;simp only[dh];rw[if_pos (by walk_at "o"),xS,xz,List.dropLast_eq_take,show (-1+(xs.length:Int)).toNat=xs.length-1 by walk_at "o"]
theorem rV{cs:List Nat}(h:cs≠[]){e2 e3:Nat}(he:e2≠cs.getLast h):([aO cs,aO cs.dropLast++aO [e2],aO cs++aO [e3],aO cs.dropLast++aO [e2]++aO [e3]].take 3).Nodup:=by
 have hl:0<cs.length:=yE.mpr h;have n1:aO cs≠aO cs.dropLast++aO [e2]:=fun z=>by
  have z:=congrArg (fun s:Str=>s.cps.toList) z;simp only[EV,om]at z;have w:=xP ((xi h).trans z);exact he (by simpa using w.symm)
 have n2:aO cs≠aO cs++aO [e3]:=fun z=>by
  have z:=congrArg Str.length z;rw[dZ,bN,bN]at z;simp at z
 have n3:aO cs.dropLast++aO [e2]≠aO cs++aO [e3]:=fun z=>by
  have z:=congrArg Str.length z;rw[dZ,dZ,bN,bN,bN,bN,yC]at z;simp at z;walk_at "o"
 simp[n1,n2,n3]
theorem Fe{cs:List Nat}(h:cs≠[]){e2 e3:Nat}:∀w∈[aO cs,aO cs.dropLast++aO [e2],aO cs++aO [e3],aO cs.dropLast++aO [e2]++aO [e3]].take 3,w.length<=(([aO cs,aO cs.dropLast++aO [e2],aO cs++aO [e3],aO cs.dropLast++aO [e2]++aO [e3]].take 3).headD "").length+1:=by
 have hl:0<cs.length:=yE.mpr h;have l3:∀e:Nat,(aO [e]).length=1:=fun _=>rfl;intro w hw;show w.length<=(aO cs).length+1;simp only[xg,wQ,zg,zE,or_false]at hw;rcases hw with rfl|rfl|rfl <;> (simp only[dZ,bN,yC,l3];walk_at "o")
theorem CF{cs:List Nat}(h:cs≠[]){e2 e3:Nat}(he:e2≠cs.getLast h):[aO cs,aO cs.dropLast++aO [e2],aO cs++aO [e3],aO cs.dropLast++aO [e2]++aO [e3]].Nodup:=by
 have hl:0<cs.length:=yE.mpr h;have h3:=rV h (e3:=e3) he;have n1:aO cs≠aO cs.dropLast++aO [e2]++aO [e3]:=fun z=>by
  have z:=congrArg Str.length z;rw[dZ,dZ,bN,bN,bN,bN,yC]at z;simp at z;walk_at "o"
 have n2:aO cs.dropLast++aO [e2]≠aO cs.dropLast++aO [e2]++aO [e3]:=fun z=>by
  have z:=congrArg Str.length z;simp only[dZ,bN]at z;simp at z
 have n3:aO cs++aO [e3]≠aO cs.dropLast++aO [e2]++aO [e3]:=fun z=>by
  have z:=congrArg (fun s:Str=>s.cps.toList) z;simp only[EV,om]at z;have z:=List.append_cancel_right z;have w:=xP ((xi h).trans z);exact he (by simpa using w.symm)
 simp only[xg,wQ,yA,zg,zE,or_false,not_or,not_false_eq_true,wR,and_true]at h3 ⊢;exact⟨⟨h3.1.1,h3.1.2,n1⟩,⟨h3.2,n2⟩,n3⟩
theorem lS(k:Nat)(M:MH){jt:Nat}(T:Tp M jt){sg:Str}(G:Cm sg){Q:D->MH->Prop}
  (q:∀(ws:List Str) (j:Nat) (M':MH),Words ws->Gx jt M M'->Tp M' jt->M.length<=j->M'[j]?=some (.lst (ws.map .str))->Q (.ob j) M'):W ((cx srt (k+2)).fn "_law_words" [.ob jt,.str sg]) M Q:=by
 have big:=bB;have g0:=G.lo;have g1:=G.hi;have tl:=BA sg;rw[aW "_law_words" 6 2 fV rfl,wf,fV];walk_at "wq";refine aV k M T _ (by walk_at "o") fun r1 M1 a1 b1 x1 T1=>?_;walk_at "wq";refine⟨⟨by walk_at "o",by walk_at "o"⟩,by rw[iC];walk_at "o",?_⟩;refine fk (fun n ys M'=>∃cs:List Nat,cs.length=n/\(∀c∈cs,c∈sg.cps.toList)/\ys=cs.map sgn/\Gx jt M M'/\Tp M' jt) ⟨[],rfl,by simp,rfl,x1,T1⟩ (fun _ _ _ _=>trivial) ?_ ?_
 ·rintro n d ys M' hd ⟨cs,hl,hc,rfl,x,T'⟩
  walk_at "wq";refine⟨by walk_at "o",aV k M' T' _ (by walk_at "o") fun r2 M2 a2 b2 x2 T2=>?_⟩;obtain⟨e,he,hm⟩:=gf (xs:=sg.cps.toList) a2 (by walk_at "o");walk_at "wq";refine⟨by walk_at "o",e,he,cs++[e],by rw[zf,hl];rfl,fun c hc'=>?_,by rw[zM];rfl,x.trans x2,T2⟩;rcases zT.mp hc' with z|z
  ·exact hc c z
  ·rw[zG.mp z];exact hm
 rintro ys M2 ⟨cs,hl,hc,rfl,x2,T2⟩;rw[iC]at hl;have hZ:cs≠[]:=fun z=>by rw[z]at hl;simp at hl;walk_at "o"
 walk_at "wq";have em:cs.map sgn=(cs.map fun c=>aO [c]).map D.str:=by rw[vz];rfl
 refine⟨_,ao _ _,cs.map fun c=>aO [c],by rw[em];exact DG _,?_,?_⟩
 ·rw[Fp,zu]
  have:(("":Str)).length=0:=rfl
  rw[this];walk_at "o"
 rw[BB];generalize t7:M2++[MO.lst (cs.map sgn)]=M3;have x3:Gx jt M M3:=t7▸x2.snoc _;have T3:Tp M3 jt:=t7▸T2.keep (Gr.app _ _);clear t7 x2 T2 em;have PV:=hc _ (List.getLast_mem hZ);generalize Nk:cs.getLast hZ=c at PV;obtain⟨j,hj,Iz⟩:=G.fd c PV;have XS:=aQ Iz;walk_at "wq";rw[om,bN,KO hZ,Nk];refine⟨by walk_at "o",c,rfl,?_⟩;unfold sgn;walk_at "wq";have hj':findS sg ⟨#[c]⟩=j:=hj;rw[hj'];refine⟨by walk_at "o",aV k M3 T3 _ (by walk_at "o") fun r2 M4 a4 b4 x4 T4=>?_⟩;have x4':=x3.trans x4;walk_at "wq";have y0:0<=((j:Int)+1+r2) % (sg.length:Int):=xj _ (by walk_at "o");have y1:((j:Int)+1+r2) % (sg.length:Int)<(sg.length:Int):=yW _ (by walk_at "o");have yj:((j:Int)+1+r2) % (sg.length:Int)≠j:=fun z=>by
  have e:=Int.emod_add_mul_ediv ((j:Int)+1+r2) (sg.length:Int);rw[z]at e;have e2:(sg.length:Int)*(((j:Int)+1+r2) / (sg.length:Int))=1+r2:=by walk_at "o"
  generalize ((j:Int)+1+r2) / (sg.length:Int)=d at e2;rcases (by walk_at "o" : 0<d\/d<=0) with hd|hd
  ·have:=Int.mul_le_mul_of_nonneg_left (show 1<=d by walk_at "o") (show (0:Int)<=sg.length by walk_at "o")
   walk_at "o"
  ·have:=Int.mul_nonpos_of_nonneg_of_nonpos (show (0:Int)<=sg.length by walk_at "o") hd
   walk_at "o"
 obtain⟨n,hn⟩:=yz y0;rw[hn]at y1 yj;have Nh:n<sg.cps.toList.length:=by walk_at "o"
 have Ni:sg.cps.toList[n]≠c:=fun z=>by
  have h2:=(zv.mp Iz).2;rw[<- h2,xv G.nd]at z;walk_at "o"
 refine⟨by walk_at "o",by walk_at "o",by walk_at "o",sg.cps.toList[n],?_,by walk_at "o",aV k M4 T4 _ (by walk_at "o") fun r5 M5 a5 b5 x5 T5=>?_⟩
 ·rw[hn]
  exact bY (zw Nh)
 obtain⟨e3,Ec,_⟩:=gf (xs:=sg.cps.toList) a5 (by walk_at "o");have x5':=x4'.trans x5;walk_at "wq";refine⟨by walk_at "o",e3,Ec,?_⟩;unfold sgn;walk_at "wq";rw[om,bN,GU];have l1:∀e:Nat,Str.length ⟨#[e]⟩=1:=fun _=>rfl;have l2:Str.length ⟨cs.dropLast.toArray⟩=cs.length-1:=by show (aO cs.dropLast).length=_;rw[bN,yC]
 have Nc:0<cs.length:=yE.mpr hZ;refine⟨by walk_at "o",?_⟩;simp only[l1,l2,dZ];refine⟨by walk_at "o",by walk_at "o",by walk_at "o",by walk_at "o",by walk_at "o",by walk_at "o",?_⟩;refine q [aO cs,aO cs.dropLast++aO [sg.cps.toList[n]],aO cs++aO [e3],aO cs.dropLast++aO [sg.cps.toList[n]]++aO [e3]] _ _ ⟨rfl,?_,rV hZ (by rw[Nk];exact Ni),CF hZ (by rw[Nk];exact Ni),Fe hZ⟩ (x5'.snoc _) (T5.keep (Gr.app _ _)) x5'.len (ao _ _);intro w hw;simp only[zg,zE,or_false]at hw;have l3:∀e:Nat,(aO [e]).length=1:=fun _=>rfl;rcases hw with rfl|rfl|rfl|rfl <;> (simp only[dZ,bN,yC,l3];walk_at "o")
end
end Law
namespace Law
open PySem L3
section
variable {srt:Nat}
theorem Hz{sg:Str}(h:(decide (2<=sg.length)&&decide (sg.length<=1000)&&decide sg.cps.toList.Nodup&&(List.range sg.cps.toList.length).all fun j=>findS sg (aO [sg.cps.toList.getD j 0])==(j:Int))=true):Cm sg:=by
 simp only[zx,decide_eq_true_eq,zB,yY,beq_iff_eq]at h;obtain⟨⟨⟨h1,h2⟩,h3⟩,h4⟩:=h;refine⟨h1,h2,h3,fun c hc=>?_⟩;obtain⟨j,hj,rfl⟩:=yD hc;refine⟨j,?_,zw hj⟩
 have:=h4 j hj
 rw[zS,zw hj]at this;exact this
theorem kb:Cm "abcdefghijklmnopqrstuvwxyz":=Hz (by decide +kernel)
theorem Lz:Cm (("abcdefghijklmnopqrstuvwxyz":Str)++"0123456789"):=Hz (by decide +kernel)
structure Wd (M:MH) (jt jw jn jv jr jh:Nat) (ns vs rs hs:List Str):Prop where
 T:Tp M jt
 w:M[jw]?=some (.aY [(.inr "names",.ob jn),(.inr "values",.ob jv),(.inr "rotas",.ob jr),(.inr "hands",.ob jh)])
 n:M[jn]?=some (.lst (ns.map .str))
 v:M[jv]?=some (.lst (vs.map .str))
 r:M[jr]?=some (.lst (rs.map .str))
 h:M[jh]?=some (.lst (hs.map .str))
 wj:jw≠jt
 nj:jn≠jt
 vj:jv≠jt
 rj:jr≠jt
 hj:jh≠jt
 ln:ns.length=3
 lv:vs.length=4
 lr:rs.length=3
 lh:hs.length=4
 nd:rs.Nodup
 hd:hs.Nodup
 sz:∀x∈hs,1<=x.length/\x.length<=20
 up:∀w∈rs,w.length<=(rs.headD "").length+1
 rz:∀x∈rs,x.length<=20
section
variable {M M':MH}{jt jw jn jv jr jh:Nat}{ns vs rs hs:List Str}
theorem Wd.go(w:Wd M jt jw jn jv jr jh ns vs rs hs)(g:Gx jt M M')(T:Tp M' jt):Wd M' jt jw jn jv jr jh ns vs rs hs :=
 ⟨T,g.keep _ _ w.wj w.w,g.keep _ _ w.nj w.n,g.keep _ _ w.vj w.v,g.keep _ _ w.rj w.r,g.keep _ _ w.hj w.h,w.wj,w.nj,w.vj,w.rj,w.hj,w.ln,w.lv,w.lr,w.lh,w.nd,w.hd,w.sz,w.up,w.rz⟩
theorem Wd.keep(w:Wd M jt jw jn jv jr jh ns vs rs hs)(g:Gr M M'):Wd M' jt jw jn jv jr jh ns vs rs hs:=w.go (.of g) (w.T.keep g)
theorem MF{a b c d:D}:cV [(.inr "names",a),(.inr "values",b),(.inr "rotas",c),(.inr "hands",d)] (.inr "names")=some a:=rfl
theorem Rg{a b c d:D}:cV [(.inr "names",a),(.inr "values",b),(.inr "rotas",c),(.inr "hands",d)] (.inr "values")=some b:=rfl
theorem ME{a b c d:D}:cV [(.inr "names",a),(.inr "values",b),(.inr "rotas",c),(.inr "hands",d)] (.inr "rotas")=some c:=rfl
theorem Gg{a b c d:D}:cV [(.inr "names",a),(.inr "values",b),(.inr "rotas",c),(.inr "hands",d)] (.inr "hands")=some d:=rfl
end
theorem Gx.get{j:Nat}{M M':MH}{k:Nat}{o:MO}(g:Gx j M M')(h:k≠j)(e:M[k]?=some o):M'[k]?=some o:=g.keep k o h e
theorem Jt(k:Nat)(M:MH){jt:Nat}(T:Tp M jt){Q:D->MH->Prop}
  (q:∀(jw jn jv jr jh:Nat) (ns vs rs hs:List Str) (M':MH),Wd M' jt jw jn jv jr jh ns vs rs hs->Gx jt M M'->M.length<=jw->M.length<=jn->M.length<=jv->M.length<=jr->M.length<=jh->Q (.ob jw) M'):W ((cx srt (k+3)).fn "_law_world" [.ob jt]) M Q:=by
 have big:=bB;have lt:=T.lt;rw[aW "_law_world" 4 1 fU rfl,wf,fU];walk_at "wq";generalize En:M++[MO.aY []]=M0;have x0:Gx jt M M0:=En▸Gx.refl.snoc _;have T0:Tp M0 jt:=En▸T.keep (Gr.app _ _);have e0:M0[M.length]?=some (.aY []):=En▸ao _ _;have l0:M0.length=M.length+1:=by rw[<- En];simp
 clear En;refine lS k M0 T0 kb fun w1 j1 M1 W1 x1 T1 g1 h1=>?_;walk_at "wq";refine⟨_,h1,?_⟩;rw[oQ _ (by walk_at "o")];have c3:(3:Int).toNat=3:=rfl;rw[c3,<- xp];generalize gy:M1++[MO.lst ((w1.take 3).map .str)]=M2;have x2:Gx jt M0 M2:=gy▸x1.snoc _;have T2:Tp M2 jt:=gy▸T1.keep (Gr.app _ _);have e2:M2[M1.length]?=some (.lst ((w1.take 3).map .str)):=gy▸ao _ _;have l2:M1.length<=M2.length:=by rw[<- gy];simp
 clear gy;have l1:=x1.len;generalize M1.length=jn at e2 l1 l2 ⊢;clear h1 x1 T1;have ap:("abcdefghijklmnopqrstuvwxyz":Str).length+("0123456789":Str).length<=zp:=vK (by decide);refine⟨ap,lS k M2 T2 Lz fun w2 jv M3 W2 x3 T3 g3 h3=>?_⟩;walk_at "wq";have l3:=x3.len;have ej:M3[M.length]?=some (.aY []):=x3.get (by walk_at "o") (x2.get (by walk_at "o") e0);refine⟨_,ej,⟨rfl,by decide⟩,?_⟩;have ek:iP [] ([Sum.inr ("names":Str),Sum.inr ("values":Str)].zip [D.ob jn,.ob jv])=[(.inr "names",.ob jn),(.inr "values",.ob jv)]:=rfl;rw[ek];generalize iS:M3.set M.length (.aY [(.inr "names",.ob jn),(.inr "values",.ob jv)])=M4;have x4:Gx jt M M4:=iS▸((x0.trans x2).trans x3).young (zr _) _;have e4:M4[M.length]?=some (.aY [(.inr "names",.ob jn),(.inr "values",.ob jv)]):=iS▸dq ej;have n4:M4[jn]?=some (.lst ((w1.take 3).map .str)):=by
  rw[<- iS,zc (by walk_at "o")];exact x3.get (by walk_at "o") e2
 have v4:M4[jv]?=some (.lst (w2.map .str)):=by
  rw[<- iS,zc (by walk_at "o")];exact h3
 have T4:Tp M4 jt:=iS▸T3.young lt _;have l4:M4.length=M3.length:=by rw[<- iS,yt]
 clear iS h3 T3 x3 ej ek e0 x2 e2 T2 T0 x0;refine lS k M4 T4 kb fun w3 j5 M5 W3 x5 T5 g5 h5=>?_;walk_at "wq";have l5:=x5.len;refine⟨_,h5,?_⟩;rw[oQ _ (by walk_at "o"),c3,<- xp];generalize i9:M5++[MO.lst ((w3.take 3).map .str)]=M6;have x6:Gx jt M4 M6:=i9▸x5.snoc _;have T6:Tp M6 jt:=i9▸T5.keep (Gr.app _ _);have e6:M6[M5.length]?=some (.lst ((w3.take 3).map .str)):=i9▸ao _ _;have h6:M6[j5]?=some (.lst (w3.map .str)):=i9▸(Gr.app _ _).keep _ _ h5;have l6:M5.length<M6.length:=by rw[<- i9];simp
 clear i9 h5 T5 x5;generalize M5.length=jr at e6 l6 l5 ⊢;have d6:=x6.get (k:=M.length) (by walk_at "o") e4;have n6:=x6.get (k:=jn) (by walk_at "o") n4;have v6:=x6.get (k:=jv) (by walk_at "o") v4;have x6':=x4.trans x6;walk_at "wq";refine⟨_,d6,?_⟩;walk_at "wq";refine⟨by show 2<zp;decide,?_⟩;have ek:iy [(.inr "names",.ob jn),(.inr "values",.ob jv)] (.inr "rotas") (D.ob jr)=[(.inr "names",.ob jn),(.inr "values",.ob jv),(.inr "rotas",.ob jr)]:=rfl;rw[ek];generalize oI:M6.set M.length (.aY [(.inr "names",.ob jn),(.inr "values",.ob jv),(.inr "rotas",.ob jr)])=M7;have x7:Gx jt M M7:=oI▸x6'.young (zr _) _;have d7:M7[M.length]?=some (.aY [(.inr "names",.ob jn),(.inr "values",.ob jv),(.inr "rotas",.ob jr)]):=oI▸dq d6;have n7:M7[jn]?=some (.lst ((w1.take 3).map .str)):=by rw[<- oI,zc (by walk_at "o")];exact n6
 have v7:M7[jv]?=some (.lst (w2.map .str)):=by rw[<- oI,zc (by walk_at "o")];exact v6
 have r7:M7[jr]?=some (.lst ((w3.take 3).map .str)):=by rw[<- oI,zc (by walk_at "o")];exact e6
 have h7:M7[j5]?=some (.lst (w3.map .str)):=by rw[<- oI,zc (by walk_at "o")];exact h6
 have T7:Tp M7 jt:=oI▸T6.young lt _;have l7:M7.length=M6.length:=by rw[<- oI,yt]
 clear oI ek d6 n6 v6 e6 h6 T6 x6 x6' x4 e4 n4 v4 T4;refine lS k M7 T7 kb fun w4 j8 M8 W4 x8 T8 g8 h8=>?_;have l8:=x8.len;walk_at "wq";refine⟨_,x8.get (by walk_at "o") h7,by show 2<=zp;decide,?_⟩;generalize IQ:(M8++[MO.lst (w3.map D.str).reverse])++[MO.lst [D.ob j8,.ob M8.length]]=M9;have PJ:M9[M8.length]?=some (.lst (w3.map D.str).reverse):=by rw[<- IQ];exact(Gr.app _ _).keep _ _ (ao _ _)
 have g9:Gr M8 M9:=IQ▸(Gr.app _ _).snoc _;have D6:M9[(M8++[MO.lst (w3.map D.str).reverse]).length]?=some (.lst [D.ob j8,.ob M8.length]):=by rw[<- IQ];exact ao _ _
 clear IQ;generalize (M8++[MO.lst (w3.map D.str).reverse]).length=j9 at D6 ⊢;have l9:=g9.len;have XC:=aQ PJ;refine aV (k+1) M9 (T8.keep g9) _ (by decide) fun r z8 X8 XY eN V0=>?_;have x10':Gx jt M7 z8:=(x8.trans (.of g9)).trans eN;walk_at "wq";have Rn:z8[j9]?=some (.lst [D.ob j8,.ob M8.length]):=by
  refine eN.get (fun z=>?_) D6;obtain⟨jk',xs',i',a0',a1',a2',ea',eb'⟩:=T8.keep g9;rw[z,ea']at D6;cases D6
 refine⟨_,Rn,?_⟩;walk_at "wq";have fin:∀(jh:Nat) (hs:List Str),hs.length=4->hs.Nodup->(∀x∈hs,1<=x.length/\x.length<=20)->M7.length<=jh->z8[jh]?=some (.lst (hs.map .str)) ->
   W (setIx (.ob M.length) (.str "hands") (.ob jh)) z8 fun _ M4=>Q (.ob M.length) M4:=by
  intro jh hs lh hd sz gh hh;have Qp:=x10'.get (k:=M.length) (by walk_at "o") d7;rw[Fh];refine⟨_,Qp,?_⟩;rw[Om];refine⟨.inr "hands",rfl,by show 3<zp;decide,?_⟩;have ek:iy [(.inr "names",.ob jn),(.inr "values",.ob jv),(.inr "rotas",.ob jr)] (.inr "hands") (D.ob jh)=[(.inr "names",.ob jn),(.inr "values",.ob jv),(.inr "rotas",.ob jr),(.inr "hands",.ob jh)]:=rfl;rw[ek];generalize IM:z8.set M.length (.aY [(.inr "names",.ob jn),(.inr "values",.ob jv),(.inr "rotas",.ob jr),(.inr "hands",.ob jh)])=Mb;have ne:∀{j:Nat} {o:MO},j≠M.length->z8[j]?=some o->Mb[j]?=some o:=fun {j o} hj e=>by rw[<- IM,zc (Ne.symm hj)];exact e
  have Tb:Tp Mb jt:=IM▸V0.young lt _;refine q M.length jn jv jr jh (w1.take 3) w2 (w3.take 3) hs Mb ⟨Tb,IM▸dq Qp,ne (by walk_at "o") (x10'.get (by walk_at "o") n7),ne (by walk_at "o") (x10'.get (by walk_at "o") v7),ne (by walk_at "o") (x10'.get (by walk_at "o") r7),ne (by walk_at "o") hh,by walk_at "o",by walk_at "o",by walk_at "o",by walk_at "o",by walk_at "o",
   by rw[zY,W1.ln];rfl,W2.ln,by rw[zY,W3.ln];rfl,lh,W3.nd,hd,sz,W3.up,fun x hx=>(W3.sz x (xY hx)).2⟩ ?_ (zr _) (by walk_at "o") (by walk_at "o") (by walk_at "o") (by walk_at "o")
  exact IM▸(x7.trans x10').young (zr _) _
 have cs:(r==3)=false\/(r==3)=true:=by cases r==3 <;> simp
 rcases cs with hr|hr
 ·rw[hr]
  refine⟨_,rfl,?_⟩;walk_at "wq";rw[<- Fh];refine fin j8 w4 W4.ln W4.n4 W4.sz (by walk_at "o") (eN.get (by walk_at "o") (g9.keep _ _ h8))
 ·rw[hr]
  refine⟨_,rfl,?_⟩;walk_at "wq";rw[<- Fh];refine fin M8.length w3.reverse (by rw[wz];exact W3.ln) (List.pairwise_reverse.mpr (List.Pairwise.imp (fun h=>Ne.symm h) W3.n4)) (fun x hx=>W3.sz x (List.mem_reverse.mp hx)) (by walk_at "o") (eN.get (by walk_at "o") (by rw[List.map_reverse];exact PJ))
end
end Law
namespace Law
open PySem L3
section
variable {srt:Nat}{jt jw jn jv jr jh:Nat}{ns vs rs hs:List Str}
theorem strAt{xs:List Str}{i:Int}(h0:0<=i)(h1:i<(xs.length:Int)):∃x∈xs,dA (xs.map D.str) i=some (.str x):=by
 obtain⟨v,e,hv⟩:=gf (xs:=xs.map D.str) h0 (by rw[zu];exact h1);obtain⟨x,hx,rfl⟩:=yP.mp hv;exact⟨x,hx,e⟩
theorem v9{p:D->Bool}{xs:List D}(h:xs.all p=true)(lo hi:Option Int):(cutD xs lo hi).all p=true:=by
 rw[zB]at h ⊢;intro x hx;unfold cutD at hx;exact h x (List.mem_of_mem_drop (xY hx))
theorem all_strs(xs:List Str)(n:Nat):(xs.map D.str).all (fH (n+1))=true:=by
 rw[xA,zB];exact fun _ _=>rfl
theorem G2(k:Nat)(M:MH)(w:Wd M jt jw jn jv jr jh ns vs rs hs){Q:D->MH->Prop}(q:∀(d:D) (M':MH),fH 3 d=true->Gx jt M M'->Tp M' jt->Q d M'):W ((cx srt (k+2)).fn "_law_asking" [.ob jt,.ob jw]) M Q:=by
 have big:=bB;have ln:=w.ln;have lv:=w.lv;rw[aW "_law_asking" 6 2 eU rfl,wf,eU];walk_at "wq";refine⟨_,w.w,?_⟩;walk_at "wq";refine⟨_,MF,aV k M w.T _ (by decide) fun r1 M1 a1 b1 x1 T1=>?_⟩;have w1:=w.go x1 T1;obtain⟨nm,_,en⟩:=strAt (xs:=ns) a1 (by walk_at "o");walk_at "wq";refine⟨_,w1.n,?_⟩;walk_at "wq";refine⟨_,en,aV k M1 T1 _ (by decide) fun r2 M2 a2 b2 x2 T2=>?_⟩;have w2:=w1.go x2 T2;have x2':=x1.trans x2;walk_at "wq";refine⟨fun h=>?_,fun h=>?_⟩
 ·have h:=of_decide_eq_true h
  obtain⟨v,ev,hv⟩:=gf (xs:=[D.str "there",.str "lacks"]) (i:=r2-5) (by walk_at "o") (by show r2-5<2;walk_at "o");refine⟨by decide,_,ao _ _,?_⟩;walk_at "wq";refine⟨v,ev,by decide,by decide,q _ _ ?_ (x2'.snoc _) (T2.keep (Gr.app _ _))⟩;simp only[zg,zE,or_false]at hv;rcases hv with rfl|rfl <;> rfl
 ·have h:=of_decide_eq_false h
  refine aV k M2 T2 _ (by decide) fun r3 M3 a3 b3 x3 T3=>?_;have w3:=w2.go x3 T3;walk_at "wq";refine⟨_,w3.w,?_⟩;walk_at "wq";refine⟨_,Rg,?_⟩;walk_at "wq";refine⟨_,w3.v,?_⟩;generalize iS:M3++[MO.lst (cutD (vs.map D.str) none (some 3))]=M4;have g4:Gr M3 M4:=iS▸Gr.app _ _;have e4:M4[M3.length]?=some (.lst (cutD (vs.map D.str) none (some 3))):=iS▸ao _ _;clear iS;have hZ:M3.length≠jt:=zI T3.lt;generalize M3.length=j4 at e4 hZ ⊢;refine aV k M4 (T3.keep g4) _ (by decide) fun r5 M5 a5 b5 x5 T5=>?_;walk_at "wq";refine⟨_,x5.get hZ e4,?_⟩;obtain⟨v,ev,hv⟩:=gf (xs:=[D.str "is",.str "is",.str "is",.str "no",.str "no"]) a2 (by show r2<5;walk_at "o");walk_at "wq";refine⟨by decide,_,ao _ _,?_⟩;walk_at "wq";refine⟨v,ev,_,(Gr.app _ _).keep _ _ (ao _ _),by decide,q _ _ ?_ ((((x2'.trans x3).trans (.of g4)).trans x5).snoc _ |>.snoc _) (T5.keep ((Gr.app _ _).snoc _))⟩;have pv:fH 2 v=true:=by
   simp only[zg,zE,or_false]at hv;rcases hv with rfl|rfl|rfl|rfl|rfl <;> rfl
  show (fH 2 v&&(true&&((cutD (cutD (vs.map D.str) none (some 3)) (some r3) (some (r3+1+r5))).all (fH 1)&&true)))=true;rw[pv,v9 (v9 (all_strs vs 0) _ _)];rfl
theorem EU(k:Nat)(M:MH)(w:Wd M jt jw jn jv jr jh ns vs rs hs){Q:D->MH->Prop}(q:∀(d:D) (M':MH),fH 4 d=true->Gx jt M M'->Tp M' jt->Q d M'):W ((cx srt (k+3)).fn "_law_askings" [.ob jt,.ob jw]) M Q:=by
 have big:=bB;rw[aW "_law_askings" 2 2 eJ rfl,wf,eJ];walk_at "wq";refine⟨by decide,?_⟩;generalize cj:M++[MO.lst [D.int 1,.int 0,.int 1,.int 2]]=M1;have g1:Gr M M1:=cj▸Gr.app _ _;have e1:M1[M.length]?=some (.lst [D.int 1,.int 0,.int 1,.int 2]):=cj▸ao _ _;have n1:M.length≠jt:=zI w.T.lt;clear cj;generalize M.length=j1 at e1 n1 ⊢;refine aV (k+1) M1 (w.T.keep g1) _ (by decide) fun r M2 a b x T=>?_;have x2:Gx jt M M2:=(Gx.of g1).trans x;walk_at "wq";refine⟨_,x.get n1 e1,?_⟩;walk_at "wq";obtain⟨v,ev,hv⟩:=gf (xs:=[D.int 1,.int 0,.int 1,.int 2]) a (by exact b);obtain⟨m,rfl,m0,m1⟩:∃m:Int,v=.int m/\0<=m/\m<=2:=by
  simp only[zg,zE,or_false]at hv;rcases hv with rfl|rfl|rfl|rfl
  ·exact⟨1,rfl,by decide,by decide⟩
  ·exact⟨0,rfl,by decide,by decide⟩
  ·exact⟨1,rfl,by decide,by decide⟩
  ·exact⟨2,rfl,by decide,by decide⟩
 refine⟨_,ev,m,rfl,⟨by walk_at "o",by walk_at "o"⟩,by rw[iC];walk_at "o",?_⟩;refine fk (fun n ys M'=>ys.all (fH 3)=true/\Gx jt M M'/\Tp M' jt) ⟨rfl,x2,T⟩ (fun _ _ _ _=>trivial) ?_ ?_
 ·rintro n d ys M' hd ⟨h1,h2,h3⟩
  walk_at "wq";refine G2 k M' (w.go h2 h3) fun d' M3 p3 x3 T3=>⟨?_,h2.trans x3,T3⟩;rw[wM,h1,zK,p3];rfl
 ·rintro ys M' ⟨h1,h2,h3⟩
  walk_at "wq";exact⟨_,ao _ _,q _ _ h1 (h2.snoc _) (h3.keep (Gr.app _ _))⟩
theorem vZ(k:Nat)(M:MH)(T:Tp M jt){Q:D->MH->Prop}(q:∀(r:Int) (M':MH),1<=r->r<=1000000000->Gx jt M M'->Tp M' jt->Q (.int r) M'):W ((cx srt (k+2)).fn "_law_count" [.ob jt]) M Q:=by
 have e9:((10:Int) ^ Int.toNat 9)=1000000000:=by decide
 rw[aW "_law_count" 1 1 fX rfl,wf,fX];walk_at "wq";refine aV k M T _ (by decide) fun r M1 a b x T1=>?_;walk_at "wq";refine⟨fun _=>⟨⟨by decide,by decide,by decide⟩,?_⟩,fun _=>?_⟩
 ·rw[e9]
  refine aV k M1 T1 _ (by decide) fun r2 M2 a2 b2 x2 T2=>?_;walk_at "wq";exact q _ _ (by walk_at "o") (by walk_at "o") (x.trans x2) T2
 ·refine aV k M1 T1 _ (by decide) fun r2 M2 a2 b2 x2 T2=>?_
  walk_at "wq";exact q _ _ (by walk_at "o") (by walk_at "o") (x.trans x2) T2
theorem Ov(k:Nat)(M:MH)(w:Wd M jt jw jn jv jr jh ns vs rs hs){Q:D->MH->Prop}
  (q:∀(as:D) (on:Bool) (b:List Str) (wt ag:Int) (ch:List Str) (M':MH),fH 4 as=true->b.length<=3->1<=wt->wt<=1000000000->1<=ag->ag<=1000000000->ch.length<=3->(∀c∈ch,c∈rs)->Gx jt M M'->Tp M' jt->Q (.tup [as,.bl on,.tup (b.map .str),.int wt,.int ag,.tup (ch.map .str),.tup []]) M') :
  W ((cx srt (k+4)).fn "_law_row" [.ob jt,.ob jw,.int 0]) M Q:=by
 have big:=bB;have ln:=w.ln;have lr:=w.lr;rw[aW "_law_row" 9 3 iA rfl,wf,iA];walk_at "wq";refine⟨_,w.w,?_⟩;walk_at "wq";refine⟨_,MF,?_⟩;have wn:=w.n;obtain⟨s0,s1,s2,rfl⟩:∃a b c,ns=[a,b,c]:=by
  rcases ns with _|⟨a,_|⟨b,_|⟨c,_|⟨d,l⟩⟩⟩⟩ <;> first|exact⟨_,_,_,rfl⟩|(exfalso;simp at ln)
 simp only[zH,xf]at wn;walk_at "wq";refine⟨by decide,_,wn,?_⟩;walk_at "wq";refine⟨by decide,_,wn,?_⟩;walk_at "wq";refine⟨_,wn,?_⟩;walk_at "wq";refine⟨by decide,_,wn,?_⟩;walk_at "wq";refine⟨by decide,_,wn,by decide,?_⟩;generalize cj:M++[MO.lst [D.tup [],.tup [.str s0],.tup [.str s2,.str s1],.tup [.str s1],.tup [.str s0,.str s1,.str s2]]]=M1;have g1:Gr M M1:=cj▸Gr.app _ _;have e1:M1[M.length]?=some (.lst [D.tup [],.tup [.str s0],.tup [.str s2,.str s1],.tup [.str s1],.tup [.str s0,.str s1,.str s2]]):=cj▸ao _ _;have n1:M.length≠jt:=zI w.T.lt;clear cj;generalize M.length=j1 at e1 n1 ⊢;refine aV (k+2) M1 (w.T.keep g1) _ (by decide) fun r M2 a b x T=>?_;have x2:Gx jt M M2:=(Gx.of g1).trans x;walk_at "wq";refine⟨_,x.get n1 e1,?_⟩;walk_at "wq";obtain⟨v,ev,hv⟩:=gf (xs:=[D.tup [],.tup [.str s0],.tup [.str s2,.str s1],.tup [.str s1],.tup [.str s0,.str s1,.str s2]]) a (by exact b);obtain⟨bs,rfl,tZ⟩:∃bs:List Str,v=.tup (bs.map .str)/\bs.length<=3:=by
  simp only[zg,zE,or_false]at hv;rcases hv with rfl|rfl|rfl|rfl|rfl
  ·exact⟨[],rfl,by decide⟩
  ·exact⟨[s0],rfl,by simp⟩
  ·exact⟨[s2,s1],rfl,by simp⟩
  ·exact⟨[s1],rfl,by simp⟩
  ·exact⟨[s0,s1,s2],rfl,by simp⟩
 refine⟨_,ev,?_⟩;clear e1 n1 ev hv;refine⟨by decide,?_⟩;generalize t7:M2++[MO.lst [D.int 1,.int 2,.int 0,.int 1,.int 3]]=M3;have g3:Gr M2 M3:=t7▸Gr.app _ _;have e3:M3[M2.length]?=some (.lst [D.int 1,.int 2,.int 0,.int 1,.int 3]):=t7▸ao _ _;have n3:M2.length≠jt:=zI T.lt;clear t7;generalize M2.length=j3 at e3 n3 ⊢;refine aV (k+2) M3 (T.keep g3) _ (by decide) fun r4 M4 a4 b4 x4 T4=>?_;have x4':Gx jt M M4:=(x2.trans (.of g3)).trans x4;walk_at "wq";refine⟨_,x4.get n3 e3,?_⟩;walk_at "wq";obtain⟨v,ev,hv⟩:=gf (xs:=[D.int 1,.int 2,.int 0,.int 1,.int 3]) a4 (by exact b4);obtain⟨m,rfl,m0,m1⟩:∃m:Int,v=.int m/\0<=m/\m<=3:=by
  simp only[zg,zE,or_false]at hv;rcases hv with rfl|rfl|rfl|rfl|rfl
  ·exact⟨1,rfl,by decide,by decide⟩
  ·exact⟨2,rfl,by decide,by decide⟩
  ·exact⟨0,rfl,by decide,by decide⟩
  ·exact⟨1,rfl,by decide,by decide⟩
  ·exact⟨3,rfl,by decide,by decide⟩
 refine⟨_,ev,m,rfl,⟨by walk_at "o",by walk_at "o"⟩,by rw[iC];walk_at "o",?_⟩;clear e3 n3 ev hv;refine fk (fun n ys M'=>∃ch:List Str,ch.length=n/\(∀c∈ch,c∈rs)/\ys=ch.map .str/\Gx jt M M'/\Tp M' jt) ⟨[],rfl,by simp,rfl,x4',T4⟩ (fun _ _ _ _=>trivial) ?_ ?_
 ·rintro n d ys M' hd ⟨ch,h0,h1,rfl,h2,h3⟩
  have w':=w.go h2 h3;walk_at "wq";refine⟨_,w'.w,?_⟩;walk_at "wq";refine⟨_,ME,aV (k+2) M' h3 _ (by decide) fun r5 M5 a5 b5 x5 T5=>?_⟩;obtain⟨c,hc,ec⟩:=strAt (xs:=rs) a5 (by walk_at "o");walk_at "wq";refine⟨_,(w'.go x5 T5).r,?_⟩;walk_at "wq";refine⟨_,ec,ch++[c],by rw[zf,h0];rfl,fun y hy=>?_,by rw[zM];rfl,h2.trans x5,T5⟩;rcases zT.mp hy with z|z
  ·exact h1 y z
  ·rw[zG.mp z];exact hc
 rintro ys M5 ⟨ch,h0,h1,rfl,h2,h3⟩;rw[iC]at h0;walk_at "wq";refine⟨_,ao _ _,by decide,?_⟩;have n6:∀z:Int,decide (z<z)=false:=fun z=>by simp
 rw[n6];walk_at "wq";generalize i9:(M5++[MO.lst (ch.map D.str)])++[MO.lst []]=M6;have g6:Gr M5 M6:=i9▸(Gr.app _ _).snoc _;have e6:M6[(M5++[MO.lst (ch.map D.str)]).length]?=some (.lst []):=i9▸ao _ _;have Dx:(M5++[MO.lst (ch.map D.str)]).length≠jt:=by
  have:=h3.lt
  rw[zf];walk_at "o"
 clear i9;generalize (M5++[MO.lst (ch.map D.str)]).length=j6 at e6 Dx ⊢;refine aV (k+2) M6 (h3.keep g6) _ (by decide) fun r7 M7 a7 b7 x7 T7=>?_;walk_at "wq";refine vZ (k+1) M7 T7 fun c1 M8 a8 b8 x8 T8=>?_;walk_at "wq";refine vZ (k+1) M8 T8 fun c2 M9 a9 b9 x9 T9=>?_;have x9':Gx jt M M9:=(((h2.trans (.of g6)).trans x7).trans x8).trans x9;walk_at "wq";refine⟨by decide,EU k M9 (w.go x9' T9) fun as Ma pa xa Ta=>?_⟩;walk_at "wq";have e6':Ma[j6]?=some (.lst []):=xa.get Dx (x9.get Dx (x8.get Dx (x7.get Dx e6)));refine⟨by decide,by decide,_,e6',by decide,by decide,?_⟩;exact q as (r7==2) bs c1 c2 ch Ma pa tZ a8 b8 a9 b9 (by walk_at "o") h1 (x9'.trans xa) Ta
end
end Law
namespace Law
open PySem L3
noncomputable def cb(f:D->Option PyData):List D->Option (List PyData)
 |[]=>some []
 |d::ds=>match f d,cb f ds with
  |some a,some b=>some (a::b)
  |_,_=>none
noncomputable def rd(M:MH):Nat->D->Option PyData
 |0,_=>none
 |n+1,d=>match d with
  |.non=>some .none
  |.bl b=>some (.bool b)
  |.int i=>some (.int i)
  |.str x=>some (.str x)
  |.tup ds=>if ds.length<=1000 then (cb (rd M n) ds).map .tuple else none
  |.ob k=>(match M[k]? with
   |some (.lst ds)=>if ds.length<=1000 then (cb (rd M n) ds).map .list else none
   |_=>none)
  |.fl _=>none
theorem gX{f:D->Option PyData}:∀{ds:List D} {ts:List PyData},cb f ds=some ts->ds.length=ts.length
 |[],_,h=>by cases h;rfl
 |d::ds,ts,h=>by
  unfold cb at h;split at h
  ·rename_i a b h1 h2
   cases h;rw[zi,zi,gX h2]
  ·cases h
theorem lq{f:D->Option PyData}:∀{ds:List D} {ts:List PyData} {i:Nat} {d:D},cb f ds=some ts->ds[i]?=some d->∃t,ts[i]?=some t/\f d=some t
 |[],_,_,_,_,e=>by simp at e
 |x::ds,ts,i,d,h,e=>by
  unfold cb at h;split at h
  ·rename_i a b h1 h2
   cases h;cases i with
   |zero=>simp at e;subst e;exact⟨a,rfl,h1⟩
   |succ i =>
    obtain⟨t,ht,hf⟩:=lq h2 (i:=i) (by simpa using e);exact⟨t,by simpa using ht,hf⟩
  ·cases h
theorem kf{f g:D->Option PyData}(h:∀d t,f d=some t->g d=some t):∀{ds:List D} {ts:List PyData},cb f ds=some ts->cb g ds=some ts
 |[],_,e=>e
 |d::ds,ts,e=>by
  unfold cb at e;split at e
  ·rename_i a b h1 h2
   cases e;unfold cb;rw[h _ _ h1,kf h h2]
  ·cases e
theorem lW{M M':MH}(g:Gr M M'):∀{n:Nat} {d:D} {t:PyData},rd M n d=some t->rd M' n d=some t
 |0,_,_,h=>by cases h
 |n+1,d,t,h=>by
  cases d with
  |tup ds =>
   replace h:(if ds.length<=1000 then (cb (rd M n) ds).map PyData.tuple else none)=some t:=h;show (if ds.length<=1000 then (cb (rd M' n) ds).map PyData.tuple else none)=some t;split at h
   ·rename_i hl
    rw[if_pos hl];obtain⟨ts,h1,rfl⟩:=zo.mp h;rw[kf (fun d t e=>lW g e) h1];rfl
   ·cases h
  |ob k =>
   replace h:(match M[k]? with
    |some (.lst ds)=>if ds.length<=1000 then (cb (rd M n) ds).map PyData.list else none
    |_=>none)=some t:=h
   show (match M'[k]? with
    |some (.lst ds)=>if ds.length<=1000 then (cb (rd M' n) ds).map PyData.list else none
    |_=>none)=some t
   split at h
   ·rename_i ds hk
    rw[g.keep _ _ hk];dsimp only;split at h
    ·rename_i hl
     rw[if_pos hl];obtain⟨ts,h1,rfl⟩:=zo.mp h;rw[kf (fun d t e=>lW g e) h1];rfl
    ·cases h
   ·cases h
  |_=>exact h
theorem iJ{M:MH}{n:Nat}{ds:List D}{t:PyData}(h:rd M (n+1) (.tup ds)=some t):ds.length<=1000/\∃ts,cb (rd M n) ds=some ts/\t=.tuple ts:=by
 replace h:(if ds.length<=1000 then (cb (rd M n) ds).map PyData.tuple else none)=some t:=h;split at h
 ·rename_i hl
  obtain⟨ts,h1,rfl⟩:=zo.mp h;exact⟨hl,ts,h1,rfl⟩
 ·cases h
theorem ke{M:MH}{n k:Nat}{t:PyData}(h:rd M (n+1) (.ob k)=some t):∃ds ts,M[k]?=some (.lst ds)/\ds.length<=1000/\cb (rd M n) ds=some ts/\t=.list ts:=by
 replace h:(match M[k]? with
  |some (.lst ds)=>if ds.length<=1000 then (cb (rd M n) ds).map PyData.list else none
  |_=>none)=some t:=h
 split at h
 ·rename_i ds hk
  split at h
  ·rename_i hl
   obtain⟨ts,h1,rfl⟩:=zo.mp h;exact⟨ds,ts,hk,hl,h1,rfl⟩
  ·cases h
 ·cases h
section
variable {srt:Nat}
theorem lX{M:MH}{t:Ty}{k:Nat}{ds:List D}{B:Bool->MH->Prop}(h:M[k]?=some (.lst ds)):W (c9 t (.ob k)) M B=B (t==.list) M:=by
 rw[QY];exact propext ⟨fun ⟨o,e,b⟩=>by rw[h]at e;cases e;exact b,fun b=>⟨_,h,b⟩⟩
theorem cT{b:Bool}{P R:Prop}(h:b=true)(p:P):(b=true->P)/\(b=false->R):=⟨fun _=>p,fun z=>by rw[h]at z;cases z⟩
theorem cF{b:Bool}{P R:Prop}(h:b=false)(p:R):(b=true->P)/\(b=false->R):=⟨fun z=>(by rw[h]at z;cases z),fun _=>p⟩
theorem EX{n k:Nat}(ih:∀(M:MH) (x y:D) (t:PyData) (Q:D->MH->Prop),rd M n x=some t->rd M n y=some t->(∀M',Gr M M'->Q (.bl true) M')->W ((cx srt k).fn "_law_alike" [x,y]) M Q){M:MH}{xs ys:List D}{ts:List PyData}{c1 c2:Option (Nat×List D)}{ρ:Ev}{e:Ev->Mo D}
  (he:∀x y M (Q:D->MH->Prop),W ((cx srt k).fn "_law_alike" [x,y]) M Q->W (e (some x::some y::ρ)) M Q) (hx:cb (rd M n) xs=some ts) (hy:cb (rd M n) ys=some ts) (hk:∀M',Gr M M'->fK c1 M'/\fK c2 M')
  {L:List D->MH->Prop} (q:∀(bs:List Bool) M',Gr M M'->(∀b∈bs,b=true)->L (bs.map D.bl) M'):W (dW c1 c2 e ρ (xs.zip ys)) M L:=by
 refine Jx (fun m zs M'=>Gr M M'/\∃bs:List Bool,(∀b∈bs,b=true)/\zs=bs.map D.bl) ⟨Gr.refl,[],by simp,rfl⟩ (fun _ _ _ h=>hk _ h.1) ?_ ?_
 ·rintro m p zs M' hd ⟨g,bs,hb,rfl⟩
  obtain⟨h1,h2⟩:=List.getElem?_zip_eq_some.mp hd;obtain⟨t,t1,f1⟩:=lq hx h1;obtain⟨t',t2,f2⟩:=lq hy h2;rw[t1]at t2;cases t2;refine he _ _ _ _ (ih M' _ _ t _ (lW g f1) (lW g f2) fun M2 g2=>⟨g.trans g2,bs++[true],fun b h=>?_,by rw[zM];rfl⟩);rcases zT.mp h with z|z
  ·exact hb b z
  ·exact zG.mp z
 ·rintro zs M' ⟨g,bs,hb,rfl⟩
  exact q bs M' g hb
theorem w5:∀(n k:Nat) (M:MH) (x y:D) (t:PyData) (Q:D->MH->Prop),rd M n x=some t->rd M n y=some t->(∀M',Gr M M'->Q (.bl true) M')->W ((cx srt (k+n)).fn "_law_alike" [x,y]) M Q
 |0,_,_,_,_,_,_,h,_,_=>by cases h
 |n+1,k,M,x,y,t,Q,h,h',q=>by
  have big:=bB;have ih:=fun M x y t Q=>w5 n k M x y t Q;show W ((cx srt (k+n+1)).fn "_law_alike" [x,y]) M Q;cases x with
  |tup xs =>
   obtain⟨hl,ts,h1,rfl⟩:=iJ h;cases y with
   |tup ys =>
    obtain⟨hl',ts',h1',e⟩:=iJ h';cases e;have UU:=gX h1;have UT:=gX h1';have el:xs.length=ys.length:=by walk_at "o"
    rw[aW "_law_alike" 2 2 bt rfl,wf,bt];walk_at "wr";refine sT rfl ?_;walk_at "wr";refine cF rfl (sF rfl ?_);walk_at "wr";refine sF (by rw[el];simp) ?_;walk_at "wr";refine⟨el,by rw[yI];walk_at "o",?_⟩;refine EX (c1:=none) (c2:=none) ih (fun x y M Q h=>by walk_at "wq";exact h) h1 h1' (fun _ _=>⟨trivial,trivial⟩) fun bs M' g hb=>?_;walk_at "wq";refine⟨_,ao _ _,bs,iw _,?_⟩
    have:bs.all id=true:=zB.mpr fun b h=>hb b h
    rw[this];exact q _ (g.snoc _)
   |ob j=>obtain⟨_,_,_,_,_,e⟩:=ke h';cases e
   |_=>cases h'
  |ob i =>
   obtain⟨xs,ts,hi,hl,h1,rfl⟩:=ke h;cases y with
   |ob j =>
    obtain⟨ys,ts',hj,hl',h1',e⟩:=ke h';cases e;have UU:=gX h1;have UT:=gX h1';have el:xs.length=ys.length:=by walk_at "o"
    rw[aW "_law_alike" 2 2 bt rfl,wf,bt];walk_at "wr";rw[lX hj,lX hj];walk_at "wr";refine sT rfl ?_;walk_at "wr";rw[lX hi,lX hi];walk_at "wr";refine cF rfl ?_;rw[lX hi];walk_at "wr";rw[lX hj];walk_at "wr";refine sF rfl ?_;walk_at "wr";refine⟨_,hi,_,hj,sF (by show (!((xs.length:Int)==(ys.length:Int)))=false;rw[el];simp) ?_⟩;walk_at "wr";refine⟨_,hi,_,hj,el,by rw[yI];walk_at "o",?_⟩;refine EX (c1:=some (i,xs)) (c2:=some (j,ys)) ih (fun x y M Q h=>by walk_at "wq";exact h) h1 h1' (fun M' g=>⟨g.keep _ _ hi,g.keep _ _ hj⟩) fun bs M' g hb=>?_;walk_at "wq";refine⟨_,ao _ _,bs,iw _,?_⟩
    have:bs.all id=true:=zB.mpr fun b h=>hb b h
    rw[this];exact q _ (g.snoc _)
   |tup ys=>obtain⟨_,_,_,e⟩:=iJ h';cases e
   |_=>cases h'
  |fl ds=>cases h
  |non =>
   cases h;cases y with
   |non =>
    rw[aW "_law_alike" 2 2 bt rfl,wf,bt];walk_at "wr";refine sF rfl ?_;walk_at "wr";exact⟨rfl,cT rfl ⟨rfl,cT rfl ⟨rfl,q M Gr.refl⟩⟩⟩
   |tup ys=>obtain⟨_,_,_,e⟩:=iJ h';cases e
   |ob j=>obtain⟨_,_,_,_,_,e⟩:=ke h';cases e
   |_=>cases h'
  |bl a =>
   cases h;cases y with
   |bl b =>
    cases h';rw[aW "_law_alike" 2 2 bt rfl,wf,bt];walk_at "wr";refine sF rfl ?_;walk_at "wr";refine⟨rfl,cF rfl ⟨rfl,sF rfl ?_⟩⟩;walk_at "wr";refine cT rfl (cT rfl (cT rfl ?_));rw[beq_self_eq_true];exact q M Gr.refl
   |tup ys=>obtain⟨_,_,_,e⟩:=iJ h';cases e
   |ob j=>obtain⟨_,_,_,_,_,e⟩:=ke h';cases e
   |_=>cases h'
  |int a =>
   cases h;cases y with
   |int b =>
    cases h';rw[aW "_law_alike" 2 2 bt rfl,wf,bt];walk_at "wr";refine sF rfl ?_;walk_at "wr";refine⟨rfl,cF rfl ⟨rfl,sF rfl ?_⟩⟩;walk_at "wr";refine cF rfl (sF rfl ?_);walk_at "wr";refine cF rfl (sF rfl ?_);walk_at "wr";rw[beq_self_eq_true];exact q M Gr.refl
   |tup ys=>obtain⟨_,_,_,e⟩:=iJ h';cases e
   |ob j=>obtain⟨_,_,_,_,_,e⟩:=ke h';cases e
   |_=>cases h'
  |str a =>
   cases h;cases y with
   |str b =>
    cases h';rw[aW "_law_alike" 2 2 bt rfl,wf,bt];walk_at "wr";refine sF rfl ?_;walk_at "wr";refine⟨rfl,cF rfl ⟨rfl,sF rfl ?_⟩⟩;walk_at "wr";refine cF rfl (sF rfl ?_);walk_at "wr";refine cF rfl (sF rfl ?_);walk_at "wr";rw[beq_self_eq_true];exact q M Gr.refl
   |tup ys=>obtain⟨_,_,_,e⟩:=iJ h';cases e
   |ob j=>obtain⟨_,_,_,_,_,e⟩:=ke h';cases e
   |_=>cases h'
end
end Law
namespace Law
open PySem L3
structure Cn (d:D) (hs:List Str) (fst bW:Int):Prop where
 is:d=.tup [.tup (hs.map .str),.int fst,.int bW]
 lo:1<=hs.length
 hi:hs.length<=8
 l0:1<=bW
 l1:bW<=1000000000
structure Ro where
 name:Str
 hands:List Str
 fst:Int
 bW:Int
noncomputable def Ro.rd(r:Ro):D:=.tup [.tup (r.hands.map .str),.int r.fst,.int r.bW]
noncomputable def d8(r:Ro):D:=.tup [.str r.name,r.rd]
structure Ro.Ok (r:Ro):Prop where
 lo:1<=r.hands.length
 hi:r.hands.length<=3
 nd:r.hands.Nodup
 l0:1<=r.bW
 l1:r.bW<=1000000
theorem Ro.Ok.rota{r:Ro}(h:r.Ok):Cn r.rd r.hands r.fst r.bW:=⟨rfl,h.lo,zO h.hi (by decide),h.l0,Int.le_trans h.l1 (by decide)⟩
section
variable {srt:Nat}{jt jw jn jv jr jh:Nat}{ns vs rs hs:List Str}
theorem NK{hs:List Str}(lh:hs.length=4)(nd:hs.Nodup)(p m:Nat)(hp:p<4)(hm:m<3):(((hs++hs).drop p).take (1+m)).Nodup:=by
 obtain⟨a,b,c,d,rfl⟩:∃a b c d,hs=[a,b,c,d]:=by
  rcases hs with _|⟨a,_|⟨b,_|⟨c,_|⟨d,_|⟨e,l⟩⟩⟩⟩⟩ <;> first|exact⟨_,_,_,_,rfl⟩|(exfalso;simp at lh)
 simp only[yA,zg,zE,or_false,not_or,not_false_eq_true,wR,and_true]at nd;obtain⟨⟨h1,h2,h3⟩,⟨h4,h5⟩,h6⟩:=nd;have k1:=Ne.symm h1;have k2:=Ne.symm h2;have k3:=Ne.symm h3;have k4:=Ne.symm h4;have k5:=Ne.symm h5;have k6:=Ne.symm h6;have ep:p=0\/p=1\/p=2\/p=3:=by walk_at "o"
 have em:m=0\/m=1\/m=2:=by walk_at "o"
 rcases ep with rfl|rfl|rfl|rfl <;> rcases em with rfl|rfl|rfl <;> simp[h1,h2,h3,h4,h5,h6,k1,k2,k3,k4,k5,k6]
theorem JP(k:Nat)(M:MH)(w:Wd M jt jw jn jv jr jh ns vs rs hs){Q:D->MH->Prop}
  (q:∀(ax:List Ro) (j:Nat) (M':MH),ax.map Ro.name=rs->(∀r∈ax,r.Ok)->Gx jt M M'->Tp M' jt->M.length<=j->M'[j]?=some (.lst (ax.map d8))->Q (.ob j) M'):W ((cx srt (k+2)).fn "_law_rotas" [.ob jt,.ob jw]) M Q:=by
 have big:=bB;have lh:=w.lh;have lr:=w.lr;have e6:((10:Int) ^ Int.toNat 6)=1000000:=by decide
 have lt:=w.T.lt;rw[aW "_law_rotas" 8 2 fW rfl,wf,fW];walk_at "wq";refine⟨by decide,?_⟩;generalize cj:M++[MO.lst []]=M1;have g1:Gr M M1:=cj▸Gr.app _ _;have e1:M1[M.length]?=some (.lst []):=cj▸ao _ _;clear cj;have w1:=w.keep g1;refine⟨_,w1.w,?_⟩;walk_at "wq";refine⟨_,ME,?_⟩;walk_at "wq";refine⟨_,w1.r,?_⟩;refine fw (fun n ρ M'=>∃ax:List Ro,ax.map Ro.name=rs.take n/\(∀r∈ax,r.Ok)/\Gx jt M M'/\Tp M' jt/\M'[M.length]?=some (.lst (ax.map d8))/\∃x3 x4 x5 x6 x7,ρ=[some (.ob jt),some (.ob jw),some (.ob M.length),x3,x4,x5,x6,x7])
  ⟨[],rfl,by simp,.of g1,w1.T,e1,_,_,_,_,_,rfl⟩ (fun n ρ M' ⟨_,_,_,g,T,_⟩=>(w.go g T).r) ?_ ?_
 ·rintro n d ρ M2 hd ⟨ax,hn,av,x2,T2,h2,x3,x4,x5,x6,x7,rfl⟩
  rw[ze]at hd;obtain⟨nm,Ng,rfl⟩:=zo.mp hd;have w2:=w.go x2 T2;walk_at "wq";refine aV k M2 T2 _ (by decide) fun r3 M3 a3 b3 x3 T3=>?_;have w3:=w2.go x3 T3;walk_at "wq";refine⟨_,w3.w,?_⟩;walk_at "wq";refine⟨_,Gg,_,w3.w,?_⟩;walk_at "wq";refine⟨_,Gg,?_⟩;walk_at "wq";refine⟨_,w3.h,_,w3.h,by rw[zu];walk_at "o",?_⟩;rw[<- zM];generalize iS:M3++[MO.lst ((hs++hs).map D.str)]=M4;have g4:Gr M3 M4:=iS▸Gr.app _ _;have e4:M4[M3.length]?=some (.lst ((hs++hs).map D.str)):=iS▸ao _ _;have n4:M3.length≠jt:=zI T3.lt;clear iS;generalize M3.length=j4 at e4 n4 ⊢;refine aV k M4 (T3.keep g4) _ (by decide) fun r5 M5 a5 b5 x5 T5=>?_;walk_at "wq";refine⟨_,x5.get n4 e4,⟨by decide,by decide,by decide⟩,?_⟩;obtain⟨p,rfl⟩:=yz a3;obtain⟨m,rfl⟩:=yz a5;have ec:cutD ((hs++hs).map D.str) (some (p:Int)) (some ((p:Int)+1+(m:Int)))=(((hs++hs).drop p).take (1+m)).map D.str:=by
   unfold cutD;simp only[dh];rw[if_neg (by walk_at "o"),if_neg (by walk_at "o"),zu,zf,lh,xp,wW];have c1:min (Int.toNat (p:Int)) (4+4)=p:=by walk_at "o"
   have c2:min (Int.toNat ((p:Int)+1+(m:Int))) (4+4)-p=1+m:=by walk_at "o"
   rw[c1,c2]
  rw[ec];have Ed:(((hs++hs).drop p).take (1+m)).length=1+m:=by
   rw[zY,zZ,zf,lh];walk_at "o"
  have vP:=NK lh w.hd p m (by walk_at "o") (by walk_at "o");generalize ((hs++hs).drop p).take (1+m)=hands at Ed vP ⊢;generalize i9:M5++[MO.lst (hands.map D.str)]=M6;have g6:Gr M5 M6:=i9▸Gr.app _ _;have e6':M6[M5.length]?=some (.lst (hands.map D.str)):=i9▸ao _ _;have n6:M5.length≠jt:=zI T5.lt;clear i9;generalize M5.length=j6 at e6' n6 ⊢;rw[e6];refine aV k M6 (T5.keep g6) _ (by decide) fun r7 M7 a7 b7 x7 T7=>?_;walk_at "wq";refine⟨by decide,?_⟩;generalize Nv:M7++[MO.lst [D.int 1,.int 3,.int (1+r7)]]=M8;have g8:Gr M7 M8:=Nv▸Gr.app _ _;have e8:M8[M7.length]?=some (.lst [D.int 1,.int 3,.int (1+r7)]):=Nv▸ao _ _;have n8:M7.length≠jt:=zI T7.lt;clear Nv;generalize M7.length=j8 at e8 n8 ⊢;refine aV k M8 (T7.keep g8) _ (by decide) fun r9 M9 a9 b9 x9 T9=>?_;walk_at "wq";refine⟨_,x9.get n8 e8,?_⟩;walk_at "wq";obtain⟨v,ev,hv⟩:=gf (xs:=[D.int 1,.int 3,.int (1+r7)]) a9 (by exact b9);obtain⟨lg,rfl,l0,l1⟩:∃lg:Int,v=.int lg/\1<=lg/\lg<=1000000:=by
   simp only[zg,zE,or_false]at hv;rcases hv with rfl|rfl|rfl
   ·exact⟨1,rfl,by decide,by decide⟩
   ·exact⟨3,rfl,by decide,by decide⟩
   ·exact⟨_,rfl,by walk_at "o",by walk_at "o"⟩
  have xa:Gx jt M3 M9:=((((Gx.of g4).trans x5).trans (.of g6)).trans x7).trans ((Gx.of g8).trans x9);have xb:Gx jt M M9:=(x2.trans x3).trans xa;have ne:M.length≠jt:=zI lt;refine⟨_,ev,_,(x3.trans xa).get ne h2,_,x9.get n6 ((Gx.of g8).get n6 (x7.get n6 e6')),aV k M9 T9 _ (by decide) fun rb Mb ab bb xc Tb=>?_⟩;have hb:Mb[M.length]?=some (.lst (ax.map d8)):=xc.get ne ((x3.trans xa).get ne h2);have XJ:ax.length=min n rs.length:=by
   have:=congrArg List.length hn
   rwa [zu,zY]at this
  walk_at "wq";refine⟨by decide,by decide,_,hb,by rw[zu];walk_at "o",ax++[⟨nm,hands,rb,lg⟩],?_,?_,(xb.trans xc).young (zr _) _,?_,?_,_,_,_,_,_,rfl⟩
  ·rw[zM,hn,yu,Ng]
   rfl
  ·intro r hr
   rcases zT.mp hr with z|z
   ·exact av r z
   ·rw[zG.mp z]
    exact⟨by show 1<=hands.length;walk_at "o",by show hands.length<=3;walk_at "o",vP,l0,l1⟩
  ·exact Tb.young lt _
  ·rw[dq hb,zM]
   rfl
 ·rintro ρ M2 ⟨ax,hn,av,x2,T2,h2,x3,x4,x5,x6,x7,rfl⟩
  rw[zu,zU]at hn;walk_at "wq";exact q ax _ _ hn av x2 T2 (zr _) h2
end
end Law
namespace Law
open PySem L3
section
variable {srt:Nat}
noncomputable def iG(n:Nat)(fst bW t:Int):Nat:=(((t-fst) / bW) % (n:Int)).toNat
theorem pB{n:Nat}(h:1<=n)(fst bW t:Int):((t-fst) / bW) % (n:Int)=(iG n fst bW t:Int):=by
 unfold iG;rw[Int.toNat_of_nonneg (xj _ (by walk_at "o"))]
theorem eh{n:Nat}(h:1<=n)(fst bW t:Int):iG n fst bW t<n:=by
 have:=yW ((t-fst) / bW) (show (0:Int)<n by walk_at "o")
 have:=pB h fst bW t
 walk_at "o"
theorem Fg(k:Nat)(M:MH){d:D}{hs:List Str}{fst bW:Int}(R:Cn d hs fst bW)(t:Int){Q:D->MH->Prop}(q:Q (.str (hs[iG hs.length fst bW t]'(eh R.lo _ _ _))) M):W ((cx srt (k+1)).fn "turn_of" [d,.int t]) M Q:=by
 have:=R.lo
 have:=R.l0
 have:=R.l1
 rw[R.is,aW "turn_of" 3 2 jc rfl,wf,jc];walk_at "wq";refine⟨⟨by walk_at "o",by walk_at "o"⟩,by rw[zu];walk_at "o",_,?_,q⟩;rw[zu,pB R.lo];refine bY ?_;rw[ze,zw (eh R.lo _ _ _)];rfl
end
end Law
namespace Law
open PySem L3
section
variable {srt:Nat}
structure Sw where
 one:Str
 dv:Str
 fst:Int
 lst:Int
noncomputable def mB(s:Sw):D:=.tup [.str s.one,.str s.dv,.int s.fst,.int s.lst]
structure Sw.Ok (s:Sw) (hs:List Str) (turn:Int):Prop where
 o1:s.one∈hs
 o2:s.dv∈hs
 ne:s.one≠s.dv
 f0:0<=s.fst
 fl:s.fst<s.lst
 f1:s.fst<=turn+2
 l1:s.lst<=turn+20
structure Ab where
 h:Str
 fst:Int
 lst:Int
noncomputable def ef(s:Ab):D:=.tup [.str s.h,.int s.fst,.int s.lst]
noncomputable def bR(s:Sw)(t:Int)(h:Str):Str:=if (decide (s.fst<=t)&&decide (t<s.lst)&&(h==s.one||h==s.dv))=true then (if h=s.one then s.dv else s.one) else h
noncomputable def bV(ss:List Sw)(t:Int)(h:Str):Str:=ss.foldl (fun h s=>bR s t h) h
noncomputable def iB(as:List Ab)(t:Int)(h:Str):Bool:=as.any fun a=>a.h==h&&(decide (a.fst<=t)&&decide (t<a.lst))
theorem nP(ss:List Sw)(s:Sw)(t:Int)(h:Str):bV (ss++[s]) t h=bR s t (bV ss t h):=by
 unfold bV;rw[List.foldl_append];rfl
theorem CO(k:Nat)(M:MH)(h:Str)(js:Nat)(ss:List Sw)(t:Int)(hj:M[js]?=some (.lst (ss.map mB))){Q:D->MH->Prop}(q:Q (.str (bV ss t h)) M):W ((cx srt (k+1)).fn "swapped" [.str h,.ob js,.int t]) M Q:=by
 rw[aW "swapped" 5 3 je rfl,wf,je];walk_at "wq";refine⟨_,hj,?_⟩;refine fw (fun n ρ M'=>M'=M/\∃x,ρ=[some (.str h),some (.ob js),some (.int t),some (.str (bV (ss.take n) t h)),x]) ⟨rfl,none,rfl⟩ (fun _ _ _ h=>by rw[h.1];exact hj) ?_ ?_
 ·rintro n d ρ M' hd ⟨rfl,x,rfl⟩
  rw[ze]at hd;obtain⟨s,hs,rfl⟩:=zo.mp hd;have step:bV (ss.take (n+1)) t h=bR s t (bV (ss.take n) t h):=by
   rw[yu,hs];exact nP _ _ _ _
  unfold mB;walk_at "wq";rw[step];generalize bV (ss.take n) t h=c;have e2:cutD [D.str s.one,D.str s.dv,D.int s.fst,D.int s.lst] none (some 2)=[D.str s.one,D.str s.dv]:=rfl;have e3:ip M' (.str c) [D.str s.one,D.str s.dv]=some (c==s.one||c==s.dv):=by
   rw[kr rfl rfl];show some (s.one==c||(s.dv==c||false))=_;rw[ww,xo (a:=s.one),xo (a:=s.dv)]
  refine⟨fun h1=>⟨fun h2=>?_,fun h2=>?_⟩,fun h1=>?_⟩
  ·rw[e2,e3]
   refine⟨_,rfl,fun h3=>⟨fun h4=>?_,fun h4=>?_⟩,fun h3=>?_⟩
   ·have e:bR s t c=s.dv:=by
     unfold bR;rw[h1,h2,h3,if_pos (by rfl),if_pos (beq_iff_eq.mp h4)]
    rw[e];exact⟨_,rfl⟩
   ·have e:bR s t c=s.one:=by
     unfold bR;rw[h1,h2,h3,if_pos (by rfl),if_neg (by simpa using h4)]
    rw[e];exact⟨_,rfl⟩
   ·have e:bR s t c=c:=by
     unfold bR;rw[h1,h2,h3,if_neg (by simp)]
    rw[e];exact⟨_,rfl⟩
  ·have e:bR s t c=c:=by
    unfold bR;rw[h1,h2,if_neg (by simp)]
   rw[e];exact⟨_,rfl⟩
  ·have e:bR s t c=c:=by
    unfold bR;rw[h1,if_neg (by simp)]
   rw[e];exact⟨_,rfl⟩
 ·rintro ρ M' ⟨rfl,x,rfl⟩
  rw[zu,zU];walk_at "wq";exact q
theorem Gi(k:Nat)(M:MH)(h:Str)(ja:Nat)(as:List Ab)(t:Int)(hl:as.length<=1000)(hj:M[ja]?=some (.lst (as.map ef))){Q:D->MH->Prop}(q:∀M',Gr M M'->Q (.bl (iB as t h)) M'):W ((cx srt (k+1)).fn "is_away" [.str h,.ob ja,.int t]) M Q:=by
 have big:=bB;rw[aW "is_away" 3 3 jg rfl,wf,jg];walk_at "wq";refine⟨_,hj,by rw[zu];walk_at "o",?_⟩;refine fk (fun n ys M'=>M'=M/\ys=((as.take n).map fun a=>a.h==h&&(decide (a.fst<=t)&&decide (t<a.lst))).map D.bl) ⟨rfl,rfl⟩ (fun _ _ _ h=>by rw[h.1];exact hj) ?_ ?_
 ·rintro n d ys M' hd ⟨rfl,rfl⟩
  rw[ze]at hd;obtain⟨a,ha,rfl⟩:=zo.mp hd;unfold ef;walk_at "wq";rw[yu,ha];refine⟨fun h1=>⟨fun h2=>?_,fun h2=>?_⟩,fun h1=>?_⟩
  ·simp[h1,h2]
  ·simp[h1,h2]
  ·simp[h1]
 ·rintro ys M' ⟨rfl,rfl⟩
  rw[zu,zU];walk_at "wq";refine⟨_,ao _ _,_,iw _,?_⟩;rw[vv];exact q _ (Gr.app _ _)
noncomputable def round(hs:List Str)(n:Nat):List Str:=hs.drop n++hs.take n
noncomputable def vF(hs:List Str)(as:List Ab)(t:Int)(h:Str):Option Str:=(round hs (hs.idxOf h)).find? fun x=>!iB as t x
noncomputable def sA:Option Str->D
 |none=>.non
 |some x=>.str x
theorem DV{hs:List Str}{h:Str}(hm:h∈hs):(hs.map D.str).findIdx? (fun d=>eP d (.str h))=some (hs.idxOf h):=by
 rw[yb];have hi:=xK.mpr hm;refine⟨by rw[zu];exact hi,?_,fun j hj=>?_⟩
 ·rw[xr]
  show (hs[hs.idxOf h]==h)=true;simp
 ·rw[xr]
  show ¬ (hs[j]==h)=true
  have:=List.not_of_lt_findIdx hj
  simpa using this
theorem Gz(k:Nat)(M:MH){d:D}{hs:List Str}{fst bW:Int}(R:Cn d hs fst bW)(js ja:Nat)(ss:List Sw)(as:List Ab)(t:Int)(hl:as.length<=1000)(hj:M[js]?=some (.lst (ss.map mB)))(vQ:M[ja]?=some (.lst (as.map ef)))
  (hm:bV ss t (hs[iG hs.length fst bW t]'(eh R.lo _ _ _))∈hs) {Q:D->MH->Prop} (q:∀M',Gr M M'->Q (sA (vF hs as t (bV ss t (hs[iG hs.length fst bW t]'(eh R.lo _ _ _))))) M'):W ((cx srt (k+2)).fn "hand_on" [d,.ob js,.ob ja,.int t]) M Q:=by
 have big:=bB
 have:=R.hi
 rw[aW "hand_on" 7 4 ji rfl,wf,ji,R.is];walk_at "wq";have R':=R;rw[R.is]at R';refine Fg k M R' t ?_;walk_at "wq";refine CO k M _ js ss t hj ?_;generalize bV ss t (hs[iG hs.length fst bW t]'(eh R.lo _ _ _))=h at hm q ⊢;walk_at "wq";refine⟨⟨rfl,by rw[xA,zB];exact fun _ _=>rfl⟩,_,DV hm,?_⟩;walk_at "wq";rw[NL _ (by walk_at "o"),oQ _ (by walk_at "o")];have en:((hs.idxOf h:Nat):Int).toNat=hs.idxOf h:=rfl;rw[en,<- wW,<- xp,<- zM];refine⟨by rw[zu,zu,zZ,zY];walk_at "o",?_⟩;unfold vF at q;show W (dI none 6 _ ((round hs (hs.idxOf h)).map D.str) _) M _;generalize round hs (hs.idxOf h)=rs at q ⊢;refine fw (fun n ρ M'=>Gr M M'/\(∀x∈rs.take n,iB as t x=true)/\∃x,ρ=[some (.tup [.tup (hs.map .str),.int fst,.int bW]),some (.ob js),some (.ob ja),some (.int t),some (.tup (hs.map .str)),some (.int (hs.idxOf h:Nat)),x]) ⟨Gr.refl,by simp,none,rfl⟩ (fun _ _ _ _=>trivial) ?_ ?_
 ·rintro n e ρ M' hd ⟨g,ha,x,rfl⟩
  rw[ze]at hd;obtain⟨y,hy,rfl⟩:=zo.mp hd;walk_at "wq";refine Gi k M' y ja as t hl (g.keep _ _ vQ) fun M2 g2=>?_;walk_at "wq";refine⟨fun h1=>?_,fun h1=>⟨g.trans g2,fun z hz=>?_,_,rfl⟩⟩
  ·have e:rs.find? (fun x=>!iB as t x)=some y:=by
    rw[yG];obtain⟨bU,hg⟩:=zv.mp hy;refine⟨h1,n,bU,hg,fun j hj=>?_⟩
    have:=ha rs[j] (yR.mpr ⟨j,by walk_at "o",rfl⟩)
    simp[this]
   have:=q M2 (g.trans g2)
   rw[e]at this;exact this
  ·rw[yu,hy]at hz
   rcases zT.mp hz with hz|hz
   ·exact ha z hz
   ·simp at hz
    subst hz;simpa using h1
 ·rintro ρ M' ⟨g,ha,x,rfl⟩
  rw[zu,zU]at ha;walk_at "wq";have e:rs.find? (fun x=>!iB as t x)=none:=by
   rw[xD];exact fun x hx=>by simp[ha x hx]
  have:=q M' g
  rw[e]at this;exact this
end
end Law
namespace Law
open PySem L3
section
variable {srt:Nat}
theorem C4(hs:List Str)(n j:Nat)(hn:n<hs.length)(hj:j<hs.length):(round hs n)[j]?=hs[(n+j) % hs.length]?:=by
 unfold round;by_cases h:j<hs.length-n
 ·rw[zD (by rw[zZ];exact h),wp,xQ (by walk_at "o")]
 ·rw[zd (by rw[zZ];walk_at "o"),zZ,xI (by walk_at "o"),Nat.mod_eq_sub_mod (by walk_at "o"),xQ (by walk_at "o")]
  congr 1;walk_at "o"
theorem C3(hs:List Str)(n:Nat):(round hs n).length=hs.length:=by
 unfold round;rw[zf,zZ,zY];walk_at "o"
theorem EW{α:Type}(p:α->Bool):∀xs:List α,xs.any p=!(xs.filter p).isEmpty
 |[]=>rfl
 |x::xs=>by
  rw[yJ,List.filter_cons];cases h:p x with
  |true=>rfl
  |false =>
   rw[if_neg zt,wS];exact EW p xs
theorem VH{M:MH}{x:Str}{s:Sw}:ip M (.str x) [D.str s.one,.str s.dv]=some (x==s.one||x==s.dv):=by
 rw[kr rfl rfl];show some (s.one==x||(s.dv==x||false))=_;rw[ww,xo (a:=s.one),xo (a:=s.dv)]
theorem QZ(k:Nat)(M:MH){d:D}{hs:List Str}{fst bW:Int}(R:Cn d hs fst bW)(js ja:Nat)(ss:List Sw)(as:List Ab)(t:Int)(hl:as.length<=1000)(hj:M[js]?=some (.lst (ss.map mB)))(vQ:M[ja]?=some (.lst (as.map ef)))
  (hm:bV ss t (hs[iG hs.length fst bW t]'(eh R.lo _ _ _))∈hs) {Q:D->MH->Prop} (q:∀M',Gr M M'->Q (sA (vF hs as t (bV ss t (hs[iG hs.length fst bW t]'(eh R.lo _ _ _))))) M'):W ((cx srt (k+1)).fn "_law_on" [d,.ob js,.ob ja,.int t]) M Q:=by
 have big:=bB;have lo:=R.lo;have hi:=R.hi;have l0:=R.l0;have l1:=R.l1;rw[aW "_law_on" 12 4 jy rfl,wf,jy,R.is];walk_at "wq";generalize cj:M++[MO.lst (hs.map D.str)]=M1;have g1:Gr M M1:=cj▸Gr.app _ _;have e1:M1[M.length]?=some (.lst (hs.map D.str)):=cj▸ao _ _;clear cj;generalize M.length=jl at e1 ⊢;have oA:tO (.lst (hs.map D.str))=hs.length:=by show (((hs.map D.str).length:Nat):Int)=_;rw[zu]
 refine⟨⟨by walk_at "o",by walk_at "o"⟩,_,e1,?_⟩;rw[oA];refine⟨by walk_at "o",?_⟩;rw[pB lo];have MW:=eh lo fst bW t;refine⟨_,e1,?_⟩;walk_at "wq";refine⟨.str (hs[iG hs.length fst bW t]'MW),bY (by rw[ze,zw MW];rfl),_,g1.keep _ _ hj,?_⟩;generalize hs[iG hs.length fst bW t]'MW=h0 at hm q ⊢;generalize iG hs.length fst bW t=ti;refine Jw (fun n ρ M'=>Gr M1 M'/\∃x7 x8 x9 eN,ρ=[some (.tup [.tup (hs.map .str),.int fst,.int bW]),some (.ob js),some (.ob ja),some (.int t),some (.ob jl),some (.int (ti:Int)),some (.str (bV (ss.take n) t h0)),x7,x8,x9,eN,none])
  ⟨Gr.refl,none,none,none,none,rfl⟩ (fun _ _ _ h=>h.1.keep _ _ (g1.keep _ _ hj)) ?_ ?_
 ·rintro n e ρ M2 hd ⟨g2,x7,x8,x9,eN,rfl⟩
  rw[ze]at hd;obtain⟨s,hs',rfl⟩:=zo.mp hd;have step:bV (ss.take (n+1)) t h0=bR s t (bV (ss.take n) t h0):=by
   rw[yu,hs'];exact nP _ _ _ _
  refine⟨_,_,rfl,rfl,?_⟩;walk_at "wq";rw[step];generalize bV (ss.take n) t h0=c;refine⟨fun z1=>⟨fun z2=>⟨by decide,_,VH,fun z3=>?_,fun z3=>?_⟩,fun z2=>?_⟩,fun z1=>?_⟩
  ·refine⟨by decide,?_⟩
   have e:bR s t c=if c=s.one then s.dv else s.one:=by
    unfold bR;rw[z1,z2,z3];rfl
   rw[e];by_cases z4:c=s.one
   ·refine⟨_,ao _ _,?_⟩
    have z5:(c==s.one)=true:=by simpa using z4
    rw[if_pos z4,z5];walk_at "wq";exact⟨_,VU,g2.snoc _,_,_,_,_,rfl⟩
   ·refine⟨_,ao _ _,?_⟩
    have z5:(c==s.one)=false:=by simpa using z4
    rw[if_neg z4,z5];walk_at "wq";exact⟨_,VW,g2.snoc _,_,_,_,_,rfl⟩
  ·have e:bR s t c=c:=by
    unfold bR;rw[z1,z2,z3,if_neg (by simp)]
   rw[e];exact⟨g2,_,_,_,_,rfl⟩
  ·have e:bR s t c=c:=by
    unfold bR;rw[z1,z2,if_neg (by simp)]
   rw[e];exact⟨g2,_,_,_,_,rfl⟩
  ·have e:bR s t c=c:=by
    unfold bR;rw[z1,if_neg (by simp)]
   rw[e];exact⟨g2,_,_,_,_,rfl⟩
 rintro ρ M2 ⟨g2,x7,x8,x9,eN,rfl⟩;rw[zu,zU];generalize bV ss t h0=h at hm q ⊢;have e2:=g2.keep _ _ e1;have gm:=g1.trans g2;walk_at "wq";refine⟨_,e2,_,e2,⟨rfl,by rw[xA,zB];exact fun _ _=>rfl⟩,_,DV hm,?_⟩;have qF:=xK.mpr hm;unfold vF at q;generalize hs.idxOf h=ix at qF q ⊢;walk_at "wq";refine⟨_,e2,?_⟩;rw[oA];refine⟨⟨by walk_at "o",by walk_at "o"⟩,?_⟩;have rg:=fun j hj=>C4 hs ix j qF hj;have rl:=C3 hs ix;generalize round hs ix=ro at rg rl q;refine fw (fun n ρ M'=>Gr M M'/\M'[jl]?=some (.lst (hs.map D.str))/\(∀x∈ro.take n,iB as t x=true)/\∃x6 i4,ρ=[some (.tup [.tup (hs.map .str),.int fst,.int bW]),some (.ob js),some (.ob ja),some (.int t),some (.ob jl),some (.int (ix:Nat)),x6,x7,x8,x9,eN,i4])
  ⟨gm,e2,by simp,_,_,rfl⟩ (fun _ _ _ _=>trivial) ?_ ?_
 ·rintro n e ρ M3 hd ⟨g3,e3,ha,x6,i4,rfl⟩
  obtain⟨rfl,hn⟩:=vg hd;have hn:n<hs.length:=by walk_at "o"
  have bU:(ix+n) % hs.length<hs.length:=vq _ (by walk_at "o");walk_at "wq";refine⟨_,e3,?_⟩;rw[oA];have ei:((ix:Nat):Int)+(0+(n:Int))=((ix+n:Nat):Int):=by walk_at "o"
  rw[ei,<- wF];refine⟨by walk_at "o",_,e3,?_⟩;walk_at "wq";refine⟨.str hs[(ix+n) % hs.length],bY (by rw[ze,zw bU];rfl),_,g3.keep _ _ vQ,by rw[zu];walk_at "o",?_⟩;have MZ:ro[n]?=some hs[(ix+n) % hs.length]:=by rw[rg n hn,zw bU]
  generalize hs[(ix+n) % hs.length]=y at MZ ⊢;refine fk (fun m ys M'=>M'=M3/\ys=((as.take m).filter fun a=>a.h==y&&(decide (a.fst<=t)&&decide (t<a.lst))).map ef) ⟨rfl,rfl⟩ (fun _ _ _ h=>by rw[h.1];exact g3.keep _ _ vQ) ?_ ?_
  ·rintro m e ys M4 hd ⟨rfl,rfl⟩
   rw[ze]at hd;obtain⟨a,ha,rfl⟩:=zo.mp hd;unfold ef;walk_at "wq";rw[yu,ha,wk,zM];refine⟨fun z1=>⟨fun z2=>⟨fun z3=>?_,fun z3=>?_⟩,fun z2=>?_⟩,fun z1=>?_⟩
   ·simp[z1,z2,z3,ef]
   ·simp[z1,z2,z3]
   ·simp[z1,z2]
   ·simp[z1]
  ·rintro ys M4 ⟨rfl,rfl⟩
   rw[zu,zU];walk_at "wq";refine⟨by decide,?_⟩;rw[tj];refine⟨_,NF ((Gr.app _ _).keep _ _ (ao _ _)) (ao _ _),?_⟩;rw[List.isEmpty_map];have ea:iB as t y=!(as.filter fun a=>a.h==y&&(decide (a.fst<=t)&&decide (t<a.lst))).isEmpty:=EW _ as;generalize (as.filter fun a=>a.h==y&&(decide (a.fst<=t)&&decide (t<a.lst))).isEmpty=b at ea ⊢;generalize Qg:(M4++[MO.lst _])++[MO.lst []]=M5;have g5:Gr M4 M5:=Qg▸(Gr.app _ _).snoc _;clear Qg;refine⟨_,rfl,fun z=>?_,fun z=>?_⟩
   ·walk_at "wq"
    have e:ro.find? (fun x=>!iB as t x)=some y:=by
     rw[yG];obtain⟨bU,hg⟩:=zv.mp MZ;refine⟨by rw[ea,z];rfl,n,bU,hg,fun j hj=>?_⟩
     have:=ha ro[j] (yR.mpr ⟨j,by walk_at "o",rfl⟩)
     simp[this]
    have:=q M5 (g3.trans g5)
    rw[e]at this;exact this
   ·walk_at "wq"
    refine⟨g3.trans g5,g5.keep _ _ e3,fun x hx=>?_,_,_,rfl⟩;rw[yu,MZ]at hx;rcases zT.mp hx with hx|hx
    ·exact ha x hx
    ·simp at hx
     subst hx;rw[ea,z];rfl
 ·rintro ρ M3 ⟨g3,e3,ha,x6,i4,rfl⟩
  rw[iC]at ha;have en:((hs.length:Int)-0).toNat=ro.length:=by walk_at "o"
  rw[en,zU]at ha;walk_at "wq";have e:ro.find? (fun x=>!iB as t x)=none:=by
   rw[xD];exact fun x hx=>by simp[ha x hx]
  have:=q M3 g3
  rw[e]at this;exact this
end
end Law
namespace Law
open PySem L3
structure Sn where
 rn:Str
 sw:Sw
noncomputable def dQ(s:Sn):D:=.tup [.str s.rn,.str s.sw.one,.str s.sw.dv,.int s.sw.fst,.int s.sw.lst]
noncomputable def RK(ax:List Ro)(s:Sn):Prop:=∃r∈ax,r.name=s.rn/\s.sw.one∈r.hands/\s.sw.dv∈r.hands
noncomputable def gE(c:Str)(ss:List Sn):List Sw:=(ss.filter fun s=>s.rn==c).map Sn.sw
noncomputable def ES(r:Ro)(ss:List Sn)(as:List Ab)(t:Int):Option Str:=match r.hands[iG r.hands.length r.fst r.bW t]? with
 |some h=>vF r.hands as t (bV (gE r.name ss) t h)
 |none=>none
structure Rec (M:MH) (jo js ja:Nat) (ax:List Ro) (ss:List Sn) (as:List Ab):Prop where
 o:M[jo]?=some (.lst (ax.map d8))
 s:M[js]?=some (.lst (ss.map dQ))
 a:M[ja]?=some (.lst (as.map ef))
structure gj (ax:List Ro) (ss:List Sn) (as:List Ab):Prop where
 ok:∀r∈ax,r.Ok
 nd:(ax.map Ro.name).Nodup
 sn:∀s∈ss,RK ax s
 lo:ax.length<=1000
 ls:ss.length<=1000
 la:as.length<=1000
section
variable {srt:Nat}{jo js ja:Nat}{ax:List Ro}{ss:List Sn}{as:List Ab}
theorem u7(hs:List Str)(t:Int):∀(ws:List Sw) (h:Str),(∀s∈ws,s.one∈hs/\s.dv∈hs)->h∈hs->bV ws t h∈hs
 |[],_,_,hm=>hm
 |s::r,h,hw,hm=>by
  show bV r t (bR s t h)∈hs;refine u7 hs t r _ (fun x hx=>hw x (zV _ hx)) ?_;have ok:=hw s zR;unfold bR;split
  ·split
   ·exact ok.2
   ·exact ok.1
  ·exact hm
theorem qu(nd:(ax.map Ro.name).Nodup){r r':Ro}(h:r∈ax)(h':r'∈ax)(e:r.name=r'.name):r=r':=by
 obtain⟨i,hi,rfl⟩:=yD h;obtain⟨j,hj,rfl⟩:=yD h'
 have:i=j:=by
  have e2:(ax.map Ro.name)[i]'(by rw[zu];exact hi)=(ax.map Ro.name)[j]'(by rw[zu];exact hj):=by rw[xr,xr];exact e
  exact(xv nd).mp e2
 subst this;rfl
theorem gj.PC(K:gj ax ss as){r:Ro}(hr:r∈ax)(t:Int):bV (gE r.name ss) t (r.hands[iG r.hands.length r.fst r.bW t]'(eh (K.ok r hr).lo _ _ _))∈r.hands:=by
 refine u7 _ _ _ _ (fun s hs=>?_) (yd _);obtain⟨n,hn,rfl⟩:=yP.mp hs;obtain⟨h1,h2⟩:=xT.mp hn;obtain⟨r',h3,h4,h5,h6⟩:=K.sn n h1
 have:r'=r:=qu K.nd h3 hr (h4.trans (by simpa using h2))
 subst this;exact⟨h5,h6⟩
theorem ER(K:gj ax ss as){r:Ro}(hr:r∈ax)(t:Int):ES r ss as t=vF r.hands as t (bV (gE r.name ss) t (r.hands[iG r.hands.length r.fst r.bW t]'(eh (K.ok r hr).lo _ _ _))):=by
 unfold ES;rw[zw (eh (K.ok r hr).lo _ _ _)]
theorem HK{M:MH}{c:Str}{j:Nat}{ρ:Ev}{cc:Ev->Mo Bool}{e:Ev->Mo D}(h:M[j]?=some (.lst (ss.map dQ)))(hc:∀(s:Sn) M (B:Bool->MH->Prop),B (s.rn==c) M->W (cc (some (dQ s)::ρ)) M B)
  (he:∀(s:Sn) M (Q:D->MH->Prop),Q (mB s.sw) M->W (e (some (dQ s)::ρ)) M Q) {L:List D->MH->Prop} (q:L ((gE c ss).map mB) M):W (dJ (some (j,ss.map dQ)) cc e ρ (ss.map dQ)) M L:=by
 refine fk (fun n ys M'=>M'=M/\ys=(gE c (ss.take n)).map mB) ⟨rfl,rfl⟩ (fun _ _ _ z=>by rw[z.1];exact h) ?_ ?_
 ·rintro n d ys M' hd ⟨rfl,rfl⟩
  rw[ze]at hd;obtain⟨s,hs,rfl⟩:=zo.mp hd;have step:gE c (ss.take (n+1))=gE c (ss.take n)++if s.rn==c then [s.sw] else []:=by
   unfold gE;rw[yu,hs,wk,zM];congr 1;cases h2:s.rn==c <;> simp[h2]
  refine hc s _ _ ⟨fun z=>he s _ _ ⟨rfl,?_⟩,fun z=>⟨rfl,?_⟩⟩
  ·rw[step,z,zM]
   rfl
  ·rw[step,z,zM]
   simp
 ·rintro ys M' ⟨rfl,rfl⟩
  rw[zu,zU];exact q
theorem Ko{c:Str}{n:Nat}{r:Ro}(h:ax[n]?=some r)(hb:∀x∈ax.take n,x.name≠c)(hc:r.name=c):(ax.find? fun r=>r.name==c)=some r:=by
 rw[yG];obtain⟨bU,hg⟩:=zv.mp h;refine⟨by simpa using hc,n,bU,hg,fun j hj=>?_⟩
 have:=hb ax[j] (yR.mpr ⟨j,by walk_at "o",rfl⟩)
 simpa using this
theorem vI(k:Nat)(M:MH)(ho:M[jo]?=some (.lst (ax.map d8)))(c:Str){r:Ro}(hf:(ax.find? fun r=>r.name==c)=some r){Q:D->MH->Prop}(q:Q r.rd M):W ((cx srt (k+1)).fn "rota_named" [.ob jo,.str c]) M Q:=by
 rw[aW "rota_named" 3 2 dz rfl,wf,dz];walk_at "wq";refine⟨_,ho,?_⟩;refine fw (fun n ρ M'=>M'=M/\(∀x∈ax.take n,x.name≠c)/\∃x,ρ=[some (.ob jo),some (.str c),x]) ⟨rfl,by simp,none,rfl⟩ (fun _ _ _ z=>by rw[z.1];exact ho) ?_ ?_
 ·rintro n d ρ M2 hd ⟨rfl,hb,x,rfl⟩
  rw[ze]at hd;obtain⟨r',hr,rfl⟩:=zo.mp hd;unfold d8;walk_at "wq";refine⟨fun z=>?_,fun z=>⟨fun x hx=>?_,_,rfl⟩⟩
  ·have:=Ko hr hb (by simpa using z)
   rw[hf]at this;cases this;exact q
  ·rw[yu,hr]at hx
   rcases zT.mp hx with hx|hx
   ·exact hb x hx
   ·simp at hx
    subst hx;simpa using z
 ·rintro ρ M2 ⟨rfl,hb,x,rfl⟩
  rw[zu,zU]at hb;obtain⟨h1,_⟩:=xn.mp hf;exact absurd (by simpa using h1) (hb r (yS hf))
theorem CH(k:Nat)(M:MH)(ho:M[jo]?=some (.lst (ax.map d8)))(c:Str)(hf:∀r∈ax,r.name≠c){Q:D->MH->Prop}(q:Q .non M):W ((cx srt (k+1)).fn "rota_named" [.ob jo,.str c]) M Q:=by
 rw[aW "rota_named" 3 2 dz rfl,wf,dz];walk_at "wq";refine⟨_,ho,?_⟩;refine fw (fun n ρ M'=>M'=M/\∃x,ρ=[some (.ob jo),some (.str c),x]) ⟨rfl,none,rfl⟩ (fun _ _ _ z=>by rw[z.1];exact ho) ?_ ?_
 ·rintro n d ρ M2 hd ⟨rfl,x,rfl⟩
  rw[ze]at hd;obtain⟨r',hr,rfl⟩:=zo.mp hd
  have:=hf r' (zF hr)
  unfold d8;walk_at "wq";refine⟨fun z=>absurd (by simpa using z) this,fun z=>⟨_,rfl⟩⟩
 ·rintro ρ M2 ⟨rfl,x,rfl⟩
  walk_at "wq";exact q
theorem GA(k:Nat)(M:MH)(R:Rec M jo js ja ax ss as)(K:gj ax ss as)(c:Str){r:Ro}(hf:(ax.find? fun r=>r.name==c)=some r)(t:Int){Q:D->MH->Prop}(q:∀M',Gr M M'->Q (sA (ES r ss as t)) M') :
  W ((cx srt (k+3)).fn "hand_by" [.str c,.int t,.ob jo,.ob js,.ob ja]) M Q:=by
 have big:=bB;have ls:=K.ls;have lI:=yS hf;have hc:r.name=c:=by
  obtain⟨h1,_⟩:=xn.mp hf;simpa using h1
 rw[aW "hand_by" 6 5 jj rfl,wf,jj];walk_at "wq";refine⟨_,R.s,by rw[zu];walk_at "o",HK (c:=c) R.s (fun s M B h=>by unfold dQ;walk_at "wq";exact h) (fun s M Q h=>by unfold dQ;walk_at "wq";exact h) ?_⟩;walk_at "wq";refine vI (k+1) _ ((Gr.app _ _).keep _ _ R.o) c hf ?_;walk_at "wq";subst hc;refine Gz k _ (K.ok r lI).rota _ ja (gE r.name ss) as t K.la (ao _ _) ((Gr.app _ _).keep _ _ R.a) (K.PC lI t) fun M3 g3=>?_
 have:=q M3 ((Gr.app _ _).trans g3)
 rw[ER K lI]at this;exact this
end
end Law
namespace L3
open PySem
section
variable {Γ:Ctx}{ρ:Ev}{M:MH}{F:Fl->MH->Prop}
theorem Fc{c:IC}{b:aI}:W (bc Γ (.whileS c b) ρ) M F=W (dO (bg Γ c) (aq Γ b) Γ.wh ρ) M F:=by delta W;simp only[qX]
theorem Ju{c:Ev->Mo Bool}{body:Ev->Mo Fl}(I:Nat->Ev->MH->Prop)
  (hs:∀n ρ M,I n ρ M->W (c ρ) M fun b M1=>(b=true->∃m,n=m+1/\W (body ρ) M1 fun f M2=>match f with|.nx ρ'=>I m ρ' M2|.ct ρ'=>I m ρ' M2|.bk ρ'=>F (.nx ρ') M2|.rt v=>F (.rt v) M2)/\(b=false->F (.nx ρ) M1)) :
  ∀(n:Nat) (ρ:Ev) (M:MH),I n ρ M->W (dO c body (n+1) ρ) M F:=by
 intro n;induction n with
 |zero =>
  intro ρ M hI;unfold dO;rw[ar];refine(hs 0 ρ M hI).mono fun b M1 h=>?_;cases b with
  |false=>rw[if_neg zt];exact(ak _ _ _).mpr (h.2 rfl)
  |true=>obtain⟨m,e,_⟩:=h.1 rfl;cases e
 |succ n ih =>
  intro ρ M hI;unfold dO;rw[ar];refine(hs _ ρ M hI).mono fun b M1 h=>?_;cases b with
  |false=>rw[if_neg zt];exact(ak _ _ _).mpr (h.2 rfl)
  |true =>
   obtain⟨m,e,hw⟩:=h.1 rfl;cases e;rw[if_pos rfl,ar];refine hw.mono fun f M2 hf=>?_;cases f with
   |nx ρ'=>exact ih ρ' M2 hf
   |ct ρ'=>exact ih ρ' M2 hf
   |bk ρ'=>exact(ak _ _ _).mpr hf
   |rt v=>exact(ak _ _ _).mpr hf
end
end L3
namespace Law
open PySem L3
section
variable {srt:Nat}
theorem bI(k:Nat):(cx srt k).hc=srt:=by cases k <;> rfl
theorem Oe(k:Nat):(cx srt k).wh=1000:=by cases k <;> rfl
theorem gO{ck:Option (Nat×List D)}{M:MH}{cc:Ev->Mo Bool}{e:Ev->Mo D}{ρ:Ev}{L:List D->MH->Prop}(h:fK ck M)(q:L [] M):W (dJ ck cc e ρ []) M L :=
 fk (fun n ys M'=>M'=M/\ys=[]) ⟨rfl,rfl⟩ (fun _ _ _ z=>by rw[z.1];exact h) (fun n d ys M' hd=>by cases hd) (by rintro ys M' ⟨rfl,rfl⟩;exact q)
theorem oo{ck:Option (Nat×List D)}{M:MH}{i:Nat}{body:Ev->Mo Fl}{ρ:Ev}{F:Fl->MH->Prop}(h:fK ck M)(q:F (.nx ρ) M):W (dI ck i body [] ρ) M F :=
 fw (fun n ρ' M'=>M'=M/\ρ'=ρ) ⟨rfl,rfl⟩ (fun _ _ _ z=>by rw[z.1];exact h) (fun n d ys M' hd=>by cases hd) (by rintro ρ' M' ⟨rfl,rfl⟩;exact q)
theorem len0:([]:List D).length<=zp:=yq _
theorem set_same{M:MH}{k:Nat}{o:MO}(h:M[k]?=some o):M.set k o=M:=by
 obtain⟨hl,rfl⟩:=zv.mp h;exact List.set_getElem_self hl
theorem DD(k:Nat)(M:MH)(tr d3:D)(t:Int)(jS jQ:Nat)(hS:M[jS]?=some (.lst []))(hQ:M[jQ]?=some (.lst [])){Q:D->MH->Prop}
  (q:∀(j:Nat) (M':MH),Gr M M'->M.length<=j->M'[j]?=some (.lst [])->Q (.ob j) M'):W ((cx srt (k+1)).fn "members" [tr,.ob jS,.ob jQ,d3,.int t]) M Q:=by
 rw[aW "members" 10 5 jf rfl,wf,jf];walk_at "wq";refine⟨_,hS,len0,gO hS ?_⟩;walk_at "wq";generalize cj:M++[MO.lst []]=M1;have g1:Gr M M1:=cj▸Gr.app _ _;have e1:M1[M.length]?=some (.lst []):=cj▸ao _ _;clear cj;refine⟨_,g1.keep _ _ hQ,len0,gO (g1.keep _ _ hQ) ?_⟩;walk_at "wq";generalize gy:M1++[MO.lst []]++[MO.aY []]=M2;have g2:Gr M1 M2:=gy▸(Gr.app _ _).snoc _;have e2:M2[(M1++[MO.lst []]).length]?=some (.aY []):=gy▸ao _ _;clear gy;generalize (M1++[MO.lst []]).length=j2 at e2 ⊢;refine⟨_,g2.keep _ _ e1,oo (g2.keep _ _ e1) ?_⟩;walk_at "wq";refine⟨_,e2,rfl,?_⟩;refine⟨_,ao _ _,len0,gO (ao _ _) ?_⟩;walk_at "wq";have g:=g1.trans (g2.snoc (MO.lst []));exact q _ _ (g.snoc _) g.len (ao _ _)
theorem GV(k:Nat)(M:MH)(tr d3:D)(t:Int)(jS jG:Nat)(hS:M[jS]?=some (.lst []))(hG:M[jG]?=some (.lst [])){Q:D->MH->Prop}
  (q:∀(j j':Nat) (M':MH),Gr M M'->M.length<=j->M'[j]?=some (.lst [])->M'[j']?=some (.lst [])->Q (.tup [.ob j,.ob j']) M'):W ((cx srt (k+1)).fn "closed" [tr,.ob jS,.ob jG,d3,.int t]) M Q:=by
 rw[aW "closed" 11 5 kI rfl,wf,kI];walk_at "wq";generalize cj:M++[MO.aY []]=M1;have g1:Gr M M1:=cj▸Gr.app _ _;clear cj;refine⟨_,g1.keep _ _ hS,oo (g1.keep _ _ hS) ?_⟩;walk_at "wq";refine⟨by decide,by decide,?_⟩;generalize gy:M1++[MO.lst []]++[MO.lst []]=M2;have g2:Gr M1 M2:=gy▸(Gr.app _ _).snoc _;have e2:M2[M1.length]?=some (.lst []):=gy▸(Gr.app _ _).keep _ _ (ao _ _);have e3:M2[(M1++[MO.lst []]).length]?=some (.lst []):=gy▸ao _ _;clear gy;have g:=g1.trans g2;refine⟨_,g.keep _ _ hG,len0,gO (g.keep _ _ hG) ?_⟩;walk_at "wq";refine⟨_,ao _ _,oo (ao _ _) ?_⟩;walk_at "wq";exact⟨by decide,q _ _ _ (g.snoc _) g1.len ((Gr.app _ _).keep _ _ e2) ((Gr.app _ _).keep _ _ e3)⟩
structure uA (M:MH) (a1 a2 a3 a4 a5:Nat):Prop where
 e1:M[a1]?=some (.lst [])
 e2:M[a2]?=some (.lst [])
 e5:M[a5]?=some (.lst [])
theorem uA.keep{M M':MH}{a1 a2 a3 a4 a5:Nat}(r:uA M a1 a2 a3 a4 a5)(g:Gr M M'):uA M' a1 a2 a3 a4 a5:=⟨g.keep _ _ r.e1,g.keep _ _ r.e2,g.keep _ _ r.e5⟩
theorem u3(k:Nat)(M:MH)(tr:D)(t:Int){a1 a2 a3 a4 a5:Nat}(R:uA M a1 a2 a3 a4 a5)(jS jG:Nat)(hS:M[jS]?=some (.lst []))(hG:M[jG]?=some (.lst [])){Q:D->MH->Prop}
  (q:∀(j j':Nat) (M':MH),Gr M M'->M.length<=j->M'[j]?=some (.lst [])->M'[j']?=some (.lst [])->Q (.tup [.ob j,.ob j']) M'):W ((cx srt (k+2)).fn "all_closed" [tr,.tup [.ob a1,.ob a2,.ob a3,.ob a4,.ob a5],.ob jS,.ob jG,.int t]) M Q:=by
 rw[aW "all_closed" 6 5 fT rfl,wf,fT];walk_at "wq";refine⟨_,R.e5,len0,gO R.e5 ?_⟩;walk_at "wq";have g:=Gr.app M [MO.lst []];exact GV k _ tr _ t jS jG (g.keep _ _ hS) (g.keep _ _ hG) fun j j' M' g' l' e e'=>q j j' M' (g.trans g') (zO g.len l') e e'
theorem Kw(k:Nat)(M:MH)(t t':Int){a1 a2 a3 a4 a5:Nat}(R:uA M a1 a2 a3 a4 a5){Q:D->MH->Prop}
  (q:∀(j:Nat) (M':MH),Gr M M'->M.length<=j->M'[j]?=some (.lst [])->Q (.ob j) M'):W ((cx srt (k+1)).fn "edges_within" [.tup [.ob a1,.ob a2,.ob a3,.ob a4,.ob a5],.int t,.int t']) M Q:=by
 rw[aW "edges_within" 6 3 eI rfl,wf,eI];walk_at "wq";refine⟨_,R.e5,len0,gO R.e5 ?_⟩;walk_at "wq";generalize cj:M++[MO.lst []]=M1;have g1:Gr M M1:=cj▸Gr.app _ _;have e1:M1[M.length]?=some (.lst []):=cj▸ao _ _;clear cj;have R1:=R.keep g1;refine⟨_,R1.e1,oo R1.e1 ?_⟩;walk_at "wq";refine⟨_,R1.e2,oo R1.e2 ?_⟩;walk_at "wq";refine⟨_,e1,len0,gO e1 ?_⟩;walk_at "wq";refine⟨_,ao _ _,rfl,?_⟩;have g:=g1.trans (Gr.app M1 [MO.lst []]);exact q _ _ (g.snoc _) g.len (ao _ _)
theorem Mw(k:Nat)(M:MH)(t t':Int)(jS jE:Nat)(hS:M[jS]?=some (.lst []))(hE:M[jE]?=some (.lst [])){Q:D->MH->Prop}
  (q:∀(M':MH),Gr M M'->Q (.int t') M'):W ((cx srt (k+1)).fn "next_turn" [.int t,.ob jS,.ob jE,.int t']) M Q:=by
 rw[aW "next_turn" 5 4 gQ rfl,wf,gQ];walk_at "wq";refine⟨_,hE,len0,gO hE ?_⟩;walk_at "wq";generalize cj:M++[MO.lst []]=M1;have g1:Gr M M1:=cj▸Gr.app _ _;have e1:M1[M.length]?=some (.lst []):=cj▸ao _ _;clear cj;refine⟨_,e1,_,g1.keep _ _ hS,len0,gO (g1.keep _ _ hS) ?_⟩;walk_at "wq";have e2:=(Gr.app M1 [MO.lst []]).keep _ _ e1;refine⟨_,ao _ _,_,e2,⟨by decide,by simpa using zI (aQ e1)⟩,?_⟩;rw[zJ,set_same e2];exact⟨_,e2,rfl,q _ (g1.snoc _)⟩
theorem DL(k:Nat)(M:MH)(t t':Int)(h:t<=t'){Q:D->MH->Prop}(q:Q .non M):W ((cx srt (k+1)).fn "refuse_late" [.int t',.int t]) M Q:=by
 rw[aW "refuse_late" 2 2 eT rfl,wf,eT];walk_at "wq";exact⟨fun z=>absurd (of_decide_eq_true z) (by walk_at "o"),fun _=>q⟩
theorem AL(k:Nat)(M:MH)(tr d1 d2 d3:D)(t t':Int)(h:t<=t'){a1 a2 a3 a4 a5 jS:Nat}(R:uA M a1 a2 a3 a4 a5)(hS:M[jS]?=some (.lst [])){Q:D->MH->Prop}
  (q:∀(j j':Nat) (M':MH),Gr M M'->M'[j]?=some (.lst [])->M'[j']?=some (.lst [])->M.length<=j'->j=jS\/M.length<=j->Q (.tup [.ob j,.ob j']) M'):W ((cx srt (k+3)).fn "reckoned" [tr,d1,d2,d3,.tup [.ob a1,.ob a2,.ob a3,.ob a4,.ob a5],.ob jS,.int t,.int t']) M Q:=by
 rw[aW "reckoned" 14 8 iz rfl,wf,iz];walk_at "wq";refine Kw (k+1) M t t' R fun jE M1 g1 lE eE=>?_;walk_at "wq";refine⟨by decide,by decide,?_⟩;generalize gy:M1++[MO.lst []]++[MO.lst []]=M2;have g2:Gr M1 M2:=gy▸(Gr.app _ _).snoc _;have e2:M2[M1.length]?=some (.lst []):=gy▸(Gr.app _ _).keep _ _ (ao _ _);clear gy;have l1:=g1.len;generalize (M1++[MO.lst []]).length=j3;generalize M1.length=jL at e2 l1 ⊢;have g:=g1.trans g2;rw[Fc,Oe];refine Ju (fun n ρ M'=>Gr M2 M'/\((n=999/\ρ=[some tr,some d1,some d2,some d3,some (.tup [.ob a1,.ob a2,.ob a3,.ob a4,.ob a5]),some (.ob jS),some (.int t),some (.int t'),some (.ob jE),some (.ob jS),some (.ob jL),some (.ob j3),some (.int t),none])
 \/∃j9 i4 kJ,M.length<=j9/\M'[j9]?=some (.lst [])/\ρ=[some tr,some d1,some d2,some d3,some (.tup [.ob a1,.ob a2,.ob a3,.ob a4,.ob a5]),some (.ob jS),some (.int t),some (.int t'),some (.ob jE),some (.ob j9),some (.ob jL),i4,some (.int t'),kJ])) ?_ 999 _ _ ⟨Gr.refl,.inl ⟨rfl,rfl⟩⟩
 rintro n ρ M3 ⟨g3,⟨rfl,rfl⟩|⟨j9,i4,kJ,l9,e9,rfl⟩⟩
 ·have ga:=g.trans g3
  walk_at "wq";refine⟨fun z=>⟨998,rfl,?_⟩,fun z=>?_⟩
  ·refine⟨fun _=>?_,fun z=>absurd z (by simp)⟩
   have Ra:=R.keep ga;refine DD (k+1) M3 tr d2 t a1 a2 Ra.e1 Ra.e2 fun jm M4 g4 l4 e4=>?_;walk_at "wq";have gb:=ga.trans g4;refine u3 k M4 tr t (R.keep gb) jS jm (gb.keep _ _ hS) e4 fun j9 j8 M5 g5 l5 e9 e8=>?_;have gc:=g3.trans (g4.trans g5);walk_at "wq";refine⟨_,gc.keep _ _ e2,_,e8,len0,gO e8 ?_⟩;walk_at "wq";have gs:=Gr.app M5 [MO.lst []];have e2':=gs.keep _ _ (gc.keep _ _ e2);refine⟨_,ao _ _,_,e2',⟨by decide,by simpa using zI (aQ (gc.keep _ _ e2))⟩,?_⟩;rw[zJ,set_same e2'];have gd:=gc.trans gs;refine Mw (k+1) _ t t' j9 jE (gs.keep _ _ e9) (gd.keep _ _ (g2.keep _ _ eE)) fun M6 g6=>?_;walk_at "wq";exact⟨gd.trans g6,.inr ⟨_,_,_,zO gb.len l5,g6.keep _ _ (gs.keep _ _ e9),rfl⟩⟩
  ·have:t=t':=by have:=of_decide_eq_false z;walk_at "o"
   exact⟨by decide,q _ _ _ ga (ga.keep _ _ hS) (g3.keep _ _ e2) l1 (.inl rfl)⟩
 ·walk_at "wq"
  refine⟨fun z=>absurd (of_decide_eq_true z) (by walk_at "o"),fun z=>?_⟩;exact⟨by decide,q _ _ _ (g.trans g3) e9 (g3.keep _ _ e2) l1 (.inr l9)⟩
end
end Law
namespace Law
open PySem L3
structure Ix where
 r:Nat
 u:Nat
 a1:Nat
 a2:Nat
 a3:Nat
 a4:Nat
 a5:Nat
 j6:Nat
noncomputable def hF(tr tp:D)(x:Ix)(t:Int)(j7:Nat):List (Str×D) :=
 [("tree",tr),("rotas",.ob x.r),("rules",.ob x.u),("top",tp),("turn",.int t),("sayings",.ob x.a1),("quietings",.ob x.a2),("swaps",.ob x.a3),("absences",.ob x.a4),("answers",.ob x.a5),("entries",.ob x.j6),("last_states",.ob j7)]
section
variable {tr tp:D}{x:Ix}{j7:Nat}{t:Int}
theorem Ki:List.lookup ("tree":Str) (hF tr tp x t j7)=some tr:=rfl
theorem iN:List.lookup ("rotas":Str) (hF tr tp x t j7)=some (.ob x.r):=rfl
theorem Gb:List.lookup ("rules":Str) (hF tr tp x t j7)=some (.ob x.u):=rfl
theorem MA:List.lookup ("top":Str) (hF tr tp x t j7)=some tp:=rfl
theorem pV:List.lookup ("turn":Str) (hF tr tp x t j7)=some (.int t):=rfl
theorem MB:List.lookup ("sayings":Str) (hF tr tp x t j7)=some (.ob x.a1):=rfl
theorem Gd:List.lookup ("quietings":Str) (hF tr tp x t j7)=some (.ob x.a2):=rfl
theorem nt:List.lookup ("swaps":Str) (hF tr tp x t j7)=some (.ob x.a3):=rfl
theorem tM:List.lookup ("absences":Str) (hF tr tp x t j7)=some (.ob x.a4):=rfl
theorem MD:List.lookup ("answers":Str) (hF tr tp x t j7)=some (.ob x.a5):=rfl
theorem MC:List.lookup ("entries":Str) (hF tr tp x t j7)=some (.ob x.j6):=rfl
theorem Kj:List.lookup ("last_states":Str) (hF tr tp x t j7)=some (.ob j7):=rfl
theorem FG{d:Nat}:putD "last_states" (.ob d) (hF tr tp x t j7)=hF tr tp x t d:=rfl
theorem FF{t':Int}:putD "turn" (.int t') (hF tr tp x t j7)=hF tr tp x t' j7:=rfl
theorem Eo:(hF tr tp x t j7).length<100:=by simp[hF]
end
structure cR (M:MH) (C jH:Nat) (ax:List Ro) (ss:List Sn) (as:List Ab) (tr tp:D) (x:Ix) (t:Int) (j7:Nat):Prop where
 h:M[jH]?=some (.ins C (hF tr tp x t j7))
 r:M[x.r]?=some (.lst (ax.map d8))
 e1:M[x.a1]?=some (.lst [])
 e2:M[x.a2]?=some (.lst [])
 s:M[x.a3]?=some (.lst (ss.map dQ))
 a:M[x.a4]?=some (.lst (as.map ef))
 e5:M[x.a5]?=some (.lst [])
 e6:M[x.j6]?=some (.lst [])
 e7:M[j7]?=some (.lst [])
 o:jH<x.r/\x.r<x.a1/\x.a1<x.a2/\x.a2<x.a3/\x.a3<x.a4/\x.a4<x.a5/\x.a5<x.j6/\x.j6<j7
section
variable {M M':MH}{C jH:Nat}{ax:List Ro}{ss:List Sn}{as:List Ab}{tr tp:D}{x:Ix}{t:Int}{j7:Nat}
theorem cR.keep(H:cR M C jH ax ss as tr tp x t j7)(g:Gr M M'):cR M' C jH ax ss as tr tp x t j7 :=
 ⟨g.keep _ _ H.h,g.keep _ _ H.r,g.keep _ _ H.e1,g.keep _ _ H.e2,g.keep _ _ H.s,g.keep _ _ H.a,g.keep _ _ H.e5,g.keep _ _ H.e6,g.keep _ _ H.e7,H.o⟩
theorem cR.gx(H:cR M C jH ax ss as tr tp x t j7){c:Nat}(hc:c<jH\/x.j6<c/\c≠j7)(g:Gx c M M'):cR M' C jH ax ss as tr tp x t j7:=by
 have o:=H.o;exact⟨g.get (by walk_at "o") H.h,g.get (by walk_at "o") H.r,g.get (by walk_at "o") H.e1,g.get (by walk_at "o") H.e2,g.get (by walk_at "o") H.s,g.get (by walk_at "o") H.a,g.get (by walk_at "o") H.e5,g.get (by walk_at "o") H.e6,g.get (by walk_at "o") H.e7,o⟩
theorem cR.swap(H:cR M C jH ax ss as tr tp x t j7)(s:Sn):cR (M.set x.a3 (.lst ((ss++[s]).map dQ))) C jH ax (ss++[s]) as tr tp x t j7:=by
 have o:=H.o;have g:=(Gx.refl (j:=x.a3) (M:=M)).set (.lst ((ss++[s]).map dQ));exact⟨g.get (by walk_at "o") H.h,g.get (by walk_at "o") H.r,g.get (by walk_at "o") H.e1,g.get (by walk_at "o") H.e2,dq H.s,g.get (by walk_at "o") H.a,g.get (by walk_at "o") H.e5,g.get (by walk_at "o") H.e6,g.get (by walk_at "o") H.e7,o⟩
theorem cR.away(H:cR M C jH ax ss as tr tp x t j7)(s:Ab):cR (M.set x.a4 (.lst ((as++[s]).map ef))) C jH ax ss (as++[s]) tr tp x t j7:=by
 have o:=H.o;have g:=(Gx.refl (j:=x.a4) (M:=M)).set (.lst ((as++[s]).map ef));exact⟨g.get (by walk_at "o") H.h,g.get (by walk_at "o") H.r,g.get (by walk_at "o") H.e1,g.get (by walk_at "o") H.e2,g.get (by walk_at "o") H.s,dq H.a,g.get (by walk_at "o") H.e5,g.get (by walk_at "o") H.e6,g.get (by walk_at "o") H.e7,o⟩
end
section
variable {srt jH:Nat}{ax:List Ro}{ss:List Sn}{as:List Ab}{tr tp:D}{x:Ix}{t:Int}{j7:Nat}
theorem C6(k:Nat)(M:MH)(H:cR M srt jH ax ss as tr tp x t j7){Q:D->MH->Prop}(q:∀(b1 b2 b3 b4 b5:Nat) (M':MH),Gr M M'->uA M' b1 b2 b3 b4 b5->Q (.tup [.ob b1,.ob b2,.ob b3,.ob b4,.ob b5]) M'):W ((cx srt (k+1)).fn (aA "records") [.ob jH]) M Q:=by
 rw[aW (aA "records") 1 1 ee rfl,wf,ee];walk_at "wq";simp only[bI];refine⟨_,H.h,_,MB,?_⟩;walk_at "wq";refine⟨_,H.e1,?_⟩;have g1:=Gr.app M [MO.lst []];have n1:=ao M (MO.lst []);generalize M++[MO.lst []]=M1 at g1 n1 ⊢;have H1:=H.keep g1;simp only[bI];refine⟨_,H1.h,_,Gd,?_⟩;walk_at "wq";refine⟨_,H1.e2,?_⟩;have g2:=Gr.app M1 [MO.lst []];have n2:=ao M1 (MO.lst []);generalize M1++[MO.lst []]=M2 at g2 n2 ⊢;have H2:=H1.keep g2;simp only[bI];refine⟨_,H2.h,_,nt,?_⟩;walk_at "wq";refine⟨_,H2.s,?_⟩;have g3:=Gr.app M2 [MO.lst (ss.map dQ)];generalize M2++[MO.lst (ss.map dQ)]=M3 at g3 ⊢;have H3:=H2.keep g3;simp only[bI];refine⟨_,H3.h,_,tM,?_⟩;walk_at "wq";refine⟨_,H3.a,?_⟩;have g4:=Gr.app M3 [MO.lst (as.map ef)];generalize M3++[MO.lst (as.map ef)]=M4 at g4 ⊢;have H4:=H3.keep g4;simp only[bI];refine⟨_,H4.h,_,MD,?_⟩;walk_at "wq";refine⟨_,H4.e5,?_⟩;have g5:=Gr.app M4 [MO.lst []];have n5:=ao M4 (MO.lst []);have n2':=g5.keep _ _ (g4.keep _ _ (g3.keep _ _ n2));have n1':=g5.keep _ _ (g4.keep _ _ (g3.keep _ _ (g2.keep _ _ n1)));exact⟨by decide,q _ _ _ _ _ _ ((((g1.trans g2).trans g3).trans g4).trans g5) ⟨n1',n2',n5⟩⟩
theorem sr{k:Nat}{M M1:MH}{f:Str}{e:IE}{ρ:Ev}{r:aI}{F:Fl->MH->Prop}{fs:List (Str×D)}{v:D}(h:∀Q':D->MH->Prop,Q' v M1->W (ae (cx srt k) e (some (.ob jH)::ρ)) M Q')
  (hH:M1[jH]?=some (.ins srt fs)) (hl:fs.length<100) (q:∀M',Gx jH M1 M'->M'[jH]?=some (.ins srt (putD f v fs))->W (aq (cx srt k) r (some (.ob jH)::ρ)) M' F):W (aq (cx srt k) (.cons (.setF (.var 0) f e) r) (some (.ob jH)::ρ)) M F:=by
 rw[bL,Js];refine h _ ?_;walk_at "wq";simp only[bI];exact⟨_,hH,hl,q _ (Gx.refl.set _) (dq hH)⟩
theorem nQ{k:Nat}{M:MH}{f:Str}{e:IE}{ρ:Ev}{r:aI}{F:Fl->MH->Prop}{fs:List (Str×D)}(v:D)(h:∀Q':D->MH->Prop,Q' v M->W (ae (cx srt k) e (some (.ob jH)::ρ)) M Q')
  (hH:M[jH]?=some (.ins srt fs)) (hl:fs.length<100) (q:∀M',Gx jH M M'->M'[jH]?=some (.ins srt (putD f v fs))->W (aq (cx srt k) r (some (.ob jH)::ρ)) M' F):W (aq (cx srt k) (.cons (.setF (.var 0) f e) r) (some (.ob jH)::ρ)) M F :=
 sr h hH hl q
theorem fE{k:Nat}{M:MH}{f:Str}{e:IE}{ρ:Ev}{r:aI}{F:Fl->MH->Prop}{fs:List (Str×D)}(ds:List D)(h:∀Q':D->MH->Prop,Q' (.ob M.length) (M++[.lst ds])->W (ae (cx srt k) e (some (.ob jH)::ρ)) M Q')
  (hH:M[jH]?=some (.ins srt fs)) (hl:fs.length<100) (q:∀M' j,Gx jH M M'->M'[jH]?=some (.ins srt (putD f (.ob j) fs))->M.length<=j->j<M'.length->M'[j]?=some (.lst ds)->W (aq (cx srt k) r (some (.ob jH)::ρ)) M' F):W (aq (cx srt k) (.cons (.setF (.var 0) f e) r) (some (.ob jH)::ρ)) M F:=by
 have bU:=aQ hH;refine sr h ((Gr.app _ _).keep _ _ hH) hl fun M' g e'=>?_;have n:=g.get (k:=M.length) (by walk_at "o") (ao _ (MO.lst ds));exact q M' _ ((Gx.of (Gr.app _ _)).trans g) e' (zr _) (aQ n) n
theorem tI{M:MH}{C j k:Nat}{fs:List (Str×D)}{ds:List D}(h:M[j]?=some (.ins C fs))(e:M[k]?=some (.lst ds)):k≠j:=by
 rintro rfl;rw[h]at e;cases e
theorem MR(k:Nat)(M:MH)(tr tp:D)(jo jx:Nat)(hH:M[jH]?=some (.ins srt []))(ho:M[jo]?=some (.lst (ax.map d8))){us:List D}(hu:M[jx]?=some (.lst us)){Q:D->MH->Prop}
  (q:∀(x:Ix) (j7:Nat) (M':MH),Gx jH M M'->cR M' srt jH ax [] [] tr tp x 0 j7->Q .non M'):W ((cx srt (k+1)).fn "House.__init__" [.ob jH,tr,.ob jo,.ob jx,tp]) M Q:=by
 have no:=tI hH ho;have nx:=tI hH hu;have lH:=aQ hH;have el:∀(M:MH) (ρ:Ev) (Q':D->MH->Prop),Q' (.ob M.length) (M++[.lst []])->W (ae (cx srt k) (.lst .nil) ρ) M Q':=fun M ρ Q' h=>by
  walk_at "wq";exact⟨by decide,h⟩
 rw[aW "House.__init__" 5 5 dN rfl,wf,dN];refine⟨rfl,?_⟩;show W (aq (cx srt k) _ [some (.ob jH),some tr,some (.ob jo),some (.ob jx),some tp]) M _;refine nQ tr (fun Q' h=>by walk_at "wq";exact h) hH (zL rfl) fun M1 g1 h1=>?_;refine fE (ax.map d8) (fun Q' h=>by walk_at "wq";exact⟨_,g1.get no ho,h⟩) h1 (zL rfl) fun M2 jr g2 h2 lr nr er=>?_;have x2:=g1.trans g2;refine fE us (fun Q' h=>by walk_at "wq";exact⟨_,x2.get nx hu,h⟩) h2 (zL rfl) fun M3 ju g3 h3 k0 m0 _=>?_;refine nQ tp (fun Q' h=>by walk_at "wq";exact h) h3 (zL rfl) fun M4 g4 h4=>?_;refine nQ (.int 0) (fun Q' h=>by walk_at "wq";exact h) h4 (zL rfl) fun M5 g5 h5=>?_;refine fE [] (el _ _) h5 (zL rfl) fun M6 a1 g6 h6 k1 m1 e1=>?_;refine fE [] (el _ _) h6 (zL rfl) fun M7 a2 g7 h7 k2 m2 e2=>?_;refine fE [] (el _ _) h7 (zL rfl) fun M8 a3 g8 h8 k3 m3 e3=>?_;refine fE [] (el _ _) h8 (zL rfl) fun M9 a4 g9 h9 k4 m4 e4=>?_;refine fE [] (el _ _) h9 (zL rfl) fun Ma a5 ga ha k5 m5 e5=>?_;refine fE [] (el _ _) ha (zL rfl) fun Mb j6 gb hb k6 m6 e6=>?_;refine fE [] (el _ _) hb (zL rfl) fun Mc j7 gc hc k7 m7 e7=>?_;have xb:=gb.trans gc;have xa:=ga.trans xb;have x9:=g9.trans xa;have x8:=g8.trans x9;have x7:=g7.trans x8;have x6:=(g4.trans g5).trans (g6.trans x7);have l1:=g1.len;have l3:=g3.len;have l4:=g4.len;have l5:=g5.len;walk_at "wq";have ne:jr≠jH/\a1≠jH/\a2≠jH/\a3≠jH/\a4≠jH/\a5≠jH/\j6≠jH:=by walk_at "o"
 have lo:jH<jr/\jr<a1/\a1<a2/\a2<a3/\a3<a4/\a4<a5/\a5<j6/\j6<j7:=by walk_at "o"
 exact q ⟨jr,ju,a1,a2,a3,a4,a5,j6⟩ j7 Mc ((x2.trans g3).trans x6) ⟨hc,(g3.trans x6).get ne.1 er,x7.get ne.2.1 e1,x8.get ne.2.2.1 e2,x9.get ne.2.2.2.1 e3,xa.get ne.2.2.2.2.1 e4,xb.get ne.2.2.2.2.2.1 e5,gc.get ne.2.2.2.2.2.2 e6,e7,lo⟩
theorem Ep(k:Nat)(M:MH)(H:cR M srt jH ax ss as tr tp x t j7)(t':Int)(b7 b8:Nat)(h7:M[b7]?=some (.lst []))(h8:M[b8]?=some (.lst []))(l7:x.j6<b7)(ne:b8≠x.j6){Q:D->MH->Prop}
  (q:∀M',Gx jH M M'->cR M' srt jH ax ss as tr tp x t' b7->Q .non M'):W ((cx srt (k+1)).fn (aA "go_on") [.ob jH,.int t',.tup [.ob b7,.ob b8]]) M Q:=by
 have o:=H.o;have n8:=tI H.h h8;rw[aW (aA "go_on") 3 3 eV rfl,wf,eV];refine⟨rfl,?_⟩;show W (aq (cx srt k) _ [some (.ob jH),some (.int t'),some (.tup [.ob b7,.ob b8])]) M _;refine nQ (.ob b7) (fun Q' h=>by walk_at "wq";exact h) H.h Eo fun M1 g1 h1=>?_;rw[FG]at h1;have e6:=g1.get (by walk_at "o") H.e6;walk_at "wq";simp only[bI];refine⟨_,h1,_,MC,?_⟩;walk_at "wq";refine⟨_,e6,_,g1.get n8 h8,_,e6,⟨by decide,by simpa using ne⟩,?_⟩;rw[zJ,set_same e6];simp only[bI];refine⟨_,h1,Eo,?_⟩;have h2:=dq (o:=MO.ins srt (putD ("turn":Str) (.int t') (hF tr tp x t b7))) h1;have g2:=(Gx.refl (j:=jH) (M:=M1)).set (MO.ins srt (putD ("turn":Str) (.int t') (hF tr tp x t b7)));generalize M1.set jH (MO.ins srt (putD ("turn":Str) (.int t') (hF tr tp x t b7)))=M2 at h2 g2 ⊢;rw[FF]at h2;have g:=g1.trans g2;exact q M2 g ⟨h2,g.get (by walk_at "o") H.r,g.get (by walk_at "o") H.e1,g.get (by walk_at "o") H.e2,g.get (by walk_at "o") H.s,g.get (by walk_at "o") H.a,g.get (by walk_at "o") H.e5,g.get (by walk_at "o") H.e6,g.get (by walk_at "o") h7,by walk_at "o"⟩
theorem sL(k:Nat)(M:MH)(H:cR M srt jH ax ss as tr tp x t j7)(t':Int)(h:t<=t'){Q:D->MH->Prop}
  (q:∀(j j':Nat) (M':MH),Gr M M'->M'[j]?=some (.lst [])->M'[j']?=some (.lst [])->M.length<=j'->j=j7\/M.length<=j->Q (.tup [.ob j,.ob j']) M'):W ((cx srt (k+4)).fn (aA "reckoned_to") [.ob jH,.int t']) M Q:=by
 rw[aW (aA "reckoned_to") 3 2 cQ rfl,wf,cQ];walk_at "wq";simp only[bI];refine⟨_,H.h,rfl,C6 (k+2) M H fun b1 b2 b3 b4 b5 M1 g1 R1=>?_⟩;have H1:=H.keep g1;walk_at "wq";simp only[bI];refine⟨_,H1.h,_,Ki,_,H1.h,_,iN,_,H1.h,_,Gb,_,H1.h,_,MA,_,H1.h,_,Kj,_,H1.h,_,pV,?_⟩
 have:=g1.len
 exact AL k M1 _ _ _ _ t t' h R1 H1.e7 fun j j' M2 g2 e e' l l'=>q j j' M2 (g1.trans g2) e e' (by walk_at "o") (l'.imp id fun z=>by walk_at "o")
theorem qo(k:Nat)(M:MH)(t f l:Int)(h1:f<l)(h2:t<=f){Q:D->MH->Prop}(q:Q .non M):W ((cx srt (k+1)).fn "refuse_stretch" [.int t,.int f,.int l]) M Q:=by
 rw[aW "refuse_stretch" 3 3 dM rfl,wf,dM];walk_at "wq";refine⟨fun z=>?_,fun _=>⟨fun z=>?_,fun _=>q⟩⟩
 ·have:=of_decide_eq_true z;walk_at "o"
 ·have:=of_decide_eq_true z;walk_at "o"
end
end Law
namespace Law
open PySem L3
structure Gf (jH j6:Nat) (M M':MH):Prop where
 keep:∀k o,k<jH\/j6<k->M[k]?=some o->M'[k]?=some o
 len:M.length<=M'.length
theorem Gf.of{jH j6 c:Nat}{M M':MH}(g:Gx c M M')(h:jH<=c/\c<=j6):Gf jH j6 M M':=⟨fun k o hk e=>g.get (by walk_at "o") e,g.len⟩
theorem Gf.trans{jH j6:Nat}{A B C:MH}(a:Gf jH j6 A B)(b:Gf jH j6 B C):Gf jH j6 A C:=⟨fun k o h e=>b.keep k o h (a.keep k o h e),zO a.len b.len⟩
theorem pY{M:MH}{vs:List Str}{x:Str}:ip M (.str x) (vs.map D.str)=some (vs.contains x):=by
 rw[kr rfl (by rw[xA];exact zB.mpr fun _ _=>rfl)];congr 1;induction vs with
 |nil=>rfl
 |cons v vs ih=>rw[zH,yJ,ih,List.contains_cons,xo];rfl
theorem qH{ax:List Ro}(nd:(ax.map Ro.name).Nodup){r:Ro}(h:r∈ax):(ax.find? fun x=>x.name==r.name)=some r:=by
 cases hf:ax.find? fun x=>x.name==r.name with
 |none=>exact absurd (xD.mp hf r h) (by simp)
 |some r' =>
  have h1:=yS hf;have h2:=List.find?_some hf;rw[qu nd h1 h (by simpa using h2)]
section
variable {srt jH:Nat}{ax:List Ro}{ss:List Sn}{as:List Ab}{tr tp:D}{x:Ix}{t:Int}{j7:Nat}
theorem vL(k:Nat)(M:MH)(H:cR M srt jH ax ss as tr tp x t j7)(c:Str){r:Ro}(hf:(ax.find? fun r=>r.name==c)=some r){Q:D->MH->Prop}(q:Q r.rd M):W ((cx srt (k+2)).fn (aA "known_rota") [.ob jH,.str c]) M Q:=by
 rw[aW (aA "known_rota") 3 2 bQ rfl,wf,bQ];walk_at "wq";simp only[bI];refine⟨_,H.h,_,iN,vI k M H.r c hf ?_⟩;unfold Ro.rd at q ⊢;walk_at "wq";exact⟨rfl,fun z=>(by cases z),fun _=>q⟩
theorem F2(k:Nat)(M:MH)(H:cR M srt jH ax ss as tr tp x t j7)(K:gj ax ss as)(c:Str){r:Ro}(hf:(ax.find? fun r=>r.name==c)=some r)(tt:Int){Q:D->MH->Prop}(q:∀M',Gr M M'->Q (sA (ES r ss as tt)) M'):W ((cx srt (k+4)).fn (aA "on_duty") [.ob jH,.str c,.int tt]) M Q:=by
 rw[aW (aA "on_duty") 3 3 cY rfl,wf,cY];walk_at "wq";simp only[bI];refine⟨_,H.h,rfl,vL (k+1) M H c hf ?_⟩;walk_at "wq";simp only[bI];refine⟨_,H.h,_,iN,_,H.h,_,nt,_,H.h,_,tM,?_⟩;exact GA k M ⟨H.r,H.s,H.a⟩ K c hf tt q
theorem Li(k:Nat)(M:MH)(H:cR M srt jH ax ss as tr tp x t j7)(K:gj ax ss as){r:Ro}(hr:r∈ax)(s:Sw)(h1:s.one∈r.hands)(h2:s.dv∈r.hands)(ne:s.one≠s.dv)(t':Int)(h:t<=t')(hf:t'<=s.fst)(hl:s.fst<s.lst){Q:D->MH->Prop}
  (q:∀(j7':Nat) (M':MH),Gf jH x.j6 M M'->cR M' srt jH ax (ss++[⟨r.name,s⟩]) as tr tp x t' j7'->j7'=j7\/M.length<=j7'->Q .non M'):W ((cx srt (k+5)).fn (aA "swap") [.ob jH,.int t',.str r.name,.str s.one,.str s.dv,.int s.fst,.int s.lst]) M Q:=by
 have big:=bB;have ls:=K.ls;have o:=H.o;rw[aW (aA "swap") 8 7 fY rfl,wf,fY];walk_at "wq";simp only[bI];refine⟨_,H.h,_,pV,DL (k+3) M t t' h ?_⟩;walk_at "wq";simp only[bI];refine⟨_,H.h,rfl,vL (k+2) M H _ (qH K.nd hr) ?_⟩;unfold Ro.rd;walk_at "wq";have c1:r.hands.contains s.one=true:=yK.mpr h1;have c2:r.hands.contains s.dv=true:=yK.mpr h2;refine⟨_,pY,?_⟩;rw[c1];refine⟨fun z=>(by cases z),fun _=>⟨_,pY,?_⟩⟩;rw[c2];refine⟨fun z=>(by cases z),fun _=>?_⟩;refine⟨fun z=>absurd (by simpa using z) ne,fun _=>?_⟩;refine qo (k+3) M t' s.fst s.lst hl hf ?_;walk_at "wq";simp only[bI];refine⟨_,H.h,rfl,_,H.h,rfl,sL k M H t' h fun b7 b8 M1 g1 e7 e8 l8 l7=>?_⟩;have l6:=aQ H.e6;walk_at "wq";refine Ep (k+3) M1 (H.keep g1) t' b7 b8 e7 e8 (by walk_at "o") (by walk_at "o") fun M2 g2 H2=>?_;walk_at "wq";simp only[bI];refine⟨_,H2.h,_,nt,?_⟩;walk_at "wq";refine⟨_,H2.s,by decide,_,H2.s,by rw[zu];walk_at "o",?_⟩;have e:=H2.swap ⟨r.name,s⟩;have g3:=(Gx.refl (j:=x.a3) (M:=M2)).set (MO.lst ((ss++[(⟨r.name,s⟩:Sn)]).map dQ));rw[zM]at e g3;exact q _ _ (((Gf.of (c:=jH) (Gx.of g1) (by walk_at "o")).trans (.of g2 (by walk_at "o"))).trans (.of g3 (by walk_at "o"))) e l7
theorem NO(k:Nat)(M:MH)(H:cR M srt jH ax ss as tr tp x t j7)(K:gj ax ss as){r:Ro}(hr:r∈ax)(s:Ab)(h1:s.h∈r.hands)(t':Int)(h:t<=t')(hf:t'<=s.fst)(hl:s.fst<s.lst){Q:D->MH->Prop}
  (q:∀(j7':Nat) (M':MH),Gf jH x.j6 M M'->cR M' srt jH ax ss (as++[s]) tr tp x t' j7'->j7'=j7\/M.length<=j7'->Q .non M'):W ((cx srt (k+5)).fn (aA "away") [.ob jH,.int t',.str s.h,.int s.fst,.int s.lst]) M Q:=by
 have big:=bB;have ls:=K.la;have lo:=K.lo;have o:=H.o;rw[aW (aA "away") 5 5 fZ rfl,wf,fZ];walk_at "wq";simp only[bI];refine⟨_,H.h,_,pV,DL (k+3) M t t' h ?_⟩;walk_at "wq";simp only[bI];refine⟨_,H.h,_,iN,?_⟩;walk_at "wq";refine⟨_,H.r,by rw[zu];walk_at "o",?_⟩;refine fk (fun n ys M'=>M'=M/\ys=((ax.take n).map fun r=>r.hands.contains s.h).map D.bl) ⟨rfl,rfl⟩ (fun _ _ _ h=>by rw[h.1];exact H.r) ?_ ?_
 ·rintro n d ys M' hd ⟨rfl,rfl⟩
  rw[ze]at hd;obtain⟨a,ha,rfl⟩:=zo.mp hd;unfold d8 Ro.rd;walk_at "wq";refine⟨_,pY,?_⟩;rw[yu,ha];simp
 ·rintro ys M' ⟨rfl,rfl⟩
  rw[zu,zU];walk_at "wq";refine⟨_,ao _ _,_,iw _,?_⟩;have g0:=Gr.app M' [MO.lst ((ax.map fun r=>r.hands.contains s.h).map D.bl)];generalize M'++[MO.lst ((ax.map fun r=>r.hands.contains s.h).map D.bl)]=M0 at g0 ⊢;have ca:((ax.map fun r=>r.hands.contains s.h).any id)=true:=by
   rw[vv];exact xt.mpr ⟨r,hr,yK.mpr h1⟩
  rw[ca];have H0:=H.keep g0;refine⟨fun z=>(by cases z),fun _=>?_⟩;refine qo (k+3) M0 t' s.fst s.lst hl hf ?_;walk_at "wq";simp only[bI];refine⟨_,H0.h,rfl,_,H0.h,rfl,sL k M0 H0 t' h fun b7 b8 M1 g1 e7 e8 l8 l7=>?_⟩;have l6:=aQ H0.e6;walk_at "wq";refine Ep (k+3) M1 (H0.keep g1) t' b7 b8 e7 e8 (by walk_at "o") (by walk_at "o") fun M2 g2 H2=>?_;walk_at "wq";simp only[bI];refine⟨_,H2.h,_,tM,?_⟩;walk_at "wq";refine⟨_,H2.a,by decide,_,H2.a,by rw[zu];walk_at "o",?_⟩;have e:=H2.away s;have g3:=(Gx.refl (j:=x.a4) (M:=M2)).set (MO.lst ((as++[s]).map ef));rw[zM]at e g3;have l0:=g0.len;exact q _ _ (((Gf.of (c:=jH) (Gx.of (g0.trans g1)) (by walk_at "o")).trans (.of g2 (by walk_at "o"))).trans (.of g3 (by walk_at "o"))) e (l7.imp id fun z=>by walk_at "o")
end
end Law
namespace Law
open PySem L3
section
variable {srt jH:Nat}{ax:List Ro}{ss:List Sn}{as:List Ab}{tr tp:D}{x:Ix}{t:Int}{j7:Nat}
theorem Cy(k:Nat)(xs:List D)(M:MH):(cx srt (k+1)).rz (aA "on_duty") xs M=if xs.length=3 then dF (cx srt k) cY (xs.map some++zN (3-xs.length) none) M else none:=rfl
theorem rO(k:Nat)(xs:List D)(M:MH):(cx srt (k+1)).rz (aA "known_rota") xs M=if xs.length=2 then dF (cx srt k) bQ (xs.map some++zN (3-xs.length) none) M else none:=rfl
theorem Ow(k:Nat):(cx srt (k+1)).rf=nW srt (cx srt k).rz:=rfl
theorem gK{α β:Type}{m:Mo α}{f:α->Mo β}{M M':MH}{a:α}(h:m M=some (.ok a,M')):(m >>= f) M=f a M':=by rw[run_bind,h]
theorem rC{α β:Type}{m:Mo α}{f:α->Mo β}{M:MH}(h:m M=none):(m >>= f) M=none:=by rw[run_bind,h]
theorem Ha{α:Type}{m:Mo α}{a:α}{M:MH}(w:W m M fun x M'=>x=a/\M'=M):m M=some (.ok a,M):=by
 obtain⟨x,M',e,h1,h2⟩:=w;rw[h1,h2]at e;exact e
theorem aG{p:Prop}[Decidable p]{M:MH}(h:p):(need p:Mo Unit) M=some (.ok (),M):=by
 unfold need;rw[if_pos h];rfl
theorem LJ{Γ:L3.Ctx}{a:IE}{es:cH}{ρ:Ev}{M M1:MH}{xs:List D}(h:(do let x<-ae Γ a ρ;hY Γ.hc "known_rota" x;let xs<-aS Γ es ρ;pure (x::xs):Mo (List D)) M=some (.ok xs,M1)):pG Γ (.mcl a "known_rota" es) ρ M=Γ.rz (aA "known_rota") xs M1:=by
 refine(if_pos (c:=(("known_rota":Str)=="known_rota")=true) (e:=none) rfl).trans ?_;exact congrArg (fun z:Option (Out (List D)×MH)=>match z with
  |some (.ok xs,M1)=>Γ.rz (aA "known_rota") xs M1
  |_=>none) h
theorem tw:tD none=none:=rfl
theorem Mr{ρ:Ev}{M:MH}:tD (some (.ok (.nx ρ),M))=some (ρ,M):=rfl
theorem LH{Γ:L3.Ctx}{ρ:Ev}{M:MH}:dF Γ (.cons .rz .nil) ρ M=some M:=by
 rw[dF,show bc Γ .rz ρ M=none from rfl,tw];rfl
theorem Ot{Γ:L3.Ctx}{ρ:Ev}{M:MH}{c:IC}{r:aI}(h:bg Γ c ρ M=some (.ok true,M)):aq Γ (.cons (.ifS c (.cons .rz .nil) .nil) r) ρ M=none/\dF Γ (.cons (.ifS c (.cons .rz .nil) .nil) r) ρ M=some M:=by
 have e1:bc Γ (.ifS c (.cons .rz .nil) .nil) ρ M=none:=by
  rw[nY,gK h,if_pos rfl,fG];exact rC rfl
 refine⟨?_,?_⟩
 ·rw[fG]
  exact rC e1
 ·rw[dF,e1,tw,qv,h]
  dsimp only;rw[if_pos rfl];exact LH
theorem LG{Γ:L3.Ctx}{ρ ρ':Ev}{M:MH}{i:Nat}{e:IE}{v:D}{r:aI}(h:ae Γ e ρ M=some (.ok v,M))(hs:ρ.set i (some v)=ρ')(q:aq Γ r ρ' M=none/\dF Γ r ρ' M=some M):aq Γ (.cons (.set i e) r) ρ M=none/\dF Γ (.cons (.set i e) r) ρ M=some M:=by
 have e1:bc Γ (.set i e) ρ M=some (.ok (.nx ρ'),M):=by
  rw[nX,gK h,hs];rfl
 refine⟨?_,?_⟩
 ·rw[fG]
  refine(gK e1).trans ?_;exact q.1
 ·rw[dF,e1,Mr]
  exact q.2
theorem Bz(k:Nat)(M:MH)(H:cR M srt jH ax ss as tr tp x t j7)(c:Str)(hf:∀r∈ax,r.name≠c) :
  (cx srt (k+2)).fn (aA "known_rota") [.ob jH,.str c] M=none/\(cx srt (k+2)).rz (aA "known_rota") [.ob jH,.str c] M=some M:=by
 have w1:W (ae (cx srt (k+1)) (.call ("rota_named":Str) (.cons (.fld (.var 0) ("rotas":Str)) (.cons (.var 1) .nil))) [some (.ob jH),some (.str c),none]) M fun d M'=>d=.non/\M'=M:=by
  walk_at "wq";simp only[bI];exact⟨_,H.h,_,iN,CH k M H.r c hf ⟨rfl,rfl⟩⟩
 have e1:=Ha w1;have w2:W (bg (cx srt (k+1)) (.cmp (.cmp .Is (.var 2) .cnon)) [some (.ob jH),some (.str c),some .non]) M fun b M'=>b=true/\M'=M:=by
  walk_at "wq";exact⟨rfl,rfl⟩
 have e2:=Ha w2;have b:=LG (i:=2) e1 (ρ':=[some (.ob jH),some (.str c),some .non]) rfl (Ot (r:=(.cons (.ret (.var 2)) .nil)) e2);refine⟨?_,?_⟩
 ·rw[aW (aA "known_rota") 3 2 bQ rfl]
  refine(gK (aG rfl)).trans ?_;exact rC b.1
 ·rw[rO,if_pos (show [D.ob jH,.str c].length=2 from rfl)]
  exact b.2
theorem DH(k:Nat)(M:MH)(H:cR M srt jH ax ss as tr tp x t j7)(c:Str)(hf:∀r∈ax,r.name≠c)(y:D):(cx srt (k+3)).rz (aA "on_duty") [.ob jH,.str c,y] M=some M:=by
 obtain⟨h1,h2⟩:=Bz (srt:=srt) k M H c hf;have wi:W (hY (cx srt (k+2)).hc "known_rota" (.ob jH)) M fun x M'=>x=()/\M'=M:=by
  rw[Hh,bI];exact⟨_,H.h,rfl,rfl,rfl⟩
 have ei:=Ha wi;rw[Cy,if_pos (show [D.ob jH,.str c,y].length=3 from rfl)];show dF (cx srt (k+2)) (.cons (.expr (.mcl (.var 0) ("known_rota":Str) (.cons (.var 1) .nil))) _) [some (.ob jH),some (.str c),some y] _=_;have e0:ae (cx srt (k+2)) (.mcl (.var 0) ("known_rota":Str) (.cons (.var 1) .nil)) [some (.ob jH),some (.str c),some y] M=none:=by
  rw[nZ];refine(gK (a:=D.ob jH) (M':=M) rfl).trans ?_;refine(gK ei).trans ?_;refine(gK (a:=[D.str c]) (M':=M) rfl).trans ?_;exact h1
 have e1:bc (cx srt (k+2)) (.expr (.mcl (.var 0) ("known_rota":Str) (.cons (.var 1) .nil))) [some (.ob jH),some (.str c),some y] M=none:=by
  rw[mF];exact rC e0
 have e2:(do let x<-ae (cx srt (k+2)) (.var 0) [some (.ob jH),some (.str c),some y];hY (cx srt (k+2)).hc "known_rota" x;let xs<-aS (cx srt (k+2)) (.cons (.var 1) .nil) [some (.ob jH),some (.str c),some y];pure (x::xs):Mo (List D)) M=some (.ok [.ob jH,.str c],M):=by
  refine(gK (a:=D.ob jH) (M':=M) rfl).trans ?_;refine(gK ei).trans ?_;exact(gK (a:=[D.str c]) (M':=M) rfl).trans rfl
 rw[dF,e1,tw,qv];exact(LJ e2).trans h2
theorem Q9(k:Nat)(M:MH)(H:cR M srt jH ax ss as tr tp x t j7)(c:Str)(hf:∀r∈ax,r.name≠c)(y:D):(cx srt (k+4)).rf [.ob jH,.str c,y] M=some M:=by
 have ok:HM (hY srt "on_duty" (.ob jH) M)=true:=by
  have wi:W (hY srt "on_duty" (.ob jH)) M fun _ M'=>M'=M:=by
   rw[Hh];exact⟨_,H.h,rfl,rfl⟩
  obtain⟨_,_,ei,_⟩:=wi;rw[ei];rfl
 rw[Ow,nW,if_pos ok];exact DH k M H c hf y
end
end Law
namespace Law
open PySem L3
section
variable {srt:Nat}
theorem Lu(k:Nat)(M:MH){jt:Nat}(T:Tp M jt)(t:Int){Q:D->MH->Prop}(q:∀(f l:Int) (M':MH),t<=f->f<l->Gx jt M M'->Tp M' jt->Q (.tup [.int f,.int l]) M'):W ((cx srt (k+2)).fn "_law_span" [.ob jt,.int t]) M Q:=by
 rw[aW "_law_span" 3 2 gS rfl,wf,gS];walk_at "wq";refine aV k M T _ (by decide) fun r M1 r0 _ x1 T1=>?_;walk_at "wq";refine aV k M1 T1 _ (by decide) fun r2 M2 p2 _ x2 T2=>?_;walk_at "wq";have e9:((10:Int) ^ Int.toNat 9)=1000000000:=by decide
 rw[e9];refine⟨⟨by decide,by decide,by decide⟩,aV k M2 T2 _ (by decide) fun r3 M3 p3 _ x3 T3=>?_⟩;walk_at "wq";have g4:=Gr.app M3 [MO.lst [D.int r2,.int r3]];have e4:=ao M3 (MO.lst [D.int r2,.int r3]);have n4:=zI T3.lt;generalize M3++[MO.lst [D.int r2,.int r3]]=M4 at g4 e4 ⊢;generalize M3.length=j4 at e4 n4 ⊢;refine⟨by decide,aV k M4 (T3.keep g4) _ (by decide) fun r5 M5 _ _ x5 T5=>?_⟩;have e5:=x5.get n4 e4;have x:=((x1.trans x2).trans x3).trans ((Gx.of g4).trans x5);walk_at "wq";refine⟨_,e5,?_⟩;walk_at "wq";cases r5==5
 ·refine⟨D.int r2,rfl,?_⟩
  walk_at "wq";exact⟨by decide,q _ _ _ (by walk_at "o") (by walk_at "o") x T5⟩
 ·refine⟨D.int r3,rfl,?_⟩
  walk_at "wq";exact⟨by decide,q _ _ _ (by walk_at "o") (by walk_at "o") x T5⟩
end
structure Gl (jt jH j6 js ja:Nat) (M M':MH):Prop where
 keep:∀k o,k≠jt->k<jH\/j6<k->k≠js->k≠ja->M[k]?=some o->M'[k]?=some o
 len:M.length<=M'.length
section
variable {srt jt jH jo js ja:Nat}{ax:List Ro}{ss:List Sn}{as:List Ab}{tr tp:D}{x:Ix}{t:Int}{j7:Nat}
theorem K8(k:Nat)(M:MH)(T:Tp M jt)(H:cR M srt jH ax ss as tr tp x t j7)(K:gj ax ss as)(l3:ax.length=3)(lt:jt<jH)(ho:M[jo]?=some (.lst (ax.map d8)))(lo:jo<jH)(no:jo≠jt)
  (hs:M[js]?=some (.lst (ss.map dQ))) (ha:M[ja]?=some (.lst (as.map ef))) (ls:x.j6<js) (ns:js≠j7) (la:x.j6<ja) (na:ja≠j7) (ne:js≠ja) (s9:ss.length<=900) (a9:as.length<=900) (t':Int) (h:t<=t') {Q:D->MH->Prop}
  (q:∀(ss':List Sn) (as':List Ab) (j7':Nat) (M':MH),gj ax ss' as'->ss'.length<=ss.length+1->as'.length<=as.length+1->cR M' srt jH ax ss' as' tr tp x t' j7'->js≠j7'->ja≠j7'->Tp M' jt->M'[js]?=some (.lst (ss'.map dQ))->M'[ja]?=some (.lst (as'.map ef))->Gl jt jH x.j6 js ja M M'->Q .non M') :
  W ((cx srt (k+6)).fn "_law_told" [.ob jt,.ob jH,.ob jo,.ob js,.ob ja,.int t']) M Q:=by
 have big:=bB;have o:=H.o;rw[aW "_law_told" 12 6 gR rfl,wf,gR];walk_at "wq";refine aV (k+4) M T _ (by decide) fun r1 M1 p1 b1 x1 T1=>?_;walk_at "wq";refine⟨_,x1.get no ho,?_⟩;walk_at "wq";obtain⟨n,rfl⟩:=yz p1;have hn:n<ax.length:=by walk_at "o"
 obtain⟨r,hr⟩:∃r,ax[n]?=some r:=⟨_,zw hn⟩;have hm:=zF hr;have ok:=K.ok r hm;have h1:=ok.lo;have h2:=ok.hi;refine⟨d8 r,bY (by rw[ze,hr];rfl),?_⟩;unfold d8 Ro.rd;walk_at "wq";rw[zu];refine aV (k+4) M1 T1 _ (by walk_at "o") fun r2 M2 p2 b2 x2 T2=>?_;obtain⟨m,rfl⟩:=yz p2;have D5:m<r.hands.length:=by walk_at "o"
 have Nj:(m+1) % r.hands.length<r.hands.length:=vq _ (by walk_at "o");have ei:((m:Int)+1) % (r.hands.length:Int)=(((m+1) % r.hands.length:Nat):Int):=by rw[wF];rfl
 walk_at "wq";rw[zu];refine⟨by walk_at "o",?_⟩;rw[ei];have g2:dA (r.hands.map D.str) (((m+1) % r.hands.length:Nat):Int)=some (.str (r.hands[(m+1) % r.hands.length]'Nj)):=bY (by rw[ze,zw Nj];rfl);have g1:dA (r.hands.map D.str) (m:Int)=some (.str (r.hands[m]'D5)):=bY (by rw[ze,zw D5];rfl);refine⟨_,g2,?_⟩;refine Lu (k+3) M2 T2 t' fun f l M3 hf hl x3 T3=>?_;walk_at "wq";refine aV (k+4) M3 T3 _ (by decide) fun r4 M4 _ _ x4 T4=>?_;have xx:=((x1.trans x2).trans x3).trans x4;have H4:=H.gx (.inl lt) xx;have Ir:=xx.get (by walk_at "o") hs;have vU:=xx.get (by walk_at "o") ha;have XD:=xx.len;have m1:=yd D5;have m2:=yd Nj;have A:W ((cx srt (k+5)).fn (aA "away") [.ob jH,.int t',.str r.hands[m],.int f,.int l]) (M4.set ja (.lst (as.map ef++[.tup [.str r.hands[m],.int f,.int l]]))) fun x M1=>Q x M1:=by
  have g5:=(Gx.refl (j:=ja) (M:=M4)).set (.lst (as.map ef++[.tup [.str r.hands[m],.int f,.int l]]));have e5:=dq (o:=.lst (as.map ef++[.tup [.str r.hands[m],.int f,.int l]])) vU;have T5:=T4.young (i:=ja) (by walk_at "o") (.lst (as.map ef++[.tup [.str r.hands[m],.int f,.int l]]));generalize M4.set ja (.lst (as.map ef++[.tup [.str r.hands[m],.int f,.int l]]))=M5 at g5 e5 T5 ⊢;refine NO k M5 (H4.gx (.inr ⟨la,na⟩) g5) K hm ⟨r.hands[m],f,l⟩ m1 t' h hf hl fun j M6 g6 H6 l6=>?_;have l5:=g5.len;have s5:=aQ hs;have a5:=aQ ha;refine q ss (as++[⟨r.hands[m],f,l⟩]) j M6 ⟨K.ok,K.nd,K.sn,K.lo,K.ls,by rw[zf];show _+1<=_;walk_at "o"⟩ (yh _) (by rw[zf];exact zr _) H6 (by walk_at "o") (by walk_at "o") ?_ (g6.keep _ _ (.inr ls) (g5.get ne Ir)) (by rw[zM];exact g6.keep _ _ (.inr la) e5) ⟨fun k' o' z1 z2 z3 z4 e=>g6.keep _ _ z2 (g5.get z4 (xx.get z1 e)),by have:=g6.len;walk_at "o"⟩;obtain⟨jk,xs,i,c0,c1,c2,f1,f2⟩:=T5;exact⟨jk,xs,i,c0,c1,c2,g6.keep _ _ (.inl lt) f1,g6.keep _ _ (.inl (by walk_at "o")) f2⟩
 walk_at "wq";rw[zu];have lm:(ss.map dQ).length<zp/\(as.map ef).length<zp:=by rw[zu,zu];walk_at "o"
 simp only[bI];have B:∀o:MO,(M4.set ja o)[jH]?=some (.ins srt (hF tr tp x t j7)):=fun o=>by rw[zc (by walk_at "o")];exact H4.h
 refine⟨fun z=>⟨fun z2=>?_,fun _=>⟨_,vU,_,g1,by decide,_,vU,lm.2,_,B _,rfl,_,g1,A⟩⟩,fun _=>⟨_,vU,_,g1,by decide,_,vU,lm.2,_,B _,rfl,_,g1,A⟩⟩;clear A B;have z2:=of_decide_eq_true z2;have nn:r.hands[m]≠r.hands[(m+1) % r.hands.length]:=fun e=>by
  have:=(xv ok.nd).mp e
  rcases Nat.lt_or_ge (m+1) r.hands.length with y|y
  ·rw[xQ y]at this;walk_at "o"
  ·have y2:m+1=r.hands.length:=by walk_at "o"
   rw[y2,Nat.mod_self]at this;walk_at "o"
 refine⟨_,Ir,_,g1,by decide,_,Ir,lm.1,_,(by rw[zc (by walk_at "o")];exact H4.h),rfl,_,g1,?_⟩;generalize r.hands[(m+1) % r.hands.length]=ho' at m2 nn ⊢;generalize r.hands[m]=h1' at m1 nn ⊢;have g5:=(Gx.refl (j:=js) (M:=M4)).set (.lst (ss.map dQ++[.tup [.str r.name,.str h1',.str ho',.int f,.int l]]));have e5:=dq (o:=.lst (ss.map dQ++[.tup [.str r.name,.str h1',.str ho',.int f,.int l]])) Ir;have T5:=T4.young (i:=js) (by walk_at "o") (.lst (ss.map dQ++[.tup [.str r.name,.str h1',.str ho',.int f,.int l]]));generalize M4.set js (.lst (ss.map dQ++[.tup [.str r.name,.str h1',.str ho',.int f,.int l]]))=M5 at g5 e5 T5 ⊢;refine Li k M5 (H4.gx (.inr ⟨ls,ns⟩) g5) K hm ⟨h1',ho',f,l⟩ m1 m2 nn t' h hf hl fun j M6 g6 H6 l6=>?_;have l5:=g5.len;have s5:=aQ hs;have a5:=aQ ha;refine q (ss++[⟨r.name,h1',ho',f,l⟩]) as j M6 ⟨K.ok,K.nd,fun s hs=>?_,K.lo,by rw[zf];show _+1<=_;walk_at "o",K.la⟩ (by rw[zf];exact zr _) (yh _) H6 (by walk_at "o") (by walk_at "o") ?_ (by rw[zM];exact g6.keep _ _ (.inr ls) e5) (g6.keep _ _ (.inr la) (g5.get (Ne.symm ne) vU)) ⟨fun k' o' z1 z2 z3 z4 e=>g6.keep _ _ z2 (g5.get z3 (xx.get z1 e)),by have:=g6.len;walk_at "o"⟩
 ·rcases zT.mp hs with y|y
  ·exact K.sn s y
  ·rw[zG.mp y]
   exact⟨r,hm,rfl,m1,m2⟩
 ·obtain⟨jk,xs,i,c0,c1,c2,f1,f2⟩:=T5
  exact⟨jk,xs,i,c0,c1,c2,g6.keep _ _ (.inl lt) f1,g6.keep _ _ (.inl (by walk_at "o")) f2⟩
end
end Law
namespace Law
open PySem L3
noncomputable def nS(p:Nat×Int):D:=.tup [.int p.1,.int p.2]
theorem LM{M:MH}(o:Option Str):∃p,rd M 1 (sA o)=some p:=by
 cases o with
 |none=>exact⟨_,rfl⟩
 |some s=>exact⟨_,rfl⟩
section
variable {srt jt jH jo js ja:Nat}{ax:List Ro}{ss:List Sn}{as:List Ab}{tr tp:D}{x:Ix}{t:Int}{j7:Nat}
theorem Kh(M:MH)(H:cR M srt jH ax ss as tr tp x t j7)(K:gj ax ss as)(l3:ax.length=3)(ho:M[jo]?=some (.lst (ax.map d8)))(hs:M[js]?=some (.lst (ss.map dQ)))(ha:M[ja]?=some (.lst (as.map ef)))
  (sp:List (Nat×Int)) (hp:∀p∈sp,p.1<3) (jp:Nat) (ep:M[jp]?=some (.lst (sp.map nS))) {x0 x1 x2 x7 x8 x9 eN i4 nN kJ nM nL:Option D} {F:Fl->MH->Prop}
  (q:∀(y11 CD CC CB CA:Option D) (M':MH),Gr M M'->F (.nx [x0,x1,x2,some (.ob jo),some (.ob jH),some (.ob js),some (.ob ja),x7,x8,x9,eN,y11,CD,CC,CB,CA]) M') :
  W (eG (some (jp,sp.map nS)) 12 11 (aq (cx srt 19) (.cons (.setP 13 14 (.idx (.var 3) (.var 12)))
  (.cons (.set 15 (.call ("_law_on":Str) (.cons (.var 14) (.cons (.comp 16 (.seq (.var 5)) (.some (.cmp (.cmp .Eq (.idx (.var 0) (.cint 0)) (.var 14)))) (.slc (.var 0) (.some (.cint 1)) .none)) (.cons (.var 6) (.cons (.var 11) .nil))))))
  (.cons (.ifS (.not (.tru (.call ("_law_alike":Str) (.cons (.mcl (.var 4) ("on_duty":Str) (.cons (.var 13) (.cons (.var 11) .nil))) (.cons (.var 15) .nil))))) (.cons (.ret (.cbl false))
  .nil) .nil)
  .nil)))) (sp.map nS) [x0,x1,x2,some (.ob jo),some (.ob jH),some (.ob js),some (.ob ja),x7,x8,x9,eN,i4,nN,kJ,nM,nL]) M F:=by
 have big:=bB;have ls:=K.ls;refine Jv (fun n ρ M'=>Gr M M'/\∃y11 CD CC CB CA,ρ=[x0,x1,x2,some (.ob jo),some (.ob jH),some (.ob js),some (.ob ja),x7,x8,x9,eN,y11,CD,CC,CB,CA]) ⟨.refl,_,_,_,_,_,rfl⟩ (fun _ _ _ z=>z.1.keep _ _ ep) ?_ ?_
 ·rintro n d ρ M1 hd ⟨g1,y11,CD,CC,CB,CA,rfl⟩
  rw[ze]at hd;obtain⟨⟨i,tt⟩,hi,rfl⟩:=zo.mp hd;have Vh:=hp _ (zF hi);obtain⟨r,hr⟩:∃r,ax[i]?=some r:=⟨_,zw (by dsimp only at Vh;walk_at "o")⟩;have lI:=zF hr;refine⟨_,_,rfl,?_⟩;walk_at "wq";refine⟨_,g1.keep _ _ ho,?_⟩;walk_at "wq";refine⟨d8 r,bY (by rw[ze,hr];rfl),?_⟩;unfold d8;walk_at "wq";refine⟨_,g1.keep _ _ hs,by rw[zu];walk_at "o",HK (c:=r.name) (g1.keep _ _ hs) (fun s M B h=>by unfold dQ;walk_at "wq";exact h) (fun s M Q h=>by unfold dQ;walk_at "wq";exact h) ?_⟩;walk_at "wq";have g2:=Gr.app M1 [MO.lst ((gE r.name ss).map mB)];have e2:=ao M1 (MO.lst ((gE r.name ss).map mB));generalize M1++[MO.lst ((gE r.name ss).map mB)]=M2 at g2 e2 ⊢;refine QZ 18 M2 (K.ok r lI).rota _ ja (gE r.name ss) as tt K.la e2 (g2.keep _ _ (g1.keep _ _ ha)) (K.PC lI tt) fun M3 g3=>?_;rw[<- ER K lI];have H3:=H.keep ((g1.trans g2).trans g3);walk_at "wq";simp only[bI];refine⟨_,H3.h,rfl,F2 15 M3 H3 K r.name (qH K.nd lI) tt fun M4 g4=>?_⟩;obtain⟨pp,PL⟩:=LM (M:=M4) (ES r ss as tt);walk_at "wq";refine w5 1 18 M4 _ _ pp _ PL PL fun M5 g5=>?_;walk_at "wq";exact⟨((g1.trans g2).trans g3).trans (g4.trans g5),_,_,_,_,_,rfl⟩
 ·rintro ρ M1 ⟨g1,y11,CD,CC,CB,CA,rfl⟩
  exact q _ _ _ _ _ _ g1
theorem JG(M0 M:MH)(T:Tp M 1)(g:Gx 1 M0 M)(jp jd:Nat)(l1:1<jp)(lp:M0.length<=jp)(nd:jd≠jp)(n1:jd≠1)(ds:List Int)(ld:ds.length=3)(ed:M[jd]?=some (.lst (ds.map .int)))(ep:M[jp]?=some (.lst [])){x0 x2 x3 x4 x5 x6 x8 x9 eN i4 nN kJ nM nL:Option D}{F:Fl->MH->Prop}
  (q:∀(sp:List (Nat×Int)) (y11:Option D) (M':MH),(∀p∈sp,p.1<3)->sp.length=3->Gx 1 M0 M'->Tp M' 1->M'[jp]?=some (.lst (sp.map nS))->F (.nx [x0,some (.ob 1),x2,x3,x4,x5,x6,some (.ob jp),x8,x9,eN,y11,nN,kJ,nM,nL]) M') :
  W (dI (some (jd,ds.map .int)) 11 (aq (cx srt 19) (.cons (.expr (.mth .append (.var 7) (.cons (.tup (.cons (.call ("_law_draw":Str) (.cons (.var 1) (.cons (.cint 3) .nil))) (.cons (.var 11) .nil))) .nil)))
  .nil)) (ds.map .int) [x0,some (.ob 1),x2,x3,x4,x5,x6,some (.ob jp),x8,x9,eN,i4,nN,kJ,nM,nL]) M F:=by
 have big:=bB;refine fw (fun n ρ M'=>∃sp:List (Nat×Int),∃y11,(∀p∈sp,p.1<3)/\sp.length=n/\Gx 1 M0 M'/\Tp M' 1/\M'[jp]?=some (.lst (sp.map nS))/\M'[jd]?=some (.lst (ds.map .int))/\ρ=[x0,some (.ob 1),x2,x3,x4,x5,x6,some (.ob jp),x8,x9,eN,y11,nN,kJ,nM,nL])
  ⟨[],_,by simp,rfl,g,T,ep,ed,rfl⟩ (fun _ _ _ ⟨_,_,_,_,_,_,_,e,_⟩=>e) ?_ ?_
 ·rintro n d ρ M1 hd ⟨sp,y11,h3,hl,g1,T1,e1,Qn,rfl⟩
  have Vb:=(zv.mp hd).1;rw[zu]at Vb;rw[ze]at hd;obtain⟨tt,_,rfl⟩:=zo.mp hd;walk_at "wq";refine⟨_,e1,aV 18 M1 T1 _ (by decide) fun r M2 p2 b2 g2 T2=>?_⟩;have e2:=g2.get (by walk_at "o") e1;walk_at "wq";obtain⟨m,rfl⟩:=yz p2;refine⟨by decide,_,e2,by rw[zu];walk_at "o",sp++[(m,tt)],_,fun p hp=>?_,by rw[zf,hl];rfl,(g1.trans g2).young lp _,T2.young l1 _,?_,?_,rfl⟩
  ·rcases zT.mp hp with z|z
   ·exact h3 p z
   ·rw[zG.mp z]
    show m<3;walk_at "o"
  ·rw[dq e2,zM]
   rfl
  ·rw[zc (Ne.symm nd)]
   exact g2.get n1 Qn
 ·rintro ρ M1 ⟨sp,y11,h3,hl,g1,T1,e1,Qn,rfl⟩
  rw[zu,ld]at hl;exact q sp y11 M1 h3 hl g1 T1 e1
end
end Law
namespace Law
open PySem L3
structure Qt (M:MH) (srt jH jo js ja:Nat) (ax:List Ro) (tr tp:D) (x:Ix) (n:Nat) (ss:List Sn) (as:List Ab) (t:Int) (j7:Nat) (sp:List (Nat×Int)) (jp:Nat):Prop where
 H:cR M srt jH ax ss as tr tp x t j7
 K:gj ax ss as
 ls:ss.length<=n
 la:as.length<=n
 ns:js≠j7
 na:ja≠j7
 T:Tp M 1
 o:M[jo]?=some (.lst (ax.map d8))
 s:M[js]?=some (.lst (ss.map dQ))
 a:M[ja]?=some (.lst (as.map ef))
 p:M[jp]?=some (.lst (sp.map nS))
 q3:∀p∈sp,p.1<3
 l3:sp.length<=3
 pj:x.j6<jp
 ps:jp≠js
 pa:jp≠ja
section
variable {srt:Nat}
theorem OP(sc:List Int):W ((cx srt 20).fn "law" [.fl (sc.map .int)]) [] fun d _=>d=.bl true:=by
 have big:=bB;rw[aW "law" 16 1 rK rfl,wf,rK];walk_at "wq";rw[oQ _ (by decide)];have VM:(84:Int).toNat=84:=rfl;rw[VM,<- xp];refine⟨by decide,?_⟩;generalize cj:[MO.lst ((sc.take 84).map D.int),MO.lst [D.ob (List.length ([]:MH)),.int 0]]=M1;have T1:Tp M1 1:=⟨0,sc.take 84,0,by decide,by decide,by rw[zY];walk_at "o",by rw[<- cj];rfl,by rw[<- cj];rfl⟩;clear cj;refine Jt 16 M1 T1 fun jw jn jv jr jh ns vs rs hs M2 w x2 gw gn gv gr gh=>?_;walk_at "wq";refine JP 17 M2 w fun ax jo M3 hn ok x3 T3 go ho=>?_;have w3:=w.go x3 T3;have l3:ax.length=3:=by
  have:=congrArg List.length hn
  rw[zu,w.lr]at this;exact this
 have n1:jo≠1:=by have:=T1.lt;have:=x2.len;walk_at "o"
 walk_at "wq";refine Ov 15 M3 w3 fun as on b wt ag ch M4 _ _ _ _ _ _ _ _ x4 T4=>?_;generalize D.tup [as,.bl on,.tup (b.map .str),.int wt,.int ag,.tup (ch.map .str),.tup []]=tr;have w4:=w3.go x4 T4;have D3:=x4.get n1 ho;walk_at "wq";refine⟨_,D3,by decide,?_⟩;have g5:=Gr.app M4 [MO.lst (ax.map d8)];have e5:=ao M4 (MO.lst (ax.map d8));generalize M4++[MO.lst (ax.map d8)]=M5 at g5 e5 ⊢;have g6:=Gr.app M5 [MO.lst []];have e6:=ao M5 (MO.lst []);generalize M5++[MO.lst []]=M6 at g6 e6 ⊢;have w6:=w4.keep (g5.trans g6);refine⟨_,w6.w,?_⟩;walk_at "wq";refine⟨_,Gg,?_⟩;have lh:=w.lh;obtain⟨h0,hr,rfl⟩:∃a l,hs=a::l:=by
  rcases hs with _|⟨a,l⟩
  ·simp at lh
  ·exact⟨_,_,rfl⟩
 have wh:=w6.h;rw[zH]at wh;walk_at "wq";refine⟨_,wh,?_⟩;walk_at "wq";simp only[bI];have gi:=Gr.app M6 [MO.ins srt []];have ei:=ao M6 (MO.ins srt []);generalize M6++[MO.ins srt []]=M7 at gi ei ⊢;have gg:=(g5.trans g6).trans gi;have T7:=T4.keep gg;have D0:=gg.keep _ _ D3;have lo:=aQ D3;have lt:=T4.lt;have UE:=(g5.trans g6).len;refine MR 18 M7 tr (.str h0) M4.length M5.length ei ((g6.trans gi).keep _ _ e5) (gi.keep _ _ e6) fun x j7 M8 x8 H=>?_;generalize M6.length=jH at H x8 UE ei ⊢;have PR:=x8.get (by walk_at "o") D0;have T8:Tp M8 1:=by
  obtain⟨jk,xs,i,c0,c1,c2,f1,f2⟩:=T7;exact⟨jk,xs,i,c0,c1,c2,x8.get (by walk_at "o") f1,x8.get (by walk_at "o") f2⟩
 clear T7 D0 gg gi ei w6 wh g6 e6 g5 e5 x8;walk_at "wq";refine⟨by decide,by decide,by decide,?_⟩;have o:=H.o;have l7:=aQ H.e7;have ga:=Gr.app M8 [MO.lst []];have ea:=ao M8 (MO.lst []);have la:=aQ ea;generalize vQ:M8.length=js at ea ⊢;generalize M8++[MO.lst []]=M9 at ga ea la ⊢;have gb:=Gr.app M9 [MO.lst []];have eb:=ao M9 (MO.lst []);have lb:=aQ eb;generalize Ve:M9.length=ja at eb ⊢;generalize M9++[MO.lst []]=Ma at gb eb lb ⊢;have gc:=Gr.app Ma [MO.lst []];have ec:=ao Ma (MO.lst []);generalize Iz:Ma.length=jp at ec ⊢;generalize Ma++[MO.lst []]=Mb at gc ec ⊢;have gd:=(ga.trans gb).trans gc;refine⟨by decide,aV 18 Mb (T8.keep gd) _ (by decide) fun r Mc p1 b1 xc Tc=>?_⟩;walk_at "wq";refine⟨⟨by walk_at "o",by walk_at "o"⟩,?_⟩;have TL:Qt Mc srt jH jo js ja ax tr (.str h0) x 0 [] [] 0 j7 [] jp:=⟨(H.keep gd).gx (.inl (by walk_at "o")) xc,⟨ok,by rw[hn];exact w.nd,by simp,by walk_at "o",yq _,yq _⟩,zr _,zr _,by walk_at "o",by walk_at "o",Tc,xc.get n1 (gd.keep _ _ PR),xc.get (by walk_at "o") ((gb.trans gc).keep _ _ ea),xc.get (by walk_at "o") (gc.keep _ _ eb),xc.get (by walk_at "o") ec,by simp,by decide,by walk_at "o",by walk_at "o",by walk_at "o"⟩;have ne:js≠ja:=by walk_at "o"
 have ls:x.j6<js:=by walk_at "o"
 have la':x.j6<ja:=by walk_at "o"
 have Pz:jo<jH:=by walk_at "o"
 have l1:1<jH:=by walk_at "o"
 clear vQ Ve Iz ga gb gc gd ea eb ec H xc Tc T8 PR lb la l7 o;refine fw (fun n ρ M'=>∃ss as t j7 sp jp x9 eN i4 nN kJ nM nL,Qt M' srt jH jo js ja ax tr (.str h0) x n ss as t j7 sp jp/\ρ=[some (D.fl (List.map D.int sc)),some (D.ob 1),some (D.ob jw),some (D.ob jo),some (D.ob jH),some (D.ob js),some (D.ob ja),some (D.ob jp),some (D.int t),x9,eN,i4,nN,kJ,nM,nL]) ⟨_,_,_,_,_,_,_,_,_,_,_,_,_,TL,rfl⟩ (fun _ _ _ _=>trivial) ?_ ?_
 ·rintro n d ρ M1 hd ⟨ss,as,t,j7,sp,jp,x9,eN,i4,nN,kJ,nM,nL,S,rfl⟩
  obtain⟨rfl,XN⟩:=vg hd;have XO:n<=20:=by walk_at "o"
  have sl:=S.ls;have o:=S.H.o;have al:=S.la;walk_at "wq";refine aV 18 M1 S.T _ (by decide) fun r1 M2 q1 _ y1 T2=>?_;walk_at "wq";refine K8 13 M2 T2 (S.H.gx (.inl l1) y1) S.K l3 l1 (y1.get n1 S.o) Pz n1 (y1.get (by walk_at "o") S.s) (y1.get (by walk_at "o") S.a) ls S.ns la' S.na ne (by walk_at "o") (by walk_at "o") (t+r1) (by walk_at "o") fun ss' as' j7' M3 K3 XB XE H3 Uv Uy T3 s3 a3 G3=>?_;walk_at "wq";refine⟨rfl,fun z=>(by cases z),fun _=>⟨by decide,?_⟩⟩;have gp:=Gr.app M3 [MO.lst []];have np:=ao M3 (MO.lst []);have lp:=aQ np;have UG:=T3.lt;have TN:=aQ s3;have VX:=aQ a3;have pl:=y1.len;have XA:=aQ S.p;have TZ:=G3.len;have UQ:=aQ H3.e6;generalize XR:M3.length=jq at np lp UG TN VX TZ UQ ⊢;generalize M3++[MO.lst []]=M4 at gp np lp ⊢;refine aV 18 M4 (T3.keep gp) _ (by decide) fun i1 M5 _ _ y5 T5=>?_;walk_at "wq";refine aV 18 M5 T5 _ (by decide) fun i2 M6 _ _ y6 T6=>?_;walk_at "wq";have VN:((10:Int) ^ Int.toNat 12)=1000000000000:=by decide
  rw[VN];refine⟨⟨by decide,by decide,by decide⟩,aV 18 M6 T6 _ (by decide) fun i3 M7 _ _ y7 T7=>?_⟩;walk_at "wq";have gq:=Gr.app M7 [MO.lst [D.int i1,.int (t+r1+i2),.int i3]];have nq:=ao M7 (MO.lst [D.int i1,.int (t+r1+i2),.int i3]);have XF:=T7.lt;have yy:=(y5.trans y6).trans y7;have yl:=yy.len;generalize M7++[MO.lst [D.int i1,.int (t+r1+i2),.int i3]]=M8 at gq nq ⊢;refine⟨by decide,_,nq,?_⟩;have G4:Gx 1 M3 M8:=(Gx.of gp).trans (yy.trans (.of gq));refine JG M3 M8 (T7.keep gq) G4 jq M7.length (by walk_at "o") (by walk_at "o") (by walk_at "o") (by walk_at "o") [i1,t+r1+i2,i3] rfl nq (gq.keep _ _ (yy.get (by walk_at "o") np)) fun Hx Sz M9 h9 D6 g9 T9 e9=>?_;have ep:=g9.get (k:=jp) (by have:=S.pj;walk_at "o") (G3.keep _ _ (by have:=S.pj;walk_at "o") (.inr S.pj) S.ps S.pa (y1.get (by have:=S.pj;walk_at "o") S.p));have H9:=H3.gx (.inl l1) g9;have s9:=g9.get (by walk_at "o") s3;have a9:=g9.get (by walk_at "o") a3;have o9:=g9.get n1 (G3.keep _ _ n1 (.inl Pz) (by walk_at "o") (by walk_at "o") (y1.get n1 S.o));walk_at "wq";have XG:=S.l3;refine⟨_,ep,_,e9,by rw[zu,zu];walk_at "o",_,ao _ _,?_⟩;rw[<- zM];have gw:=Gr.app M9 [MO.lst ((sp++Hx).map nS)];have nw:=ao M9 (MO.lst ((sp++Hx).map nS));generalize M9++[MO.lst ((sp++Hx).map nS)]=Ma at gw nw ⊢;refine Kh Ma (H9.keep gw) K3 l3 (gw.keep _ _ o9) (gw.keep _ _ s9) (gw.keep _ _ a9) (sp++Hx) (fun p hp=>(zT.mp hp).elim (S.q3 p) (h9 p)) M9.length nw fun Sz Xw Xv Xu Xs Mb gb=>?_;have gz:=gw.trans gb;have Hb:=H9.keep gz;have ob:=gz.keep _ _ o9;walk_at "wq";refine⟨_,ob,?_⟩;walk_at "wq";obtain⟨r0,rr,rfl⟩:∃a l,ax=a::l:=by
   rcases ax with _|⟨a,l⟩
   ·simp at l3
   ·exact⟨_,_,rfl⟩
  have PD:=w.up;have Iu:=w.rz;rw[<- hn]at PD Iu;refine⟨d8 r0,bY (j:=0) rfl,?_⟩;unfold d8;walk_at "wq";have lz:("zz":Str).length=2:=rfl;have sz:=Iu _ (wx (f:=Ro.name) (zR (a:=r0) (l:=rr)));refine⟨by rw[lz];walk_at "o",?_⟩;refine⟨_,Q9 15 Mb Hb _ (fun r hr z=>?_) _,?_⟩
  ·have:=PD _ (wx (f:=Ro.name) hr)
   rw[z,dZ,lz]at this;simp only[zH,wH]at this;walk_at "o"
  ·walk_at "wq"
   exact⟨_,_,_,_,_,_,_,_,_,_,_,_,_,⟨Hb,K3,by walk_at "o",by walk_at "o",Uv,Uy,T9.keep gz,ob,gz.keep _ _ s9,gz.keep _ _ a9,gz.keep _ _ e9,h9,by walk_at "o",by walk_at "o",by walk_at "o",by walk_at "o"⟩,rfl⟩
 ·rintro ρ M1 ⟨ss,as,t,j7,sp,jp,x9,eN,i4,nN,kJ,nM,nL,S,rfl⟩
  walk_at "wq"
theorem OQ(ns:List Int)(_:ns.length<=63):∃M',(cx srt 20).fn "law" [.fl (ns.map .int)] []=some (.ok (.bl true),M'):=by
 obtain⟨a,M',e,rfl⟩:=OP (srt:=srt) ns;exact⟨M',e⟩
end
end Law
namespace Law
open PySem PySem.Spec PySem.Calls PyProof.Rows L2 L3
noncomputable def cw(j:Nat):Stmt:=(match top 60 with
 |.ClassDef _ _ _ b _ _ _ _ _ _ _=>b
 |_=>[]).getD j (.Pass ⟨0,0,0,0⟩)
noncomputable def Ny:List Str:=[]
noncomputable def Jf:List Str:=["ValueError","all","any","bool","int","isinstance","len","list","max","min","range","reversed","set","sorted","str","tuple","zip"]
noncomputable def rG:Ent:=EE id (top 76) ["_law_tape","_law_world_here","_law_rotas_here","_law_house","_law_swaps","_law_absences","_law_spots","_law_turn","_law_k","_law_ahead","_law_one","_law_at","_law_name","_law_rota","_law_due"] rK
noncomputable def es:List Ent:=[EE id (top 2) ["hands"] jc,EE id (top 3) ["found","swap"] je,EE id (top 4) [] jg,EE id (top 5) ["hands","at","hand"] ji,EE id (top 7) ["pair"] dz,EE id (top 8) ["own_swaps"] jj,EE id (top 27) [] ux,EE id (top 28) [] oW,EE id (top 39) ["standing","forcing","numbers","saying","group"] jf,EE id (top 48) ["states_of","state","following","calls","group","row"] kI,EE id (top 50) ["turns","saying","quieting"] eI,EE id (top 51) ["coming"] gQ,EE id (top 53) ["answered"] fT,EE id (top 54) ["hand"] oX,EE id (top 55) ["edges","found","entries","there","turn","told"] iz,EE id (top 57) [] eT,EE id (top 58) [] dM,EE id (top 62) ["_law_at"] gT,EE id (top 63) ["_law_word","_law_at","_law_last","_law_more"] fV,EE id (top 64) ["_law_letters","_law_world_here","_law_some"] fU,EE id (top 65) ["_law_name","_law_kind","_law_first","_law_values"] eU,EE id (top 66) [] eJ,EE id (top 67) [] fX,EE id (top 68) ["_law_some","_law_by","_law_chain","_law_rows","_law_on_here","_law_counts"] iA,EE id (top 69) ["_law_rotas_here","_law_name","_law_first","_law_some","_law_hands","_law_long"] fW,EE id (top 70) [] bt,EE id (top 71) ["_law_hands","_law_at","_law_hand","_law_one","_law_other","_law_first","_law_last","_law_k"] jy,EE id (top 74) ["_law_first"] gS,EE id (top 75) ["_law_name","_law_rota","_law_at","_law_other","_law_first","_law_last"] gR,rG]
noncomputable def ms:List Ent:=[EE aA (cw 0) [] dN,EE aA (cw 5) ["found"] fY,EE aA (cw 6) [] fZ,EE aA (cw 9) [] mM,EE aA (cw 10) [] ee,EE aA (cw 13) [] jY,EE aA (cw 15) [] cY,EE aA (cw 16) ["found"] bQ,EE aA (cw 17) ["records"] cQ,EE aA (cw 18) [] eV]
theorem K9:tabOf (es++ms)=tab:=by kernel_rfl
theorem HU:rG.x = "law":=by kernel_rfl
theorem Pp:(es++ms).all qr=true:=by kernel_rfl
theorem Uo:(es++ms).map (fun e=>dD ⟨aj e.st,e.N,es.map (·.x),Ny,Jf⟩ 200 (aN e.st))=(es++ms).map fun e=>some e.b:=by kernel_rfl
theorem Uk:(es++ms).map (fun e=>(tabOf (es++ms)).lookup e.x)=(es++ms).map fun e=>some ⟨e.N.length,e.ps.length,e.b⟩:=by kernel_rfl
noncomputable def LL:List DefRec:=([0,2,3,4,5,7,8,9,21,22,24,25,27,28,29,30,31,33,34,35,36,37,39,41,42,43,44,45,46,47,48,50,51,52,53,54,55,57,58,59,62,63,64,65,66,67,68,69,70,71,72,73,74,75,76]:List Nat).map fun i=>mW (qG (top i)) (top i)
noncomputable def cg:List (Str×Stmt):=ms.map fun e=>(qG e.st,e.st)
noncomputable def VT(i:Nat):Pos:=([⟨409,4,409,13⟩,⟨409,17,409,27⟩,⟨409,28,409,34⟩,⟨409,36,409,40⟩,⟨409,17,409,41⟩,⟨409,43,409,53⟩,⟨409,54,409,60⟩,⟨409,62,409,67⟩,⟨409,43,409,68⟩,⟨409,70,409,80⟩,⟨409,81,409,87⟩,⟨409,89,409,96⟩,⟨409,70,409,97⟩,⟨409,99,409,109⟩,⟨409,110,409,116⟩,⟨409,118,409,127⟩,⟨409,99,409,128⟩,⟨409,16,409,129⟩,⟨409,4,409,129⟩,⟨410,4,410,13⟩,⟨410,4,410,20⟩,⟨410,21,410,31⟩,⟨410,32,410,38⟩,⟨410,41,410,48⟩,⟨410,50,410,57⟩,⟨410,59,410,66⟩,⟨410,68,410,75⟩,⟨410,40,410,76⟩,⟨410,21,410,77⟩,⟨410,4,410,78⟩,⟨410,4,410,78⟩,⟨411,4,411,13⟩,⟨411,4,411,20⟩,⟨411,25,411,35⟩,⟨411,36,411,42⟩,⟨411,44,411,54⟩,⟨411,25,411,55⟩,⟨411,21,411,55⟩,⟨411,4,411,56⟩,⟨411,4,411,56⟩,⟨412,4,412,19⟩,⟨412,23,412,29⟩,⟨412,31,412,38⟩,⟨412,40,412,49⟩,⟨412,51,412,60⟩,⟨412,62,412,69⟩,⟨412,71,412,77⟩,⟨412,22,412,78⟩,⟨412,4,412,78⟩,⟨413,12,413,27⟩,⟨413,28,413,34⟩,⟨413,12,413,35⟩,⟨413,40,413,46⟩,⟨413,50,413,55⟩,⟨413,56,413,57⟩,⟨413,50,413,58⟩,⟨413,62,413,71⟩,⟨413,72,413,78⟩,⟨413,62,413,79⟩,⟨413,11,413,80⟩,⟨413,4,413,80⟩]:List Pos).getD i ⟨0,0,0,0⟩
noncomputable def Qq:Scope:=match (aN (top 72)).getD 4 (.Pass ⟨0,0,0,0⟩) with
 |.Return (some (.ListComp _ _ sc _)) _=>sc
 |_=>aj (top 72)
theorem KC:aN (top 72)=oS VT Qq:=by kernel_rfl
theorem O7:Cs (aj (top 72)) Qq:=⟨by decide +kernel,by decide +kernel,by decide +kernel,by decide +kernel,by decide +kernel⟩
theorem O8:bZ kQ ["_law_e"] (aj (top 72)):=⟨rfl,rfl,rfl,by decide +kernel,rfl,by decide +kernel,by decide +kernel⟩
noncomputable def Hl(i:Nat):Pos:=([⟨415,4,415,19⟩,⟨415,22,415,24⟩,⟨415,4,415,24⟩,⟨417,8,417,18⟩,⟨417,8,417,26⟩,⟨417,8,417,48⟩,⟨417,8,417,48⟩,⟨418,11,418,21⟩,⟨419,8,419,23⟩,⟨419,26,419,38⟩,⟨419,39,419,45⟩,⟨419,26,419,46⟩,⟨419,8,419,46⟩,⟨418,4,419,46⟩,⟨416,4,419,46⟩,⟨417,27,417,36⟩,⟨417,38,417,47⟩,⟨420,11,420,26⟩,⟨420,31,420,40⟩,⟨420,30,420,41⟩,⟨420,11,420,41⟩,⟨420,4,420,41⟩]:List Pos).getD i ⟨0,0,0,0⟩
theorem Jz:aN (top 73)=jI Hl:=by kernel_rfl
theorem Og:qe (aj (top 73)):=⟨by decide +kernel,by decide +kernel⟩
theorem Oi:bZ kX eW (aj (top 73)):=⟨rfl,rfl,rfl,by decide +kernel,rfl,by decide +kernel,by decide +kernel⟩
theorem Oh:jF Hl:=by show ((Hl 4).endLine==(Hl 5).line)=true;decide
theorem Ul:([1,2,3,4,5,6,12,13,22,30,31,32,34,35,36,37,38,40,41,42,43,44,45,46,47,48,49,52,53,54]:List Nat).map (fun i=>LL[i]?)=es.map fun e=>some (mW e.x e.st):=by kernel_rfl
theorem fK:kB.all (fun m=>ms.any fun e=>e.x==aA m&&qG e.st==m&&true)=true:=by kernel_rfl
theorem Uj:Al.all (fun m=>ms.any fun e=>e.x==aA m&&qG e.st==m&&fq 200 (aN e.st) e.b)=true:=by kernel_rfl
theorem Um:(["__init__"]:List Str).all (fun m=>ms.any fun e=>e.x==aA m&&qG e.st==m&&true)=true:=by kernel_rfl
theorem all_mk{P q:Program}{w:World}{lo:List Str}{iM:ExcName->Option Value}{mg mb:Str->Option Value}{h:Heap}{fa:Addr}(T:Top q lo iM mg mb h)(Y:y4 w h/\qh cg h)(ID:mg "law" = some (.ref fa))(r:recsOf q=LL)(z:IV q lo Jf=true)
  : ∃(g:List D->Mo D) (fd:FuncData),(∀ns:List Int,ns.length<=63->∃M',g [.fl (ns.map .int)] []=some (.ok (.bl true),M'))/\(∀(s:Shared) (v:Value),BindsTo s fd ⟨[v],[]⟩ [("_law_script",v)])/\∀base:Heap,(aR h).In base->base.Ns mainGlobals mg->cq P w (aR h) mg base jA 40 fa fd ["_law_script"] (eY (aR h) 1 g):=by
 obtain⟨C,hC,cls,kl,lD,mk,kp⟩:=Km T.g Y.2
 obtain⟨Cu,Dd,Z⟩:=Jm T.g Y.1
 have sa:=wM.symm.trans Pp
 obtain⟨sE,sM⟩:=yM.mp sa
 have ok:∀e∈es++ms,Cq (es.map (·.x)) Ny Jf (tabOf (es++ms)) e:=GP Pp Uo Uk
 have dm:∀m∈kB,∃e∈ms,nK (aR h) C m e:=fun m hm=>(ni lD sM fK m hm).imp fun _ x=>⟨x.1,x.2.1⟩
 have di:∃e∈ms,N0 (aR h) mg C e:=by
  obtain⟨e,he,⟨hx,fa,fd,F,hm,B⟩,_⟩:=ni lD sM Um _ zR
  have nm:aA "__init__" = "House.__init__":=by decide
  exact⟨e,he,nm▸hx,fa,fd,nm▸F,⟨mk,hm.at_,hm.fn,kp⟩,hC,B⟩
 have R:mQ (aR h) mg:=mQ.DC T r 50 rfl (fun _ _ _ _ _ _=>Po fun _=>rfl) O8 KC O7 (by decide) (by decide) (mn T z _ (by decide +kernel)) (mn T z _ (by decide +kernel)) (mn T z _ (by decide +kernel))
 have rf:=K2 T r 51 rfl (fun _ _ _ _ _ _=>Uh fun _ _ _=>rfl) Oi Jz Og Oh
 have A:Hf (aR h) mg gl es ms Ny Jf C Cu Dd:=⟨ok,GR T r sE _ Ul,dm,di,(fun _ h9=>nomatch h9),mn T z,cls,kl,Z,R,rf,ni lD sM Uj⟩
 obtain⟨fd,h1,h2⟩:=Kk (P:=P) (w:=w) (srt:=HP) (n0:=1000) A (fun k=>Lr (by cases k <;> rfl)) 20 (e:=rG) (by simp[es]) (x:="_law_script") (by kernel_rfl) (fun a b c d f g u=>AB (zB.mp sE rG (by simp[es])) a b c d f g [u] (by kernel_rfl)) (HU▸ID)
 exact⟨_,fd,fun ns hn=>by rw[HU,CN,K9];exact OQ ns hn,h1,h2⟩
end Law
open PySem PySem.W PyProof.Rows
namespace Law
set_option maxRecDepth 100000 in
set_option maxHeartbeats 0 in
theorem Up(w:World):(fencedOpening treeTable PP w 20000).map (fun s₀=>(pH w s₀).map fun s₁=>Hook.obs (L3.ft Law.cg) s₁)=some (some (Hook.val (L3.ft Law.cg) w)):=by kernel_rfl
theorem k8{tb:String->Option Builtin}{p:Program}{w:World}{n₀:Nat}{ann:Option Value}(m:Nat){s':Shared}{t':Thread}:∀(n:Nat) (s:Shared) (t:Thread),goN tb p w n₀ ann n s t=some (s',t')->topRun tb p w n₀ ann (n+m) s t=topRun tb p w n₀ ann m s' t'
 |0,s,t,h=>by
  cases h;rw[Nat.zero_add]
 |n+1,s,t,h=>by
  rw[show n+1+m=(n+m)+1 by walk_at "o",topRun];rw[goN]at h;cases h1:through t with
  |true=>rw[h1]at h;cases h
  |false =>
   rw[h1]at h;cases h2:stepOk n₀ ann t with
   |false=>rw[h2]at h;cases h
   |true =>
    rw[h2]at h;dsimp only at h ⊢;cases h3:step (denote tb) p w s t with
    |go s1 t1 =>
     rw[h3]at h;exact k8 m n s1 t1 h
    |halt o s1=>rw[h3]at h;cases h
theorem of_map{α β:Type}{o:Option α}{f:α->β}{x:β}{a:α}(ho:o=some a)(h:o.map f=some x):f a=x:=by
 subst ho;exact Option.some.inj h
theorem left:LeftO PP Law.vw [] XT (Hook.obs (L3.ft Law.cg)) (Hook.val (L3.ft Law.cg)) 20000:=fun w=>by
 have pc:=L4 w;have pd:=L0 w;have A:=Uq w;cases hf:fencedOpening treeTable PP w 20000 with
 |none=>rw[hf]at A;cases A
 |some s₀ =>
  have pg:=of_map hf (pc.trans (by rw[hf];rfl:_=some (some (S w s₀,T w s₀))));have ph:=of_map hf (pd.trans (by rw[hf];rfl:_=some (some (S2 w s₀,T2 w s₀))));have A:=of_map hf A;have C:=of_map hf (Up w);have B1:=of_map hf (Q2 w);have B2:=of_map hf (Q1 w);have B3:=of_map hf (Q0 w);cases hr:pH w s₀ with
  |none=>rw[hr]at A;cases A
  |some s₁ =>
   have A:=of_map hr A;have C:=of_map hr C;have B1:=of_map hr B1;have B2:=of_map hr B2;have B3:=of_map hr B3;obtain⟨A1,A2⟩:=yM.mp A;have go:=(k8 16720 3280 s₀ (topStub PP) pg).trans (k8 15900 820 _ _ ph);unfold openEnds;rw[hf];show (topFrom treeTable PP w 20000 s₀).map _=_;unfold topFrom;rw[A1];dsimp only;have e:topRun treeTable PP w s₀.heap.objs.size (s₀.heap.nsMap mainGlobals "__annotations__") 20000 s₀ (topStub PP)=some s₁:=go.trans hr;rw[e];show ((match staticsOk (importedModules PP.main.body) s₀.heap s₁.heap&&namesBound PP s₁.heap&&gensDone s₁&&laidKept s₀.heap s₁.heap with
    |true=>some s₁
    |false=>none)).map _=_
   rw[A2];show some (sn s₁,Hook.obs (L3.ft Law.cg) s₁)=some (openGood Law.vw [],Hook.val (L3.ft Law.cg) w);rw[C];have es:sn s₁=openGood Law.vw []:=Prod.ext (Prod.mk.inj B1).1 (Prod.ext (Prod.mk.inj B1).2 (Prod.ext B2 B3));rw[es]
end Law
set_option maxRecDepth 100000 in
set_option maxHeartbeats 0 in
theorem Law.holds2:Law.sC.Holds:=by
 refine holds_law Law.Fx fun Fx=>?_;refine holds_open (q:=Law.vw) (loose:=[]) (Xt:=fun s=>xlAt Law.vw [] s&&recOk (RowW.records (OpenRow.toRowW Law.sC.row)) s) (XP:=XL Law.vw []) (Yf:=Hook.obs (L3.ft Law.cg)) (Ya:=Hook.val (L3.ft Law.cg)) (YP:=Hook.says (L3.ft Law.cg)) (N:=20000) Law.left (Hook.of (L3.ft Law.cg)) (Hook.keeps (L3.ft Law.cg))
  (fun s e=>xl_of s (yM.mp e).1) XL.keeps (by rfl) (by rfl) (by rfl) (fun s e=>recFacts_of (yM.mp e).2) (by rfl) Fx (by decide +kernel) ⟨rfl,rfl,rfl,rfl,rfl,by decide +kernel⟩ ?hw ?hc
 case hw=>w_witness2
 refine L3.Of (l:=Law.sC) (x:="_law_script") (k:=40) ⟨rfl,by decide,by decide,rfl⟩ rfl rfl ?F
 case F =>
  intro w iM mg mb fa h T Y qD;exact Law.all_mk T Y qD (by kernel_rfl) (by kernel_rfl)
theorem PySem.Challenge.cw_belfry_k68_on_duty_holds : PySem.Challenge.rw_belfry_k68_on_duty.Holds := by
 exact Law.rw_eq ▸ Law.holds2
