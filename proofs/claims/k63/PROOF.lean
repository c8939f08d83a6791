import PyProof.Rows.All
import Wide.All
import OpenK.AllK
import Wide.FinOn
import Lean
import PyProof.EqAt
import PyProof.EqKinds
import PyProof.TupleCall
import PySem.Challenge.RW_belfry_k63_a_house_at_first
open PySem.W renaming Frag->Q_,keepIn->Z0,fnOf->Z1,findIn->Z2,emptyDict->Z3,instObj->Z4,plainGet->Z5,callWith_K->Z6,codeIn->Z7,lookIn->Z8,hasDictIn->Z9,isFn->Z_,makesIn->X_,typeIn->K_,methodObj->J_,plainGet_of->Y0,plainOver->Y1,takerIn->Y2,methodCall_KW->Y3,cellsFrom_some->Y4,handedIn->Y5,codeRec_of->Y6,KdlSrc->Y7,nsIn->Y8,alongIn->Y9,ownIn->Y_,clsIn->V_,specialIn->U_,instIn->W_
open PyProof.Rows renaming boot_isinstance->G_,callWith_type1->q_,slot_tuple_getitem->z_,boot_sorted->j_
open PySem renaming wpAny_bind->zz,wpAny_pure->zt,sizeLine->zq
open PySem.Heap renaming get?_push_of_some->zy,lt_size->zn,get?_push_size->zk,get?_update_other->zP,size_push->zV,get?_update_self->yr,get?_none_of_le->yh,clsAt_spec->xV
open Bool renaming and_eq_true->zx,false_ne_true->zu,false_eq_true->yz,not_eq_true'->yf,and_eq_true_iff->yI,or_eq_true->yW,not_true->xp,eq_iff_iff->xl,and_true->xH,beq_comm->xI,false_and->xZ,or_false->wu,true_eq_false->wg,and_false->wP,not_false->wR,false_or->wS
open List renaming getElem?_eq_some_iff->zw,getElem?_eq_getElem->zr,size_toArray->zo,length_map->zl,mem_cons->zi,length_cons->zg,length_append->ze,getElem?_set_ne->zd,getElem?_append_right->zc,getElem?_map->zA,not_mem_nil->zB,all_eq_true->zD,mem_append_right->zE,mem_of_getElem?->zF,getElem?_append_left->zG,append_nil->zJ,map_cons->zK,all_cons->zL,replicate->zM,getElem?_set_self->zO,mem_append_left->zQ,mem_cons_self->zR,mem_singleton->zS,getD_eq_getElem?_getD->zT,mem_cons_of_mem->zU,length_take->zW,length_drop->zX,take_length->zY,mem_append->yx,length_set->yw,map_append->yv,length_replicate->yt,lookup_cons->yq,take_add_one->yo,reverse_cons->yn,filterMap_cons->yk,drop_eq_getElem_cons->yi,find?_cons->yd,isEmpty_iff->yc,findIdx?_eq_some_iff_getElem->yb,length_dropLast->yA,getElem_of_mem->yB,drop_length->yC,find?_eq_some_iff_getElem->yD,length_zip->yF,length_range->yG,map_nil->yJ,getElem_mem->yM,mem_map->yN,mem_take_iff_getElem->yP,mem_of_find?_eq_some->yQ,length_pos_iff->yR,any_cons->yS,nodup_cons->yT,length_nil->yU,zip_cons_cons->yX,getElem?_replicate->yZ,mem_range->xz,any_eq_false->xy,drop_zero->xw,take_of_length_le->xv,any_eq_true->xr,getElem_map->xq,map_take->xo,find?_eq_some_iff_append->xn,of_mem_zip->xm,length_reverse->xi,filterMap_map->xf,mapM_cons->xA,find?_eq_none->xB,map_inj_left->xE,getElem?_take_of_lt->xG,idxOf_lt_length_iff->xJ,getElem_inj->xK,getElem?_cons_succ->xL,length_eq_zero_iff->xN,range_succ_eq_map->xQ,all_map->xR,mem_filter->xT,forIn_cons->xU,getElem?_eq_none->xW,mem_iff_getElem?->xX,mem_of_mem_take->wz,take_succ_cons->wy,toList_toArray->ww,mem_map_of_mem->wv,mem_filterMap->wq,getElem?_drop->wm,findIdx?_cons->wl,getElem_range->wk,filter_append->we,take_sublist->wc,append_assoc->wA,zipIdx_cons->wG,range'->wJ,zipIdx_nil->wL,all_append->wO,forIn_nil->wQ,drop_nil->wV,map_drop->wW,all_nil->wZ,map_map->vz
open Option renaming map_eq_some_iff->zv,isNone_iff_eq_none->ya,getD_some->yL,map_some->yV,isSome_map->xC,isSome_iff_exists->xF,bind_eq_some_iff->xO,bind_eq_bind->wx,getD_none->wE,pure_def->wK,map_none->wM
open Nat renaming le_refl->zp,lt_of_lt_of_le->zj,ne_of_lt->zC,le_of_ble_eq_true->zH,ne_of_gt->zI,le_trans->zN,zero_le->zZ,lt_irrefl->yu,le_of_eq->yE,le_succ->yH,sub_self->yK,lt_succ_self->xt,lt_succ_of_lt->xD,succ_le_succ->xP,sub_zero->xS,add_sub_cancel->wo,le_of_lt->wd,min_self->wa,le_succ_of_le->wB,le_of_not_lt->wF,min_eq_right->wH,mod_eq_of_lt->wI,min_eq_left->wN,add_assoc->wT,reduceAdd->wU,add_comm->wY
open Array renaming getElem?_eq_some_iff->ym,getElem?_eq_getElem->yO,getElem?_eq_none->xu,length_toList->xj,toList_inj->xM,getElem?_toList->xY,find?_toList->wp,size_append->wD,toList->wX
open Int renaming eq_ofNat_of_zero_le->ye,emod_lt_of_pos->yY,emod_nonneg->xk,toNat_natCast->wC,mul_one->vv
set_option Elab.async false
set_option linter.all false
set_option maxRecDepth 100000
namespace Law
open PySem PySem.Spec PyProof.Rows
def top(i:Nat):Stmt:=PySem.Challenge.pw_belfry_k63_a_house_at_first.main.body.getD i (.Pass ⟨0,0,0,0⟩)
end Law
section
open PySem PySem.W PyProof.Rows
def Law.Mm:Program:={ PySem.Challenge.pw_belfry_k63_a_house_at_first with main:={ PySem.Challenge.pw_belfry_k63_a_house_at_first.main with body:=[Law.top 0,Law.top 1,Law.top 2,Law.top 3,Law.top 4,Law.top 5,Law.top 6,Law.top 7,Law.top 8,Law.top 9,Law.top 10,Law.top 11,Law.top 12,Law.top 13,Law.top 14,Law.top 15,Law.top 16,Law.top 17,Law.top 18,Law.top 19,Law.top 20,Law.top 21,Law.top 22,Law.top 23,Law.top 24,Law.top 25,Law.top 26,Law.top 27,Law.top 28,Law.top 29,Law.top 30,Law.top 31,Law.top 32,Law.top 33,Law.top 34,Law.top 35,Law.top 36,Law.top 37,Law.top 38,Law.top 39,Law.top 40,Law.top 41,Law.top 42,Law.top 43,Law.top 44,Law.top 45,Law.top 46,Law.top 47,Law.top 48,Law.top 49,Law.top 50,Law.top 51,Law.top 52,Law.top 53,Law.top 54,Law.top 55,Law.top 56,Law.top 57,Law.top 58,Law.top 59,Law.top 60,Law.top 61,Law.top 62,Law.top 63,Law.top 64,Law.top 65,Law.top 66,Law.top 67,Law.top 68,Law.top 69,Law.top 70,Law.top 71,Law.top 72,Law.top 73,Law.top 74,Law.top 75,Law.top 76,Law.top 77,Law.top 78] } }
def Law.tj:OpenLaw:={ PySem.Challenge.rw_belfry_k63_a_house_at_first with prog:=Law.Mm }
theorem Law.rw_eq:Law.tj=PySem.Challenge.rw_belfry_k63_a_house_at_first:=by kernel_rfl
set_option maxRecDepth 100000 in
set_option maxHeartbeats 0 in
theorem Law.Ga:Law.tj.wellSaid=true:=by kernel_rfl
def Law.vw:Program:={ Law.Mm with main:={ Law.Mm.main with body:=[Law.top 0,Law.top 2,Law.top 3,Law.top 4,Law.top 5,Law.top 7,Law.top 8,Law.top 9,Law.top 11,Law.top 12,Law.top 13,Law.top 14,Law.top 15,Law.top 16,Law.top 17,Law.top 18,Law.top 19,Law.top 21,Law.top 22,Law.top 24,Law.top 25,Law.top 27,Law.top 28,Law.top 29,Law.top 30,Law.top 31,Law.top 33,Law.top 34,Law.top 35,Law.top 36,Law.top 37,Law.top 39,Law.top 41,Law.top 42,Law.top 43,Law.top 44,Law.top 45,Law.top 46,Law.top 47,Law.top 48,Law.top 50,Law.top 51,Law.top 52,Law.top 53,Law.top 54,Law.top 55,Law.top 57,Law.top 58,Law.top 59,Law.top 60,Law.top 61,Law.top 62,Law.top 64,Law.top 65,Law.top 66,Law.top 67,Law.top 68,Law.top 69,Law.top 70,Law.top 71,Law.top 72,Law.top 73,Law.top 74,Law.top 75,Law.top 76,Law.top 77,Law.top 78] } }
namespace Law
abbrev PP:Program:=Law.tj.row.prog
noncomputable def goN(tb:String->Option Builtin)(p:Program)(w:World)(n₀:Nat)(ann:Option Value):Nat->Shared->Thread->Option (Shared×Thread)
 |0,s,t=>some (s,t)
 |n+1,s,t=>match through t with
  |true=>none
  |false=>match stepOk n₀ ann t with
   |false=>none
   |true=>match step (denote tb) p w s t with
    |.go s' t'=>goN tb p w n₀ ann n s' t'
    |.halt _ _=>none
noncomputable def fA:Stmt->Arguments
 |.FunctionDef (args:=a) ..=>a
 |_=>default
noncomputable def fB:Stmt->List Stmt
 |.FunctionDef (body:=b) ..=>b
 |_=>[]
noncomputable def fS:Stmt->Scope
 |.FunctionDef (scope:=s) ..=>s
 |_=>default
noncomputable def cB:Stmt->List Stmt
 |.ClassDef (body:=b) ..=>b
 |_=>[]
noncomputable def mem(i k:Nat):Stmt:=(cB (top i)).getD k (.Pass ⟨0,0,0,0⟩)
noncomputable def fd(n q:Str)(st:Stmt)(g:Addr)(c:List (Str×Addr))(d kd doc m:Value)(an:Option Addr)(co ct:Value)(bl:Addr):FuncData:=⟨n,q,fA st,.stmts (fB st),fS st,g,c,d,kd,doc,m,an,co,ct,bl⟩
noncomputable def en(w:World)(x:Str)(t:Nat)(v:Value):DictEntry:=⟨hashStr w x,.str x t,v⟩
noncomputable def tp(vs:List Value):Obj:=⟨.type "tuple",none,.seq ⟨vs⟩ 0,#[]⟩
noncomputable def fo(vs:List Value):Obj:=⟨.none,none,.fields ⟨vs⟩,#[]⟩
noncomputable def sv:List Str->Nat->List Value
 |[],_=>[]
 |x::r,b=>.str x b::sv r (b+1)
noncomputable def cd(n q:Str)(l c a k b b2:Nat)(v1 v2:Value):Obj:=⟨.type "code",none,.fields ⟨[.str n b,.str q (b+1),.str "/claim/cut.py" (b+2),.int l 0,.int c 0,.int 0 0,.int 0 0,.int 3 0,.ref a,.bool true,.int 181 0,.ref (a+1),.none,v1,v2,.ref k,.int b2 0,.int l 0,.str "/claim/cut.py" (b2+1)]⟩,#[]⟩
noncomputable def fn(n q:Str)(st:Stmt)(m:Value)(k:Nat):Obj:=⟨.type "function",none,.func (fd n q st 3 [] .none .none .none m none (.ref k) .none 0),#[]⟩
noncomputable def fr(n q:Str)(st:Stmt):Obj:=⟨.none,none,.func (fd n q st 0 [] .none .none .none .none none .none .none 0),#[]⟩
noncomputable def g7(n p:Str)(st:Stmt)(l c:Nat)(vs:List Str)(m:Value)(a b:Nat):List Obj:=[tp [],fo [],tp (sv vs (b+3)),tp [],fr n (p++n) st,cd n (p++n) l c a (a+4) b (b+3+vs.length) (.ref (a+2)) (.ref (a+3)),fn n (p++n) st m (a+5)]
noncomputable def g5(n p:Str)(st:Stmt)(l c:Nat)(m:Value)(a b:Nat):List Obj:=[tp [],fo [],fr n (p++n) st,cd n (p++n) l c a (a+2) b (b+3) .none .none,fn n (p++n) st m (a+3)]
noncomputable def dc(es:List DictEntry)(n:Nat):Obj:=⟨.type "dict",none,.dict ⟨es⟩ n,#[]⟩
noncomputable def bm(x:String)(v:Value):Obj:=⟨.type "builtin_function_or_method",none,.fields #[.builtin x,v],#[]⟩
noncomputable def gc(w:World)(n:Str)(l:Nat)(m:Value)(a b:Nat):List Obj:=[tp [.ref 76],bm "type.__prepare__" (.type "type"),dc [en w "__module__" (b+7) m,en w "__qualname__" (b+9) (.str n (b+8)),en w "__firstlineno__" (b+11) (.int l (b+10)),en w "__static_attributes__" (b+12) (.ref (a+7))] 4,tp [],fo [],
 ⟨.type "code",none,.fields #[.str n (b+2),.str n (b+3),.str "/claim/cut.py" (b+4),.int l 0,.int 0 0,.int 0 0,.int 0 0,.int 0 0,.ref (a+3),.bool false,.int 181 0,.ref (a+4),.none,.none,.none,.none,.int (b+5:Nat) 0,.int l 0,.str "/claim/cut.py" (b+6)],#[]⟩,
 ⟨.type "frame",none,.plain,#[some (.ref (a+5)),some (.ref 3),some (.ref (a+2)),none,some m,none,some (.ref 0)]⟩,tp [],dc [en w "__module__" (b+7) m,en w "__firstlineno__" (b+11) (.int l (b+10)),en w "__static_attributes__" (b+12) (.ref (a+7)),en w "__doc__" (b+13) .none] 2,
 ⟨.type "type",none,.cls ⟨n,[.ref 76],[.ref (a+9),.ref 76,.type "ValueError",.type "Exception",.type "BaseException",.type "object"],a+8,n,true,[],[],false,none,false⟩,#[some (.ref a),none,some (.str n b),some (.str n (b+8)),some (.builtin "ValueError.__new__"),some (.bool true)]⟩,
 ⟨.type "super",none,.fields #[.ref (a+9),.ref (a+9),.ref (a+9)],#[]⟩,bm "object.__init_subclass__" (.ref (a+9))]
noncomputable def m0:Value:=.str "__main__" 164
noncomputable def m1:Value:=.str "belfry.rotas" 194
noncomputable def m2:Value:=.str "belfry.calls" 235
noncomputable def m3:Value:=.str "belfry.errors" 267
noncomputable def m4:Value:=.str "belfry.marks" 444
noncomputable def m5:Value:=.str "belfry.askings" 461
noncomputable def m6:Value:=.str "belfry.quieting" 480
noncomputable def m7:Value:=.str "belfry.trees" 519
noncomputable def m8:Value:=.str "belfry.members" 563
noncomputable def m9:Value:=.str "belfry.closing" 571
noncomputable def An:Value:=.str "belfry.reckoning" 640
noncomputable def dg:Value:=.str "belfry.house" 694
noncomputable def L1(w:World):List Obj:=g7 "_wall" "" (top 0) 1 1 ["k"] m0 15 187 ++
(g7 "turn_of" "" (top 2) 5 2 ["rota","turn","hands"] m1 22 196 ++
(g7 "swapped" "" (top 3) 8 3 ["hand","swaps","turn","found","swap"] m1 29 205 ++
(g5 "is_away" "" (top 4) 14 3 m1 36 216 ++
(g7 "hand_on" "" (top 5) 16 4 ["rota","swaps","absences","turn","hands","at","hand"] m1 41 222 ++
(g7 "rota_named" "" (top 7) 24 2 ["rotas","name","pair"] m2 48 237 ++
(g5 "hand_by" "" (top 8) 29 5 m2 55 246 ++
(g7 "hand_of" "" (top 9) 32 7 ["row","step","turn","rotas","swaps","absences","top","chain","hand"] m2 60 252 ++
([tp [.type "ValueError"],
bm "type.__prepare__" (.type "type"),
dc [en w "__module__" 276 m3,en w "__qualname__" 278 (.str "HouseError" 277),en w "__firstlineno__" 280 (.int (39) 279),en w "__static_attributes__" 281 (.ref 74)] 4,
tp [],
fo [],
⟨.type "code",none,(.fields #[.str "HouseError" 271,.str "HouseError" 272,.str "/claim/cut.py" 273,.int 39 0,.int 0 0,.int 0 0,.int 0 0,.int 0 0,.ref 70,.bool false,.int 181 0,.ref 71,.none,.none,.none,.none,.int 274 0,.int 39 0,.str "/claim/cut.py" 275]),#[]⟩,
⟨.type "frame",none,.plain,#[(some (.ref 72)),(some (.ref 3)),(some (.ref 69)),none,(some m3),none,(some (.ref 0))]⟩,
tp [],
dc [en w "__module__" 276 m3,en w "__firstlineno__" 280 (.int (39) 279),en w "__static_attributes__" 281 (.ref 74),en w "__weakref__" 283 (.ref 77),en w "__doc__" 284 .none] 3,
⟨.type "type",none,(.cls ⟨"HouseError",[.type "ValueError"],[.ref 76,.type "ValueError",.type "Exception",.type "BaseException",.type "object"],75,"HouseError",true,[],[.ref 96,.ref 108,.ref 120,.ref 132,.ref 144,.ref 156,.ref 175,.ref 194],false,none,false⟩),#[(some (.ref 67)),none,(some (.str "HouseError" 269)),(some (.str "HouseError" 277)),(some (.builtin "ValueError.__new__")),(some (.bool true))]⟩,
⟨.type "getset_descriptor",none,(.fields #[.str "__weakref__" 282,.ref 76,.builtin "ExceptionGroup.__weakref__",.none]),#[]⟩,
⟨.type "super",none,(.fields #[.ref 76,.ref 76,.ref 76]),#[]⟩,
bm "object.__init_subclass__" (.ref 76),
tp [.ref 76],
bm "type.__prepare__" (.type "type"),
dc [en w "__module__" 294 m3,en w "__qualname__" 296 (.str "BadWord" 295),en w "__firstlineno__" 298 (.int (41) 297),en w "__init__" 306 (.ref 93),en w "__static_attributes__" 308 (.ref 94)] 5,
tp [],
fo [.int 43 0,.int 4 0,.ref 92],
⟨.type "code",none,(.fields #[.str "BadWord" 289,.str "BadWord" 290,.str "/claim/cut.py" 291,.int 41 0,.int 0 0,.int 0 0,.int 0 0,.int 0 0,.ref 83,.bool false,.int 181 0,.ref 84,.none,.none,.none,.none,.int 292 0,.int 41 0,.str "/claim/cut.py" 293]),#[]⟩,
⟨.type "frame",none,.plain,#[(some (.ref 85)),(some (.ref 3)),(some (.ref 82)),none,(some m3),none,(some (.ref 0))]⟩] ++
(g7 "__init__" "BadWord." (mem 12 0) 43 2 ["self","at"] m3 87 299 ++
([tp [.str "at" 307],
dc [en w "__module__" 294 m3,en w "__firstlineno__" 298 (.int (41) 297),en w "__init__" 306 (.ref 93),en w "__static_attributes__" 308 (.ref 94),en w "__doc__" 309 .none] 2,
⟨.type "type",none,(.cls ⟨"BadWord",[.ref 76],[.ref 96,.ref 76,.type "ValueError",.type "Exception",.type "BaseException",.type "object"],95,"BadWord",true,[],[],false,none,false⟩),#[(some (.ref 80)),none,(some (.str "BadWord" 287)),(some (.str "BadWord" 295)),(some (.builtin "ValueError.__new__")),(some (.bool true))]⟩,
⟨.type "super",none,(.fields #[.ref 96,.ref 96,.ref 96]),#[]⟩,
bm "object.__init_subclass__" (.ref 96)] ++
(gc w "NoPlace" 45 m3 99 312 ++
(gc w "Late" 47 m3 111 328 ++
(gc w "Twice" 49 m3 123 344 ++
(gc w "Unknown" 51 m3 135 360 ++
(gc w "NoStretch" 53 m3 147 376 ++
([tp [.ref 76],
bm "type.__prepare__" (.type "type"),
dc [en w "__module__" 399 m3,en w "__qualname__" 401 (.str "BadLine" 400),en w "__firstlineno__" 403 (.int (55) 402),en w "__init__" 411 (.ref 172),en w "__static_attributes__" 413 (.ref 173)] 5,
tp [],
fo [.int 57 0,.int 4 0,.ref 171],
⟨.type "code",none,(.fields #[.str "BadLine" 394,.str "BadLine" 395,.str "/claim/cut.py" 396,.int 55 0,.int 0 0,.int 0 0,.int 0 0,.int 0 0,.ref 162,.bool false,.int 181 0,.ref 163,.none,.none,.none,.none,.int 397 0,.int 55 0,.str "/claim/cut.py" 398]),#[]⟩,
⟨.type "frame",none,.plain,#[(some (.ref 164)),(some (.ref 3)),(some (.ref 161)),none,(some m3),none,(some (.ref 0))]⟩] ++
(g7 "__init__" "BadLine." (mem 18 0) 57 2 ["self","at"] m3 166 404 ++
([tp [.str "at" 412],
dc [en w "__module__" 399 m3,en w "__firstlineno__" 403 (.int (55) 402),en w "__init__" 411 (.ref 172),en w "__static_attributes__" 413 (.ref 173),en w "__doc__" 414 .none] 2,
⟨.type "type",none,(.cls ⟨"BadLine",[.ref 76],[.ref 175,.ref 76,.type "ValueError",.type "Exception",.type "BaseException",.type "object"],174,"BadLine",true,[],[],false,none,false⟩),#[(some (.ref 159)),none,(some (.str "BadLine" 392)),(some (.str "BadLine" 400)),(some (.builtin "ValueError.__new__")),(some (.bool true))]⟩,
⟨.type "super",none,(.fields #[.ref 175,.ref 175,.ref 175]),#[]⟩,
bm "object.__init_subclass__" (.ref 175),
tp [.ref 76],
bm "type.__prepare__" (.type "type"),
dc [en w "__module__" 424 m3,en w "__qualname__" 426 (.str "BadTree" 425),en w "__firstlineno__" 428 (.int (59) 427),en w "__init__" 437 (.ref 191),en w "__static_attributes__" 440 (.ref 192)] 5,
tp [],
fo [.int 61 0,.int 4 0,.ref 190],
⟨.type "code",none,(.fields #[.str "BadTree" 419,.str "BadTree" 420,.str "/claim/cut.py" 421,.int 59 0,.int 0 0,.int 0 0,.int 0 0,.int 0 0,.ref 181,.bool false,.int 181 0,.ref 182,.none,.none,.none,.none,.int 422 0,.int 59 0,.str "/claim/cut.py" 423]),#[]⟩,
⟨.type "frame",none,.plain,#[(some (.ref 183)),(some (.ref 3)),(some (.ref 180)),none,(some m3),none,(some (.ref 0))]⟩] ++
(g7 "__init__" "BadTree." (mem 19 0) 61 3 ["self","row","at"] m3 185 429 ++
([tp [.str "at" 438,.str "row" 439],
dc [en w "__module__" 424 m3,en w "__firstlineno__" 428 (.int (59) 427),en w "__init__" 437 (.ref 191),en w "__static_attributes__" 440 (.ref 192),en w "__doc__" 441 .none] 2,
⟨.type "type",none,(.cls ⟨"BadTree",[.ref 76],[.ref 194,.ref 76,.type "ValueError",.type "Exception",.type "BaseException",.type "object"],193,"BadTree",true,[],[],false,none,false⟩),#[(some (.ref 178)),none,(some (.str "BadTree" 417)),(some (.str "BadTree" 425)),(some (.builtin "ValueError.__new__")),(some (.bool true))]⟩,
⟨.type "super",none,(.fields #[.ref 194,.ref 194,.ref 194]),#[]⟩,
bm "object.__init_subclass__" (.ref 194)] ++
(g5 "has_name" "" (top 21) 65 2 m4 197 446 ++
(g7 "value_in" "" (top 22) 67 2 ["marks","name","pair"] m4 202 452 ++
(g7 "meets" "" (top 24) 73 2 ["asking","marks","word","name","values"] m5 209 463 ++
(g5 "meets_all" "" (top 25) 84 2 m5 216 474 ++
(g7 "stands" "" (top 27) 87 2 ["saying","turn"] m6 221 482 ++
(g7 "in_force" "" (top 28) 89 2 ["quieting","turn"] m6 228 490 ++
(g5 "have_same_values" "" (top 29) 91 3 m6 235 498 ++
(g7 "is_greater" "" (top 30) 93 3 ["other","saying","rule"] m6 240 504 ++
(g5 "ground" "" (top 31) 95 5 m6 247 513 ++
(g7 "row_at" "" (top 33) 108 2 ["tree","place","row","k"] m7 252 521 ++
(g7 "taken_from" "" (top 34) 115 3 ["row","place","marks","found","k","below"] m7 259 531 ++
(g7 "taken" "" (top 35) 123 2 ["tree","marks"] m7 266 543 ++
(g5 "key_of" "" (top 36) 125 2 m7 273 551 ++
(g5 "groups_of" "" (top 37) 127 2 m7 278 557 ++
(g5 "members" "" (top 39) 130 5 m8 283 565 ++
(g5 "all_named" "" (top 41) 140 2 m9 288 573 ++
(g5 "begun" "" (top 42) 142 4 m9 293 579 ++
(g7 "behind_answer" "" (top 43) 146 2 ["state","numbers","due"] m9 298 585 ++
(g7 "behind_new_members" "" (top 44) 151 4 ["state","numbers","row","turn"] m9 305 594 ++
(g7 "is_due" "" (top 45) 155 2 ["state","turn"] m9 312 604 ++
(g7 "behind_call" "" (top 46) 157 4 ["state","numbers","row","turn"] m9 319 612 ++
(g7 "ahead_of_call" "" (top 47) 161 5 ["state","group","row","was_answered","turn","found"] m9 326 622 ++
(g5 "closed" "" (top 48) 166 5 m9 333 634 ++
(g5 "edges_within" "" (top 50) 181 3 An 338 642 ++
(g5 "next_turn" "" (top 51) 188 4 An 343 648 ++
(g7 "due_closed" "" (top 52) 192 4 ["tree","states","there","turn","following","calls","k","state","told"] An 348 654 ++
(g5 "all_closed" "" (top 53) 201 5 An 355 669 ++
(g7 "entry_of" "" (top 54) 204 6 ["call","turn","tree","rotas","records","top","hand"] An 360 675 ++
(g5 "reckoned" "" (top 55) 207 8 An 367 688 ++
(g7 "refuse_late" "" (top 57) 224 2 ["turn","now"] dg 372 696 ++
(g7 "refuse_stretch" "" (top 58) 227 3 ["turn","first","last"] dg 379 704 ++
(g7 "numbered" "" (top 59) 232 2 ["noted","number"] dg 386 713 ++
(g7 "standing_saying" "" (top 60) 234 3 ["sayings","number","turn","saying"] dg 393 721 ++
(g5 "was_called" "" (top 61) 239 2 dg 400 731))))))))))))))))))))))))))))))))))))))))))))))))))))))
noncomputable def L2(w:World):List Obj:=[tp [],
bm "type.__prepare__" (.type "type"),
dc [en w "__module__" 744 dg,en w "__qualname__" 746 (.str "House" 745),en w "__firstlineno__" 748 (.int (241) 747),en w "__init__" 759 (.ref 418),en w "come" 769 (.ref 425),en w "go" 778 (.ref 432),en w "quiet" 789 (.ref 439),en w "lift" 798 (.ref 446),en w "swap" 812 (.ref 453),en w "away" 823 (.ref 460),en w "answer" 834 (.ref 467),en w "until" 842 (.ref 474),en w "now" 849 (.ref 481),en w "records" 856 (.ref 488),en w "log" 862 (.ref 493),en w "open_groups" 869 (.ref 500),en w "states" 875 (.ref 505),en w "ground_of" 884 (.ref 512),en w "on_duty" 893 (.ref 519),en w "known_rota" 902 (.ref 526),en w "reckoned_to" 911 (.ref 533),en w "go_on" 920 (.ref 540),en w "__static_attributes__" 933 (.ref 541)] 23,
tp [],
fo [.int 243 0,.int 4 0,.ref 417,.int 257 0,.int 4 0,.ref 424,.int 260 0,.int 4 0,.ref 431,.int 263 0,.int 4 0,.ref 438,.int 266 0,.int 4 0,.ref 445,.int 269 0,.int 4 0,.ref 452,.int 280 0,.int 4 0,.ref 459,.int 283 0,.int 4 0,.ref 466,.int 291 0,.int 4 0,.ref 473,.int 295 0,.int 4 0,.ref 480,.int 298 0,.int 4 0,.ref 487,.int 301 0,.int 4 0,.ref 492,.int 304 0,.int 4 0,.ref 499,.int 307 0,.int 4 0,.ref 504,.int 310 0,.int 4 0,.ref 511,.int 314 0,.int 4 0,.ref 518,.int 318 0,.int 4 0,.ref 525,.int 324 0,.int 4 0,.ref 532,.int 328 0,.int 4 0,.ref 539],
⟨.type "code",none,(.fields #[.str "House" 739,.str "House" 740,.str "/claim/cut.py" 741,.int 241 0,.int 0 0,.int 0 0,.int 0 0,.int 0 0,.ref 408,.bool false,.int 181 0,.ref 409,.none,.none,.none,.none,.int 742 0,.int 241 0,.str "/claim/cut.py" 743]),#[]⟩,
⟨.type "frame",none,.plain,#[(some (.ref 410)),(some (.ref 3)),(some (.ref 407)),none,(some dg),none,(some (.ref 0))]⟩] ++
(g7 "__init__" "House." (mem 62 0) 243 5 ["self","tree","rotas","rules","top"] dg 412 749 ++
(g7 "come" "House." (mem 62 1) 257 4 ["self","turn","marks","weight"] dg 419 760 ++
(g7 "go" "House." (mem 62 2) 260 3 ["self","turn","number"] dg 426 770 ++
(g7 "quiet" "House." (mem 62 3) 263 5 ["self","turn","askings","first","last"] dg 433 779 ++
(g7 "lift" "House." (mem 62 4) 266 3 ["self","turn","number"] dg 440 790 ++
(g7 "swap" "House." (mem 62 5) 269 7 ["self","turn","rota","one","other","first","last","found"] dg 447 799 ++
(g7 "away" "House." (mem 62 6) 280 5 ["self","turn","hand","first","last"] dg 454 813 ++
(g7 "answer" "House." (mem 62 7) 283 4 ["self","turn","place","key","found"] dg 461 824 ++
(g7 "until" "House." (mem 62 8) 291 2 ["self","turn"] dg 468 835 ++
(g7 "now" "House." (mem 62 9) 295 1 ["self"] dg 475 843 ++
(g7 "records" "House." (mem 62 10) 298 1 ["self"] dg 482 850 ++
(g5 "log" "House." (mem 62 11) 301 1 dg 489 857 ++
(g7 "open_groups" "House." (mem 62 12) 304 1 ["self"] dg 494 863 ++
(g5 "states" "House." (mem 62 13) 307 1 dg 501 870 ++
(g7 "ground_of" "House." (mem 62 14) 310 2 ["self","number","saying"] dg 506 876 ++
(g7 "on_duty" "House." (mem 62 15) 314 3 ["self","rota","turn"] dg 513 885 ++
(g7 "known_rota" "House." (mem 62 16) 318 2 ["self","name","found"] dg 520 894 ++
(g7 "reckoned_to" "House." (mem 62 17) 324 2 ["self","turn","records"] dg 527 903 ++
(g7 "go_on" "House." (mem 62 18) 328 3 ["self","turn","found"] dg 534 912 ++
([tp [.str "absences" 921,.str "answers" 922,.str "entries" 923,.str "last_states" 924,.str "quietings" 925,.str "rotas" 926,.str "rules" 927,.str "sayings" 928,.str "swaps" 929,.str "top" 930,.str "tree" 931,.str "turn" 932],
dc [en w "__module__" 744 dg,en w "__firstlineno__" 748 (.int (241) 747),en w "__init__" 759 (.ref 418),en w "come" 769 (.ref 425),en w "go" 778 (.ref 432),en w "quiet" 789 (.ref 439),en w "lift" 798 (.ref 446),en w "swap" 812 (.ref 453),en w "away" 823 (.ref 460),en w "answer" 834 (.ref 467),en w "until" 842 (.ref 474),en w "now" 849 (.ref 481),en w "records" 856 (.ref 488),en w "log" 862 (.ref 493),en w "open_groups" 869 (.ref 500),en w "states" 875 (.ref 505),en w "ground_of" 884 (.ref 512),en w "on_duty" 893 (.ref 519),en w "known_rota" 902 (.ref 526),en w "reckoned_to" 911 (.ref 533),en w "go_on" 920 (.ref 540),en w "__static_attributes__" 933 (.ref 541),en w "__dict__" 935 (.ref 544),en w "__weakref__" 937 (.ref 545),en w "__doc__" 938 .none] 4,
⟨.type "type",none,(.cls ⟨"House",[.type "object"],[.ref 543,.type "object"],542,"House",true,[],[],false,none,false⟩),#[none,none,(some (.str "House" 737)),(some (.str "House" 745)),(some (.builtin "object.__new__")),(some (.bool true))]⟩,
⟨.type "getset_descriptor",none,(.fields #[.str "__dict__" 934,.ref 543,.builtin "function.__dict__",.builtin "function.__dict__#set"]),#[]⟩,
⟨.type "getset_descriptor",none,(.fields #[.str "__weakref__" 936,.ref 543,.builtin "ExceptionGroup.__weakref__",.none]),#[]⟩,
⟨.type "super",none,(.fields #[.ref 543,.ref 543,.ref 543]),#[]⟩,
bm "object.__init_subclass__" (.ref 543)]))))))))))))))))))))
noncomputable def E1(w:World):List DictEntry:=[en w "__doc__" 166 .none,en w "__package__" 167 .none,en w "__loader__" 168 (.builtin "__main__.__loader__#opaque"),en w "__spec__" 169 .none,en w "__annotations__" 170 (.ref 6),en w "__builtins__" 171 (.ref 4),en w "__file__" 173 (.str "/claim/cut.py" 172),en w "__cached__" 174 .none,en w "_wall" 193 (.ref 21),en w "turn_of" 204 (.ref 28),en w "swapped" 215 (.ref 35),en w "is_away" 221 (.ref 40),en w "hand_on" 234 (.ref 47),en w "rota_named" 245 (.ref 54),en w "hand_by" 251 (.ref 59),en w "hand_of" 266 (.ref 66),en w "HouseError" 286 (.ref 76),en w "BadWord" 311 (.ref 96),en w "NoPlace" 327 (.ref 108),en w "Late" 343 (.ref 120),en w "Twice" 359 (.ref 132),en w "Unknown" 375 (.ref 144),en w "NoStretch" 391 (.ref 156),en w "BadLine" 416 (.ref 175),en w "BadTree" 443 (.ref 194),en w "has_name" 451 (.ref 201),en w "value_in" 460 (.ref 208),en w "meets" 473 (.ref 215),en w "meets_all" 479 (.ref 220),en w "stands" 489 (.ref 227),en w "in_force" 497 (.ref 234),en w "have_same_values" 503 (.ref 239),en w "is_greater" 512 (.ref 246),en w "ground" 518 (.ref 251),en w "row_at" 530 (.ref 258),en w "taken_from" 542 (.ref 265),en w "taken" 550 (.ref 272),en w "key_of" 556 (.ref 277),en w "groups_of" 562 (.ref 282),en w "members" 570 (.ref 287),en w "all_named" 578 (.ref 292),en w "begun" 584 (.ref 297),en w "behind_answer" 593 (.ref 304),en w "behind_new_members" 603 (.ref 311),en w "is_due" 611 (.ref 318),en w "behind_call" 621 (.ref 325),en w "ahead_of_call" 633 (.ref 332),en w "closed" 639 (.ref 337),en w "edges_within" 647 (.ref 342),en w "next_turn" 653 (.ref 347),en w "due_closed" 668 (.ref 354),en w "all_closed" 674 (.ref 359),en w "entry_of" 687 (.ref 366),en w "reckoned" 693 (.ref 371),en w "refuse_late" 703 (.ref 378),en w "refuse_stretch" 712 (.ref 385),en w "numbered" 720 (.ref 392),en w "standing_saying" 730 (.ref 399),en w "was_called" 736 (.ref 404)]
noncomputable def F1:List Value:=[.int 1 0,.int 0 0,.ref 20,.int 5 0,.int 0 0,.ref 27,.int 8 0,.int 0 0,.ref 34,.int 14 0,.int 0 0,.ref 39,.int 16 0,.int 0 0,.ref 46,.int 24 0,.int 0 0,.ref 53,.int 29 0,.int 0 0,.ref 58,.int 32 0,.int 0 0,.ref 65,.int 39 0,.int 0 0,.ref 72,.int 41 0,.int 0 0,.ref 85,.int 45 0,.int 0 0,.ref 104,.int 47 0,.int 0 0,.ref 116,.int 49 0,.int 0 0,.ref 128,.int 51 0,.int 0 0,.ref 140,.int 53 0,.int 0 0,.ref 152,.int 55 0,.int 0 0,.ref 164,.int 59 0,.int 0 0,.ref 183,.int 65 0,.int 0 0,.ref 200,.int 67 0,.int 0 0,.ref 207,.int 73 0,.int 0 0,.ref 214,.int 84 0,.int 0 0,.ref 219,.int 87 0,.int 0 0,.ref 226,.int 89 0,.int 0 0,.ref 233,.int 91 0,.int 0 0,.ref 238,.int 93 0,.int 0 0,.ref 245,.int 95 0,.int 0 0,.ref 250,.int 108 0,.int 0 0,.ref 257,.int 115 0,.int 0 0,.ref 264,.int 123 0,.int 0 0,.ref 271,.int 125 0,.int 0 0,.ref 276,.int 127 0,.int 0 0,.ref 281,.int 130 0,.int 0 0,.ref 286,.int 140 0,.int 0 0,.ref 291,.int 142 0,.int 0 0,.ref 296,.int 146 0,.int 0 0,.ref 303,.int 151 0,.int 0 0,.ref 310,.int 155 0,.int 0 0,.ref 317,.int 157 0,.int 0 0,.ref 324,.int 161 0,.int 0 0,.ref 331,.int 166 0,.int 0 0,.ref 336,.int 181 0,.int 0 0,.ref 341,.int 188 0,.int 0 0,.ref 346,.int 192 0,.int 0 0,.ref 353,.int 201 0,.int 0 0,.ref 358,.int 204 0,.int 0 0,.ref 365,.int 207 0,.int 0 0,.ref 370,.int 224 0,.int 0 0,.ref 377,.int 227 0,.int 0 0,.ref 384,.int 232 0,.int 0 0,.ref 391,.int 234 0,.int 0 0,.ref 398,.int 239 0,.int 0 0,.ref 403]
noncomputable def lo(w:World)(s₀:Shared)(a b:Obj):List Obj:=[s₀.heap.objs.getD 0 default,
s₀.heap.objs.getD 1 default,
s₀.heap.objs.getD 2 default,
a,
s₀.heap.objs.getD 4 default,
s₀.heap.objs.getD 5 default,
s₀.heap.objs.getD 6 default,
s₀.heap.objs.getD 7 default,
s₀.heap.objs.getD 8 default,
s₀.heap.objs.getD 9 default,
s₀.heap.objs.getD 10 default,
tp [],
b,
⟨.type "code",none,(.fields #[.str "<module>" 182,.str "<module>" 183,.str "/claim/cut.py" 184,.int 1 0,.int 0 0,.int 0 0,.int 0 0,.int 0 0,.ref 11,.bool false,.int 181 0,.ref 12,.none,.none,.none,.none,.int 185 0,.int 1 0,.str "/claim/cut.py" 186]),#[]⟩,
⟨.type "frame",none,.plain,#[(some (.ref 13)),(some (.ref 3)),(some (.ref 3)),none,(some m0),none,(some (.ref 0))]⟩]
noncomputable def SS(s₀:Shared)(n:Nat)(l:List Obj):Shared:={ s₀ with toks:=n,heap:={ s₀.heap with objs:=⟨l⟩ } }
noncomputable def S(w:World)(s₀:Shared):Shared:=SS s₀ 737 (lo w s₀ (dc (en w "__name__" 165 dg::E1 w) 60) (fo F1)++L1 w)
noncomputable def S2(w:World)(s₀:Shared):Shared:=SS s₀ 941 (lo w s₀ (dc (en w "__name__" 165 dg::(E1 w++[en w "House" 940 (.ref 543)])) 61) (fo (F1++[.int 241 0,.int 0 0,.ref 410]))++(L1 w++L2 w))
noncomputable def ev:Env:={ scope:=PP.main.scope,locals:=mainNs,globals:=mainNs,cells:=[],code:=.ref 13,frame:=some 14 }
noncomputable def tl(rest:List Stmt):Sem Fin:=do return .done (<- (execs rest ev).onRaise (leaving ev))
noncomputable def TT(i:Nat)(q:Pos)(w:World)(s₀:Shared):Thread:=⟨tl (PP.main.body.drop i),.body (behindTheImports PP) ev,q,match goN treeTable PP w s₀.heap.objs.size (s₀.heap.nsMap mainGlobals "__annotations__") 12 s₀ (topStub PP) with
 |some x=>x.2.stack
 |none=>[]⟩
noncomputable abbrev T:=TT 62 ⟨239,0,240,81⟩
noncomputable abbrev T2:=TT 63 ⟨241,0,331,24⟩
noncomputable abbrev gg(w:World) (s₀:Shared):=goN treeTable PP w s₀.heap.objs.size (s₀.heap.nsMap mainGlobals "__annotations__")
set_option maxRecDepth 100000 in
set_option maxHeartbeats 0 in
theorem Mz(w:World):(fencedOpening treeTable PP w 20000).map (fun s₀=>gg w s₀ 3342 s₀ (topStub PP))=(fencedOpening treeTable PP w 20000).map (fun s₀=>some (S w s₀,T w s₀)):=by kernel_rfl
set_option maxRecDepth 100000 in
set_option maxHeartbeats 0 in
theorem My(w:World):(fencedOpening treeTable PP w 20000).map (fun s₀=>gg w s₀ 825 (S w s₀) (T w s₀))=(fencedOpening treeTable PP w 20000).map (fun s₀=>some (S2 w s₀,T2 w s₀)):=by kernel_rfl
noncomputable abbrev pY(w:World) (s₀:Shared):Option Shared:=topRun treeTable PP w s₀.heap.objs.size (s₀.heap.nsMap mainGlobals "__annotations__") 15833 (S2 w s₀) (T2 w s₀)
noncomputable abbrev XT:Shared->Bool:=fun s=>xlAt Law.vw [] s&&recOk (RowW.records (OpenRow.toRowW Law.tj.row)) s
noncomputable abbrev sn(s:Shared):=openSeen Law.vw [] (importedModules PP.main.body) XT true s
set_option maxRecDepth 100000 in
set_option maxHeartbeats 0 in
theorem Va(w:World):(fencedOpening treeTable PP w 20000).map (fun s₀=>(pY w s₀).map fun s₁=>(s₀.heap.isNs mainGlobals&&s₀.gens.size==0&&(staticsOk (importedModules PP.main.body) s₀.heap s₁.heap&&namesBound PP s₁.heap&&gensDone s₁&&laidKept s₀.heap s₁.heap)))=some (some true):=by kernel_rfl
set_option maxRecDepth 100000 in
set_option maxHeartbeats 0 in
theorem RQ(w:World):(fencedOpening treeTable PP w 20000).map (fun s₀=>(pY w s₀).map fun s₁=>((sn s₁).1,(sn s₁).2.1))=some (some ((openGood Law.vw []).1,(openGood Law.vw []).2.1)):=by kernel_rfl
set_option maxRecDepth 100000 in
set_option maxHeartbeats 0 in
theorem RO(w:World):(fencedOpening treeTable PP w 20000).map (fun s₀=>(pY w s₀).map fun s₁=>(sn s₁).2.2.1)=some (some (openGood Law.vw []).2.2.1):=by kernel_rfl
set_option maxRecDepth 100000 in
set_option maxHeartbeats 0 in
theorem RN(w:World):(fencedOpening treeTable PP w 20000).map (fun s₀=>(pY w s₀).map fun s₁=>(sn s₁).2.2.2)=some (some (openGood Law.vw []).2.2.2):=by kernel_rfl
end Law
end
namespace L2
open PySem PySem.Spec PyProof.Rows
abbrev Key:=Sum Int Str
def mI:Key->Value->Bool
 |.inl k,v=>Value.isInt k v
 |.inr x,v=>Value.isStrOf x v
def R8(w:World):Key->Int
 |.inl k=>hashInt k
 |.inr x=>hashStr w x
theorem cv:∀{k:Key} {v:Value},mI k v=true->(∃i t,k=Sum.inl i/\v=Value.int i t)\/(∃x t,k=Sum.inr x/\v=Value.str x t)
 |.inl i,v,h=>by
  obtain⟨t,e⟩:=Value.isInt_shape (k:=i) (v:=v) h;exact .inl ⟨i,t,rfl,e⟩
 |.inr x,v,h=>by
  obtain⟨t,e⟩:=Value.isStrOf_shape (x:=x) (v:=v) h;exact .inr ⟨x,t,rfl,e⟩
theorem Eu(i:Int)(t:Tok):mI (.inl i) (.int i t)=true:=by simp[mI,Value.isInt]
theorem Et(x:Str)(t:Tok):mI (.inr x) (.str x t)=true:=by simp[mI,Value.isStrOf]
theorem Nj(a b:Int):decide ((Sum.inl a:Key)=Sum.inl b)=(a==b):=by
 by_cases e:a=b
 ·subst e;simp
 ·have h:¬ (Sum.inl a:Key)=Sum.inl b:=fun q=>e (Sum.inl.inj q)
  rw[decide_eq_false h];exact(beq_eq_false_iff_ne.mpr e).symm
theorem Ng(a b:Str):decide ((Sum.inr a:Key)=Sum.inr b)=decide (a=b):=by
 by_cases e:a=b
 ·subst e;simp
 ·have h:¬ (Sum.inr a:Key)=Sum.inr b:=fun q=>e (Sum.inr.inj q)
  rw[decide_eq_false h,decide_eq_false e]
theorem Ni(a:Int)(b:Str):decide ((Sum.inl a:Key)=Sum.inr b)=false:=decide_eq_false (fun q=>nomatch q)
theorem Nh(a:Str)(b:Int):decide ((Sum.inr a:Key)=Sum.inl b)=false:=decide_eq_false (fun q=>nomatch q)
def bS(prog:Program)(w:World):PySem.KeyKind prog w Key where
 is:=mI
 hash:=R8 w
 inj:=fun v a b ha hb=>by
  rcases cv ha with ⟨i,t,rfl,rfl⟩|⟨x,t,rfl,rfl⟩
  ·rcases cv hb with ⟨j,u,rfl,e⟩|⟨y,u,rfl,e⟩
   ·injection e with e1 _;rw[e1]
   ·exact nomatch e
  ·rcases cv hb with ⟨j,u,rfl,e⟩|⟨y,u,rfl,e⟩
   ·exact nomatch e
   ·injection e with e1 _;rw[e1]
 byValue:=fun k v h=>by
  rcases cv h with ⟨i,t,rfl,rfl⟩|⟨x,t,rfl,rfl⟩ <;> rfl
 pyHash:=fun hv h=>by
  rcases cv hv with ⟨i,t,rfl,rfl⟩|⟨x,t,rfl,rfl⟩
  ·exact wpAny_pyHash_int h
  ·exact wpAny_pyHash_str h
 eqBool:=fun hu hv h=>by
  rcases cv hu with ⟨i,t,rfl,rfl⟩|⟨x,t,rfl,rfl⟩
  ·rcases cv hv with ⟨j,u,rfl,rfl⟩|⟨y,u,rfl,rfl⟩
   ·rw[Nj]at h;exact wpAny_eqBool_int h
   ·rw[Ni]at h;exact SeqAt.EqAt.int_str i t y u _ _ _ _ h
  ·rcases cv hv with ⟨j,u,rfl,rfl⟩|⟨y,u,rfl,rfl⟩
   ·rw[Nh]at h;exact SeqAt.EqAt.str_int x t j u _ _ _ _ h
   ·rw[Ng]at h;exact wpAny_eqBool_str h
 «strs»:=fun k x t v h=>by
  rcases cv h with ⟨i,u,rfl,e⟩|⟨y,u,rfl,e⟩
  ·exact nomatch e
  ·injection e with e1 _
   subst e1;cases v <;> rfl
theorem vI(prog:Program)(w:World)(i:Int)(t:Tok):(bS prog w).is (.inl i) (.int i t)=true:=Eu i t
theorem vH(prog:Program)(w:World)(x:Str)(t:Tok):(bS prog w).is (.inr x) (.str x t)=true:=Et x t
end L2
namespace L2
open PySem PySem.Spec PyProof.Rows
inductive V where
 |non|bl (b:Bool)|int (i:Int)|str (x:Str)|byt (b:Array UInt8)|flt (b:UInt64)|ref (a:Addr)|ty (n:String)
 deriving DecidableEq
def RelV:V->Value->Prop
 |.non,u=>u=Value.none
 |.bl b,u=>u=Value.bool b
 |.int i,u=>∃t,u=Value.int i t
 |.str x,u=>∃t,u=Value.str x t
 |.byt b,u=>∃t,u=Value.bytes b t
 |.flt b,u=>∃t,u=Value.float b t
 |.ref a,u=>u=Value.ref a
 |.ty n,u=>u=Value.type n
abbrev Vals:List V->List Value->Prop:=Paired RelV
theorem Vals.length{xs:List V}{us:List Value}(r:Vals xs us):xs.length=us.length:=Paired.length r
theorem Vals.get:∀{xs:List V} {us:List Value} {i:Nat} {x:V},Vals xs us->xs[i]?=some x->∃u,us[i]?=some u/\RelV x u
 |_,_,_,_,.nil,e=>by simp at e
 |_,_,0,_,.cons r _,e=>by simp at e;subst e;exact⟨_,rfl,r⟩
 |_,_,i+1,x,.cons _ t,e=>by
  obtain⟨u,h1,h2⟩:=Vals.get (i:=i) (x:=x) t (by simpa using e);exact⟨u,by simpa using h1,h2⟩
theorem Vals.set{x:V}{u:Value}(r:RelV x u):∀{xs:List V} {us:List Value} (i:Nat),Vals xs us->Vals (xs.set i x) (us.set i u)
 |_,_,_,.nil=>.nil
 |_,_,0,.cons _ t=>.cons r t
 |_,_,i+1,.cons q t=>.cons q (Vals.set r i t)
theorem Vals.append:∀{xs ys:List V} {us ws:List Value},Vals xs us->Vals ys ws->Vals (xs++ys) (us++ws)
 |_,_,_,_,.nil,s=>s
 |_,_,_,_,.cons r t,s=>.cons r (Vals.append t s)
theorem Vals.take:∀{xs:List V} {us:List Value} (n:Nat),Vals xs us->Vals (xs.take n) (us.take n)
 |_,_,0,_=>.nil
 |_,_,_+1,.nil=>.nil
 |_,_,n+1,.cons r t=>.cons r (Vals.take n t)
theorem Vals.drop:∀{xs:List V} {us:List Value} (n:Nat),Vals xs us->Vals (xs.drop n) (us.drop n)
 |_,_,0,r=>r
 |_,_,_+1,.nil=>.nil
 |_,_,n+1,.cons _ t=>Vals.drop n t
def eW:Option V->Option Value->Prop
 |some v,some u=>RelV v u
 |none,none=>True
 |_,_=>False
def KV{κ:Type}:List (κ×V)->List (κ×Value)->Prop:=Paired fun (p:κ×V) (q:κ×Value)=>p.1=q.1/\RelV p.2 q.2
def kV:Key->V
 |.inl i=>.int i
 |.inr x=>.str x
inductive HO where
 |lst (xs:List V)
 |tup (xs:List V)
 |dK (kvs:List (Key×V))|dT (kvs:List (List Key×V))
 |set (S:Int->Bool) (n:Nat)
 |ins (C dx:Addr) (fs:List (Str×V))
 |own (x:Addr)
 |xd (fs:List (Str×V))
 |met (f x:Addr)
 |rng (lo hi:Int)
 |frz (o:Obj) (u:HO)
 |tbl (ps:Array Value)
 |ext (φ:Heap->Prop)
abbrev Hp:=Addr->Option HO
def upd(H:Hp)(a:Addr)(o:HO):Hp:=fun b=>if b=a then some o else H b
theorem aT{H:Hp}{a:Addr}{o:HO}:upd H a o a=some o:=by unfold upd;rw[if_pos rfl]
theorem aA{H:Hp}{a b:Addr}{o:HO}(h:b≠a):upd H a o b=H b:=by unfold upd;rw[if_neg h]
theorem Cf{H:Hp}{a b:Addr}{o u:HO}(h:H a=some o)(h':H b=some u)(d:o≠u):a≠b:=by
 intro e;subst e;rw[h]at h';exact d (Option.some.inj h')
theorem aO{H:Hp}{a b:Addr}{o:HO}(h:H a=some o)(h':H b=none):a≠b:=by
 intro e;subst e;rw[h]at h';cases h'
def nZ(h:Heap)(a:Addr)(items:Array Value):Prop:=IsTup h a items/\∀o,h.get? a=some o->o.dict=none/\o.slots=#[]
theorem nZ.new(h:Heap)(items:Array Value):nZ (h.push { cls:=.type "tuple",data:=.seq items }) h.objs.size items:=⟨IsTup.new _ _,fun o e=>by
 rw[zk _ rfl]at e;cases e;exact⟨rfl,rfl⟩⟩
section
variable (P:Program)(w:World)
def bK(H:Hp)(h:Heap)(a:Addr):HO->Prop
 |.lst xs=>xs.length<=zq/\∃(its:List Value) (n:Nat),Vals xs its/\h.get? a=some { cls:=.type "list",data:=.seq its.toArray n }
 |.tup xs=>xs.length<=zq/\∃its:List Value,Vals xs its/\nZ h a its.toArray
 |.dK kvs=>kvs.length<=zq/\(a==sysModules)=false/\∃vs,KV kvs vs/\h.DictOf (bS P w) a vs
 |.dT kvs=>kvs.length<=zq/\(a==sysModules)=false/\∃xs:List (List Key×Addr×Value),
   Paired (fun (p:List Key×V) (q:List Key×Addr×Value)=>p.1=q.1/\H q.2.1=some (.tup (p.1.map kV))/\RelV p.2 q.2.2) kvs xs /\
   ∃o es ep,h.get? a=some o/\o.ExactDict/\o.data=.dict es ep/\es.toList=xs.map (entryOfKey (tupleKind (bS P w)))/\(xs.map (·.1)).Nodup
 |.set S n=>h.SetOf (intKind P w) a S n
 |.ins C dx fs=>H dx=some (.own a)/\fs.length<=1000/\dx≠a/\h.get? a=some (Z4 C dx) /\
   ∃mA,h.Ns1 dx mA/\(∀f,eW (fs.lookup f) (mA f))/\PySem.Within mA (fs.map (·.1))
 |.own _=>∃o,h.get? a=some o
 |.xd fs=>∃mA,h.Ns1 a mA/\∀f,eW (fs.lookup f) (mA f)
 |.rng lo hi=>∃t u v,h.get? a=some { cls:=.type "range",data:=.fields #[.int lo t,.int hi u,.int 1 v] }
 |.frz o u=>h.get? a=some o/\bK H h a u
 |.tbl ps=>h.get? a=some { cls:=.none,data:=.fields ps }
 |.met f x=>h.get? a=some (J_ (.ref f) (.ref x))
 |.ext φ=>φ h/\(∃o,h.get? a=some o)/\∀h1 h2:Heap,φ h1->(∀o,h1.get? a=some o->h2.get? a=some o)->φ h2
def cj(H:Hp)(h:Heap):Prop:=∀a o,H a=some o->bK P w H h a o
end
section
variable {P:Program}{w:World}{H H':Hp}{h h':Heap}{a:Addr}{o:HO}
theorem bK.lt(x:bK P w H h a o):a<h.objs.size:=by
 cases o with
 |lst xs=>obtain⟨_,_,_,_,e⟩:=x;exact zn e
 |tup xs=>obtain⟨_,_,_,p,_⟩:=x;exact p.lt
 |dK kvs=>obtain⟨_,_,_,_,o,_,_,e,_⟩:=x;exact zn e
 |dT kvs=>obtain⟨_,_,_,_,o,_,_,e,_⟩:=x;exact zn e
 |set S n=>obtain⟨o,_,_,_,e,_⟩:=x;exact zn e
 |ins C dx fs=>obtain⟨_,_,_,e,_⟩:=x;exact zn e
 |own y=>obtain⟨_,e⟩:=x;exact zn e
 |xd fs=>obtain⟨_,⟨_,_,_,e,_⟩,_⟩:=x;exact zn e
 |rng lo hi=>obtain⟨_,_,_,e⟩:=x;exact zn e
 |frz ob u=>obtain⟨e,_⟩:=x;exact zn e
 |tbl ps=>exact zn (show h.get? a=some _ from x)
 |met f y=>exact zn (show h.get? a=some _ from x)
 |ext φ=>obtain⟨_,⟨_,e⟩,_⟩:=x;exact zn e
theorem Paired.qh{α β:Type}{F G:α->β->Prop}:∀{l₁:List α} {l₂:List β},Paired F l₁ l₂->(∀a b,F a b->G a b)->Paired G l₁ l₂
 |_,_,.nil,_=>.nil
 |_,_,.cons r t,f=>.cons (f _ _ r) (Paired.qh t f)
theorem bK.jR(x:bK P w H h a o)(k:∀b u,(b=a\/H b=some (.own a))->h.get? b=some u->h'.get? b=some u)
  (ho:∀b,H b=some (.own a)->H' b=some (.own a)) (ht:∀b xs,H b=some (.tup xs)->H' b=some (.tup xs)):bK P w H' h' a o:=by
 induction o with
 |lst xs=>obtain⟨z,its,n,r,e⟩:=x;exact⟨z,its,n,r,k _ _ (.inl rfl) e⟩
 |tup xs =>
  obtain⟨z,its,r,⟨ob,e,c⟩,d⟩:=x;have e':=k _ _ (.inl rfl) e;exact⟨z,its,r,⟨ob,e',c⟩,fun o q=>by rw[e']at q;cases q;exact d _ e⟩
 |dK kvs=>obtain⟨z,y,vs,r,ob,es,ep,e,c⟩:=x;exact⟨z,y,vs,r,ob,es,ep,k _ _ (.inl rfl) e,c⟩
 |dT kvs =>
  obtain⟨z,y,xs,r,ob,es,ep,e,c⟩:=x;exact⟨z,y,xs,Paired.qh r fun p q z=>⟨z.1,ht _ _ z.2.1,z.2.2⟩,ob,es,ep,k _ _ (.inl rfl) e,c⟩
 |set S n=>obtain⟨ob,es,ep,t,e,c⟩:=x;exact⟨ob,es,ep,t,k _ _ (.inl rfl) e,c⟩
 |ins C dx fs =>
  obtain⟨d,z,ne,e,mA,⟨od,es,ep,e2,c⟩,r⟩:=x;exact⟨ho _ d,z,ne,k _ _ (.inl rfl) e,mA,⟨od,es,ep,k _ _ (.inr d) e2,c⟩,r⟩
 |own y=>obtain⟨ob,e⟩:=x;exact⟨ob,k _ _ (.inl rfl) e⟩
 |xd fs=>obtain⟨mA,⟨od,es,ep,e,c⟩,r⟩:=x;exact⟨mA,⟨od,es,ep,k _ _ (.inl rfl) e,c⟩,r⟩
 |rng lo hi=>obtain⟨t,u,v,e⟩:=x;exact⟨t,u,v,k _ _ (.inl rfl) e⟩
 |frz ob u ih=>obtain⟨e,q⟩:=x;exact⟨k _ _ (.inl rfl) e,ih q⟩
 |tbl ps =>
  have e:h.get? a=some { cls:=.none,data:=.fields ps }:=x;show h'.get? a=some { cls:=.none,data:=.fields ps };exact k a _ (.inl rfl) e
 |met f y =>
  have e:h.get? a=some (J_ (.ref f) (.ref y)):=x;show h'.get? a=some (J_ (.ref f) (.ref y));exact k a _ (.inl rfl) e
 |ext φ=>obtain⟨p,⟨o,e⟩,st⟩:=x;exact⟨st _ _ p fun o q=>k _ _ (.inl rfl) q,⟨o,k _ _ (.inl rfl) e⟩,st⟩
theorem cj.lt(x:cj P w H h)(e:H a=some o):a<h.objs.size:=(x a o e).lt
theorem cj.fresh(x:cj P w H h)(e:h.objs.size<=a):H a=none:=by
 cases q:H a with
 |none=>rfl
 |some u=>exact absurd (zj (x.lt q) e) (yu _)
theorem cj.kept(x:cj P w H h)(k:∀b u,h.get? b=some u->h'.get? b=some u):cj P w H h':=fun a o e =>
 (x a o e).jR (fun b u _ q=>k b u q) (fun _ q=>q) fun _ _ q=>q
theorem cj.laid(x:cj P w H h)(k:∀b u,h.get? b=some u->h'.get? b=some u)(hp:h.objs.size<=a)(new:bK P w (upd H a o) h' a o):cj P w (upd H a o) h':=fun b u e=>by
 have hn:=x.fresh hp;by_cases hb:b=a
 ·subst hb;rw[aT]at e;cases e;exact new
 ·rw[aA hb]at e
  exact(x b u e).jR (fun c v _ q=>k c v q) (fun c q=>by rw[aA (aO q hn)];exact q) fun c xs q=>by rw[aA (aO q hn)];exact q
end
def Rd(H:Hp)(a:Addr)(u:HO):Prop:=H a=some u\/∃o,H a=some (.frz o u)
theorem Rd.ok{P:Program}{w:World}{H:Hp}{h:Heap}{a:Addr}{u:HO}(r:Rd H a u)(x:cj P w H h):bK P w H h a u:=by
 rcases r with r|⟨o,r⟩
 ·exact x a u r
 ·obtain⟨_,q⟩:=x a _ r
  exact q
def FH:Option HO->Prop
 |some (.lst _)=>True
 |some (.dK _)=>True
 |some (.dT _)=>True
 |some (.set _ _)=>True
 |some (.ins _ _ _)=>True
 |some (.ext _)=>True
 |_=>False
section
variable {P:Program}{w:World}{H:Hp}{h h':Heap}{x e:Addr}{o':HO}
theorem cj.write(ok:cj P w H h)(mu:FH (H x))(he:e=x\/H e=some (.own x))(k:∀b u,b≠e->h.get? b=some u->h'.get? b=some u)(AB:∃u,h'.get? e=some u)
  (new:bK P w (upd H x o') h' x o'):cj P w (upd H x o') h':=fun b u q=>by
 have nown:∀c y,H c=some (.own y)->c≠x:=fun c y r z=>by subst z;rw[r]at mu;exact mu
 have ntup:∀c xs,H c=some (.tup xs)->c≠x:=fun c xs r z=>by subst z;rw[r]at mu;exact mu
 by_cases hb:b=x
 ·subst hb;rw[aT]at q;cases q;exact new
 ·rw[aA hb]at q
  by_cases lB:b=e
  ·have q':H b=some (.own x):=by
    rcases he with z|z
    ·exact absurd (lB.trans z) hb
    ·rw[lB];exact z
   rw[q]at q';cases q';obtain⟨v,hv⟩:=AB;exact⟨v,by rw[lB];exact hv⟩
  ·refine(ok b u q).jR (fun c v hc r=>k c v ?_ r) (fun c r=>by rw[aA (nown c b r)];exact r) fun c xs r=>by rw[aA (ntup c xs r)];exact r
   rcases hc with rfl|hc
   ·exact lB
   ·rintro rfl
    rcases he with z|z
    ·exact nown c b hc z
    ·rw[hc]at z;cases z;exact hb rfl
end
structure Un (fs ex:List Addr) (H H':Hp) (h h':Heap):Prop where
 keep:∀b o,h.get? b=some o->H b=none->b ∉ fs->b ∉ ex->h'.get? b=some o
 slot:∀b o,h.get? b=some o->H b=none->b∈fs->b ∉ ex->∃sl,h'.get? b=some { o with slots:=sl }
 free:∀b o,h.get? b=some o->H b=none->b ∉ ex->H' b=none
 there:∀b o,h.get? b=some o->b ∉ ex->∃o',h'.get? b=some o'
 iA:∀b xs,H b=some (.tup xs)->H' b=some (.tup xs)
 gX:∀b o u,H b=some (.frz o u)->H' b=some (.frz o u)
 iB:∀b ps,H b=some (.tbl ps)->∃more,H' b=some (.tbl (ps++more))
section
variable {fs fs' ex ex':List Addr}{H H1 H2:Hp}{h h1 h2 h':Heap}{a x e:Addr}{o:HO}
theorem Un.any(u:Un fs ex H H1 h h1){b:Addr}{ob:Obj}(q:h.get? b=some ob)(n:H b=none)(hx:b ∉ ex):∃sl,h1.get? b=some { ob with slots:=sl }:=by
 by_cases hb:b∈fs
 ·exact u.slot b ob q n hb hx
 ·exact⟨ob.slots,u.keep b ob q n hb hx⟩
theorem Un.kept(k:∀b u,h.get? b=some u->h'.get? b=some u):Un fs ex H H h h' :=
 ⟨fun b ob q _ _ _=>k b ob q,fun b ob q _ _ _=>⟨ob.slots,k b ob q⟩,fun _ _ _ n _=>n,fun b ob q _=>⟨ob,k b ob q⟩,fun _ _ q=>q,fun _ _ _ q=>q,fun _ ps q=>⟨#[],by rw[q];simp⟩⟩
theorem Un.refl:Un fs ex H H h h:=Un.kept fun _ _ q=>q
theorem Un.laid(k:∀b u,h.get? b=some u->h'.get? b=some u)(hp:h.objs.size<=a)(hn:H a=none):Un fs ex H (upd H a o) h h' where
 keep:=fun b u q _ _ _=>k b u q
 slot:=fun b u q _ _ _=>⟨u.slots,k b u q⟩
 free:=fun b u q n _=>by rw[aA (zC (zj (zn q) hp))];exact n
 there:=fun b u q _=>⟨u,k b u q⟩
 iA:=fun b xs q=>by rw[aA (aO q hn)];exact q
 gX:=fun b u xs q=>by rw[aA (aO q hn)];exact q
 iB:=fun b ps q=>⟨#[],by rw[aA (aO q hn),q];simp⟩
theorem Un.write(mu:FH (H x))(he:e=x\/H e=some (.own x))(k:∀b u,b≠e->h.get? b=some u->h'.get? b=some u)(AB:∃u,h'.get? e=some u):Un fs ex H (upd H x o) h h':=by
 have hx:∀b,H b=none->b≠x:=fun b n z=>by subst z;rw[n]at mu;exact mu
 have hb:∀b,H b=none->b≠e:=fun b n z=>by
  subst z;rcases he with r|r
  ·exact hx b n r
  ·rw[n]at r;cases r
 have hm:∀b u,H b=some u->¬ FH (some u)->b≠x:=fun b u q nm z=>by subst z;rw[q]at mu;exact nm mu
 refine⟨fun b u q n _ _=>k b u (hb b n) q,fun b u q n _ _=>⟨u.slots,k b u (hb b n) q⟩,fun b u q n _=>by rw[aA (hx b n)];exact n,fun b u q _=>?_,
  fun b xs q=>by rw[aA (hm b _ q fun z=>z)];exact q,fun b u xs q=>by rw[aA (hm b _ q fun z=>z)];exact q,fun b ps q=>⟨#[],by rw[aA (hm b _ q fun z=>z),q];simp⟩⟩
 by_cases lB:b=e
 ·subst lB;exact AB
 ·exact⟨u,k b u lB q⟩
end
def HM(h:Heap)(H:Hp):List Addr:=(List.range h.objs.size).filter fun a=>(H a).isSome
def kT(h:Heap)(H:Hp):Heap:=PySem.W.hideAll h (HM h H)
theorem EK(h:Heap)(H:Hp):(kT h H).objs.size=h.objs.size:=PySem.W.hideAll_size _ _
theorem G6{h:Heap}{H:Hp}{b:Addr}{o:Obj}(e:h.get? b=some o)(n:H b=none):(kT h H).get? b=some o :=
 PySem.W.hideAll_get _ e fun hm=>by
  have q:(H b).isSome=true:=(xT.mp hm).2;rw[n]at q;simp at q
theorem Kt{h:Heap}{H:Hp}{b:Addr}{o:Obj}(e:(kT h H).get? b=some o):h.get? b=some o/\H b=none:=by
 have e':h.get? b=some o:=PySem.W.of_hideAll (HM h H) e;refine⟨e',?_⟩;cases q:H b with
 |none=>rfl
 |some x =>
  have hm:b∈HM h H:=xT.mpr ⟨xz.mpr (zn e'),by simp[q]⟩;have z:(kT h H).get? b=none:=PySem.W.hideAll_none (HM h H) hm;rw[z]at e;cases e
end L2
namespace L2
open PySem PySem.Spec PyProof.Rows
structure Mod (K:Q_) (mg:Str->Option Value) (base:Heap):Prop where
 qQ:K.In base
 glob:base.Ns mainGlobals mg
 blt:∃mb,base.Ns builtinsNs mb/\∀x:Str,x≠"__name__"->mb x=bootBuiltins x
 nolimit:base.NoLimit
structure Cx where
 prog:Program
 w:World
 K:Q_
 mg:Str->Option Value
 base:Heap
 A:Around
 N:List Str
 s₀:Shared
 H₀:Hp
 env:Env
 outer:List Env
 stack:List Env
 ex:List Addr
 fn:Str->Bool
 calm:Bool
 pn:List (Addr×Obj)
 xe:Value->Shared->Prop
def dZ(l:List Env):List Addr:=l.filterMap (·.frame)
abbrev Cx.fs(X:Cx):List Addr:=dZ X.outer
def u6(sc:Scope)(x:Str):Prop:=sc.names.lookup x=some .local\/sc.names.lookup x=some .cell\/sc.names.lookup x=some .free
def Loc(sc:Scope)(x:Str):Prop:=sc.names.lookup x=some .local\/sc.names.lookup x=some .cell
def Look(env:Env)(h:Heap)(m:Str->Option Value)(x:Str)(u:Value):Prop :=
 (env.kindOf x=some .local/\m x=some u)\/((env.kindOf x=some .cell\/env.kindOf x=some .free)/\∃c,env.cells.lookup x=some c/\h.IsCell c (some u))
structure Cx.Ok (X:Cx):Prop where
 mod:Mod X.K X.mg X.base
 kind:X.env.scope.kind=.function
 glob:X.env.globals=mainGlobals
 blt:X.env.builtins=builtinsNs
 above:X.s₀.heap.objs.size<=X.env.locals
 inj:∀x y c,X.env.cells.lookup x=some c->X.env.cells.lookup y=some c->x=y
 has:∀x,(X.env.kindOf x=some .cell\/X.env.kindOf x=some .free)->∃c,X.env.cells.lookup x=some c
 u0:∀x c,X.fn x=true->X.env.cells.lookup x=some c->X.s₀.heap.objs.size<=c
 hd:X.calm=true->X.A.handled=none
 frames:X.A.frames=some X.stack
 vY:X.stack=X.outer\/(X.stack=X.env::X.outer/\X.env.frame=some X.env.locals)
 Jr:∀b∈X.ex,b≠X.env.locals/\∀x c,X.env.cells.lookup x=some c->c≠b
 bs:∀b o,X.base.get? b=some o->X.s₀.heap.get? b=some o/\X.H₀ b=none
 lF:X.base.objs.size<=X.s₀.heap.objs.size
 nJ:∀b o,X.base.get? b=some o->b ∉ X.ex
 qp:∀b∈X.ex,b ∉ X.fs
 eU:X.s₀.heap.FunFrames X.base X.outer
 nh:∀b∈X.fs,X.H₀ b=none
structure Inv (X:Cx) (pins:List (Addr×Obj)) (σ:List (Option V)) (H:Hp) (s:Shared):Prop where
 ok:X.Ok
 os:s.os=X.s₀.os
 bare:AllBare s.gens
 base:Un X.fs X.ex X.H₀ H X.s₀.heap s.heap
 loc:∃m,s.heap.Ns X.env.locals m/\∀(i:Nat) (x:Str) (v:V),X.N[i]?=some x->σ[i]?=some (some v)->u6 X.env.scope x->∃u,RelV v u/\Look X.env s.heap m x u
 cell:∀x c,X.env.cells.lookup x=some c->∃v,s.heap.IsCell c v
 free:H X.env.locals=none
 dj:∀x c,X.env.cells.lookup x=some c->H c=none
 pin:∀p∈X.pn++pins,s.heap.get? p.1=some p.2/\H p.1=none/\p.1≠X.env.locals/\p.1 ∉ X.fs/\∀v,p.2.data≠.cell v
 ax:cj X.prog X.w H s.heap
 len:σ.length=X.N.length
section
variable {X:Cx}{pins:List (Addr×Obj)}{σ:List (Option V)}{H H':Hp}{s:Shared}{h':Heap}
theorem Cx.Ok.RT(ok:X.Ok){b:Addr}{o:Obj}(e:X.base.get? b=some o):b ∉ X.fs:=fun hb=>by
 have:=(ok.eU.mem hb).1
 rw[e]at this;cases this
theorem Inv.bs(I:Inv X pins σ H s):∀b o,X.base.get? b=some o->s.heap.get? b=some o/\H b=none:=fun b o e =>
 ⟨I.base.keep b o (I.ok.bs b o e).1 (I.ok.bs b o e).2 (I.ok.RT e) (I.ok.nJ b o e),I.base.free b o (I.ok.bs b o e).1 (I.ok.bs b o e).2 (I.ok.nJ b o e)⟩
theorem Inv.bk(I:Inv X pins σ H s):∀b o,X.base.get? b=some o->s.heap.get? b=some o:=fun b o e=>(I.bs b o e).1
theorem Inv.mod(I:Inv X pins σ H s):Mod X.K X.mg X.base:=I.ok.mod
theorem Inv.dY(I:Inv X pins σ H s):X.K.In s.heap:=I.ok.mod.qQ.keeps I.bk
theorem Inv.lt(I:Inv X pins σ H s):X.env.locals<s.heap.objs.size:=let ⟨_,hn,_⟩:=I.loc;hn.lt
theorem Inv.sz(I:Inv X pins σ H s):X.s₀.heap.objs.size<=s.heap.objs.size:=zN I.ok.above (wd I.lt)
theorem Inv.RS(I:Inv X pins σ H s){a:Addr}(h:s.heap.objs.size<=a):a ∉ X.fs:=fun hb=>by
 obtain⟨_,o,ho,_⟩:=I.ok.eU.mem hb;exact absurd (zj (zn ho) (zN I.sz h)) (yu _)
theorem Inv.mf(I:Inv X pins σ H s):∀x c,X.env.cells.lookup x=some c->c≠X.env.locals:=fun x c e z=>by
 obtain⟨v,o,ho,hd⟩:=I.cell x c e;obtain⟨m,⟨o',es,ep,ho',hd',_⟩,_⟩:=I.loc;rw[z,ho']at ho;cases ho;rw[hd']at hd;cases hd
theorem Inv.eU(I:Inv X pins σ H s):s.heap.FunFrames X.base X.outer:=by
 have all:∀(l:List Env),(∀b∈dZ l,b∈X.fs)->X.s₀.heap.FunFrames X.base l->s.heap.FunFrames X.base l:=by
  intro l;induction l with
  |nil=>intro _ _;trivial
  |cons env r ih =>
   intro hs hl;obtain⟨hk,⟨L,o,hf,hn,ho,hd⟩,hr⟩:=hl;have hL:L∈X.fs:=hs L (by unfold dZ;rw[yk,hf];exact zR);obtain⟨sl,e⟩:=I.base.slot L o ho (I.ok.nh L hL) hL fun z=>I.ok.qp L z hL;exact⟨hk,⟨L,_,hf,hn,e,hd⟩,ih (fun b hb=>hs b (by unfold dZ;rw[yk,hf];exact zU _ hb)) hr⟩
 exact all X.outer (fun _ hb=>hb) I.ok.eU
theorem Inv.stack(I:Inv X pins σ H s):s.heap.FunFrames X.base X.stack:=by
 rcases I.ok.vY with e|⟨e,hf⟩
 ·rw[e];exact I.eU
 ·rw[e]
  obtain⟨m,hn,_⟩:=I.loc;refine .cons (by rw[I.ok.kind];decide) hf hn ?_ I.eU;exact yh (zN I.ok.lF I.ok.above)
theorem Inv.fO(I:Inv X pins σ H s):∀b∈dZ X.stack,b∈X.env.locals::X.fs:=fun b hb=>by
 rcases I.ok.vY with e|⟨e,hf⟩
 ·rw[e]at hb;exact zU _ hb
 ·rw[e]at hb
  unfold dZ at hb;rw[yk,hf]at hb;exact hb
theorem Inv.pW(I:Inv X pins σ H s):∀b∈dZ X.stack,H b=none:=fun b hb=>by
 rcases zi.mp (I.fO b hb) with e|hb
 ·rw[e];exact I.free
 ·obtain⟨_,o,ho,_⟩:=I.ok.eU.mem hb
  exact I.base.free b o ho (I.ok.nh b hb) fun z=>I.ok.qp b z hb
theorem Inv.step{g':Array GenState}{t':Nat}{d':Drawn}{ch:List Addr}(I:Inv X pins σ H s)
  (hch:∀b∈ch,(b∈X.ex\/X.s₀.heap.objs.size<=b)/\b≠X.env.locals/\(∀x c,X.env.cells.lookup x=some c->c≠b)/\∀p∈X.pn++pins,p.1≠b)
  (keep:∀b o,b≠X.env.locals->b ∉ X.fs->b ∉ ch->s.heap.get? b=some o->H b=none->h'.get? b=some o)
  (slot:∀b o,b≠X.env.locals->b∈X.fs->b ∉ ch->s.heap.get? b=some o->H b=none->∃sl,h'.get? b=some { o with slots:=sl }) (free:∀b o,b ∉ ch->s.heap.get? b=some o->H b=none->H' b=none)
  (there:∀b o,b ∉ ch->s.heap.get? b=some o->∃o',h'.get? b=some o')
  (iA:∀b xs,H b=some (.tup xs)->H' b=some (.tup xs)) (gX:∀b o u,H b=some (.frz o u)->H' b=some (.frz o u)) (iB:∀b ps,H b=some (.tbl ps)->∃more,H' b=some (.tbl (ps++more)))
  (ns:∀m,s.heap.Ns X.env.locals m->h'.Ns X.env.locals m) (ax:cj X.prog X.w H' h') (hg:AllBare g') :
  Inv X pins σ H' { s with heap:=h',gens:=g',drawn:=d',toks:=t' }:=by
 have neL:∀b o,X.s₀.heap.get? b=some o->b≠X.env.locals:=fun b o e=>zC (zj (zn e) I.ok.above);have neC:∀b o,X.s₀.heap.get? b=some o->b ∉ X.ex->b ∉ ch:=fun b o e hx hb=>by
  rcases (hch b hb).1 with z|z
  ·exact hx z
  ·exact absurd (zj (zn e) z) (yu _)
 have cellK:∀x c,X.env.cells.lookup x=some c->∀v,s.heap.IsCell c v->h'.IsCell c v:=fun x c e v ⟨o,ho,hd⟩=>by
  have Ea:c ∉ ch:=fun z=>(hch c z).2.2.1 x c e rfl;by_cases hc:c∈X.fs
  ·obtain⟨sl,q⟩:=slot c o (I.mf x c e) hc Ea ho (I.dj x c e)
   exact⟨_,q,hd⟩
  ·exact⟨o,keep c o (I.mf x c e) hc Ea ho (I.dj x c e),hd⟩
 refine⟨I.ok,I.os,hg,⟨fun b o e n hb hx=>?_,fun b o e n hb hx=>?_,fun b o e n hx=>?_,fun b o e hx=>?_,fun b xs e=>iA b xs (I.base.iA b xs e),fun b o xs e=>gX b o xs (I.base.gX b o xs e),fun b ps e=>?_⟩,?_,fun x c e=>?_,?_,fun x c e=>?_,fun p hp=>?_,ax,I.len⟩
 ·exact keep b o (neL b o e) hb (neC b o e hx) (I.base.keep b o e n hb hx) (I.base.free b o e n hx)
 ·obtain⟨sl,e1⟩:=I.base.slot b o e n hb hx
  obtain⟨sl',e2⟩:=slot b _ (neL b o e) hb (neC b o e hx) e1 (I.base.free b o e n hx);exact⟨sl',e2⟩
 ·obtain⟨o',e1⟩:=I.base.there b o e hx
  exact free b o' (neC b o e hx) e1 (I.base.free b o e n hx)
 ·obtain⟨o',e1⟩:=I.base.there b o e hx
  exact there b o' (neC b o e hx) e1
 ·obtain⟨m1,e1⟩:=I.base.iB b ps e
  obtain⟨m2,e2⟩:=iB b _ e1;exact⟨m1++m2,by rw[e2,Array.append_assoc]⟩
 ·obtain⟨m,hn,hl⟩:=I.loc
  refine⟨m,ns m hn,fun i x v e1 e2 e3=>?_⟩;obtain⟨u,r,l⟩:=hl i x v e1 e2 e3;refine⟨u,r,?_⟩;rcases l with l|⟨k,c,e,z⟩
  ·exact .inl l
  ·exact .inr ⟨k,c,e,cellK x c e _ z⟩
 ·obtain⟨v,z⟩:=I.cell x c e
  exact⟨v,cellK x c e v z⟩
 ·obtain⟨m,⟨o,_,_,ho,_⟩,_⟩:=I.loc
  exact free _ o (fun z=>(hch _ z).2.1 rfl) ho I.free
 ·obtain⟨v,o,ho,hd⟩:=I.cell x c e
  exact free c o (fun z=>(hch c z).2.2.1 x c e rfl) ho (I.dj x c e)
 ·obtain⟨e,n,ne,nf,d⟩:=I.pin p hp
  have Ea:p.1 ∉ ch:=fun z=>(hch p.1 z).2.2.2 p hp rfl;exact⟨keep p.1 p.2 ne nf Ea e n,free p.1 p.2 Ea e n,ne,nf,d⟩
theorem Inv.un{t':Nat}(I:Inv X pins σ H s)(u:Un X.fs [] H H' s.heap h')(ax:cj X.prog X.w H' h'):Inv X pins σ H' { s with heap:=h',toks:=t' }:=by
 obtain⟨m,⟨o,es,ep,ho,r⟩,_⟩:=id I.loc;obtain⟨sl,hL⟩:=u.any ho I.free (by simp);exact I.step (g':=s.gens) (d':=s.drawn) (ch:=[]) (fun _ z=>nomatch z) (fun b o _ hb _ e n=>u.keep b o e n hb (by simp)) (fun b o _ hb _ e n=>u.slot b o e n hb (by simp)) (fun b o _ e n=>u.free b o e n (by simp)) (fun b o _ e=>u.there b o e (by simp)) u.iA u.gX u.iB (fun m' hm=>by
  obtain⟨o',es',ep',ho',r'⟩:=hm;rw[ho]at ho';cases ho';exact⟨_,es',ep',hL,r'⟩) ax I.bare
theorem Inv.call{g':Array GenState}{t':Nat}{d':Drawn}{ch:List Addr}(I:Inv X pins σ H s)(u:Un (dZ X.stack) ch H H' s.heap h')(ax:cj X.prog X.w H' h')(hg:AllBare g')
  (hch:∀b∈ch,(b∈X.ex\/X.s₀.heap.objs.size<=b)/\b≠X.env.locals/\(∀x c,X.env.cells.lookup x=some c->c≠b)/\∀p∈X.pn++pins,p.1≠b) :
  Inv X pins σ H' { s with heap:=h',gens:=g',drawn:=d',toks:=t' }:=by
 obtain⟨m,⟨o,es,ep,ho,r⟩,_⟩:=id I.loc;obtain⟨sl,hL⟩:=u.any ho I.free fun z=>(hch _ z).2.1 rfl;exact I.step (ch:=ch) hch (fun b o hL hb hc e n=>u.keep b o e n (fun z=>(zi.mp (I.fO b z)).elim hL hb) hc) (fun b o _ _ hc e n=>u.any e n hc) (fun b o hc e n=>u.free b o e n hc) (fun b o hc e=>u.there b o e hc) u.iA u.gX u.iB (fun m' hm=>by
  obtain⟨o',es',ep',ho',r'⟩:=hm;rw[ho]at ho';cases ho';exact⟨_,es',ep',hL,r'⟩) ax hg
theorem Inv.turned{t':Nat}{it:Addr}(I:Inv X pins σ H s)(k:∀b o,b≠it->s.heap.get? b=some o->h'.get? b=some o)(hn:H it=none)(hL:it≠X.env.locals)
  (h1:it∈X.ex\/X.s₀.heap.objs.size<=it) (h2:∀x c,X.env.cells.lookup x=some c->c≠it) (h3:∀p∈X.pn++pins,p.1≠it):Inv X pins σ H { s with heap:=h',toks:=t' }:=by
 have Qm:∀b u,H b=some u->b≠it:=fun b u e z=>by rw[z,hn]at e;cases e
 refine I.step (g':=s.gens) (d':=s.drawn) (ch:=[it]) (fun b hb=>?_) (fun b o _ _ hc e _=>k b o (fun z=>hc (by simp[z])) e) (fun b o _ _ hc e _=>⟨o.slots,k b o (fun z=>hc (by simp[z])) e⟩) (fun _ _ _ _ n=>n)
  (fun b o hc e=>⟨o,k b o (fun z=>hc (by simp[z])) e⟩) (fun _ _ e=>e) (fun _ _ _ e=>e) (fun b ps e=>⟨#[],by rw[e];simp⟩) (fun m hm=>?_) (fun b u e=>?_) I.bare
 ·have e:b=it:=by simpa using hb
  subst e;exact⟨h1,hL,h2,h3⟩
 ·obtain⟨o,es,ep,ho,r⟩:=hm
  exact⟨o,es,ep,k _ o (Ne.symm hL) ho,r⟩
 ·refine(I.ax b u e).jR (fun c v hc q=>k c v ?_ q) (fun _ q=>q) fun _ _ q=>q
  rcases hc with z|z
  ·rw[z];exact Qm b u e
  ·exact Qm c _ z
theorem Inv.tok(I:Inv X pins σ H s)(t:Nat):Inv X pins σ H { s with toks:=t }:=I.un (h':=s.heap) (t':=t) Un.refl I.ax
theorem Inv.kept{t':Nat}(I:Inv X pins σ H s)(k:∀b u,s.heap.get? b=some u->h'.get? b=some u):Inv X pins σ H { s with heap:=h',toks:=t' }:=I.un (Un.kept k) (I.ax.kept k)
theorem Inv.laid{a:Addr}{o:HO}{t':Nat}(I:Inv X pins σ H s)(k:∀b u,s.heap.get? b=some u->h'.get? b=some u)(hp:s.heap.objs.size<=a)(new:bK X.prog X.w (upd H a o) h' a o) :
  Inv X pins σ (upd H a o) { s with heap:=h',toks:=t' }:=I.un (Un.laid k hp (I.ax.fresh hp)) (I.ax.laid k hp new)
theorem Inv.write{x e:Addr}{o:HO}{t':Nat}(I:Inv X pins σ H s)(mu:FH (H x))(he:e=x\/H e=some (.own x))(k:∀b u,b≠e->s.heap.get? b=some u->h'.get? b=some u)(AB:∃u,h'.get? e=some u)
  (new:bK X.prog X.w (upd H x o) h' x o):Inv X pins σ (upd H x o) { s with heap:=h',toks:=t' }:=I.un (Un.write mu he k AB) (I.ax.write mu he k AB new)
theorem Inv.p7{pins':List (Addr×Obj)}(I:Inv X pins σ H s)(h:∀p∈pins',s.heap.get? p.1=some p.2/\H p.1=none/\p.1≠X.env.locals/\p.1 ∉ X.fs/\∀v,p.2.data≠.cell v):Inv X pins' σ H s :=
 ⟨I.ok,I.os,I.bare,I.base,I.loc,I.cell,I.free,I.dj,fun p hp=>(yx.mp hp).elim (fun z=>I.pin p (zQ _ z)) (h p),I.ax,I.len⟩
theorem nK{N:List Str}(hN:N.Nodup){i j:Nat}{x:Str}(a:N[i]?=some x)(b:N[j]?=some x):i=j:=by
 obtain⟨h1,e1⟩:=zw.mp a;obtain⟨h2,e2⟩:=zw.mp b;exact(xK hN).mp (e1.trans e2.symm)
theorem qG{M:Model}{A:Around}{E:Value->Shared->Prop}{i:Nat}{x:Str}{v:V}{u:Value}{Q:Unit->Shared->Prop}(I:Inv X pins σ H s)(hN:X.N.Nodup)(hi:X.N[i]?=some x)(hx:Loc X.env.scope x)(r:RelV v u)
  (h:∀s',Inv X pins (σ.set i (some v)) H s'->(∃a,Heap.SameBut a s.heap s'.heap/\(a=X.env.locals\/X.env.cells.lookup x=some a))->Q () s') (hf:X.fn x=true\/X.env.scope.names.lookup x=some .local:=by first|exact .inl rfl|exact .inr rfl|assumption):wpAny M A (storeName X.env x u) Q E s:=by
 obtain⟨m,hn,hl⟩:=id I.loc;have fZ:(X.env.scope.kind==.class||(X.env.scope.kind==.module&&X.env.locals != X.env.globals))=false:=by rw[I.ok.kind];rfl
 have CG:i<σ.length:=by rw[I.len];exact(zw.mp hi).1
 have mf:=I.mf;have tracked:∀{a:Addr} {h':Heap},(∃o,s.heap.get? a=some o/\H a=none)->Heap.SameBut a s.heap h'->cj X.prog X.w H h':=fun {a h'} ha hs b ob e=>by
  obtain⟨_,_,oS⟩:=ha;refine(I.ax b ob e).jR (fun c w' hc q=>(hs.2 c ?_).trans q) (fun _ q=>q) fun _ _ q=>q;rintro rfl;rcases hc with rfl|hc
  ·rw[oS]at e;cases e
  ·rw[oS]at hc;cases hc
 rcases hx with hk|hk
 ·refine wpAny_storeName_local hk hn (fun h' hn' hs=>?_) fZ
  obtain⟨oL,_,_,EG,_⟩:=id hn;refine h _ ⟨I.ok,I.os,I.bare,⟨fun b o e n hb hx=>?_,fun b o e n hb hx=>?_,I.base.free,fun b o e hx=>?_,I.base.iA,I.base.gX,I.base.iB⟩,⟨_,hn',fun j y v' e1 e2 e3=>?_⟩,fun y c e=>?_,I.free,I.dj,fun p hp=>?_,tracked ⟨oL,EG,I.free⟩ hs,by simpa using I.len⟩ ⟨_,hs,.inl rfl⟩
  ·exact(hs.2 b (zC (zj (zn e) I.ok.above))).trans (I.base.keep b o e n hb hx)
  ·obtain⟨sl,e1⟩:=I.base.slot b o e n hb hx
   exact⟨sl,(hs.2 b (zC (zj (zn e) I.ok.above))).trans e1⟩
  ·obtain⟨o',e1⟩:=I.base.there b o e hx
   exact⟨o',(hs.2 b (zC (zj (zn e) I.ok.above))).trans e1⟩
  ·by_cases hj:j=i
   ·subst hj
    rw[hi]at e1;cases e1;rw[zO CG]at e2;cases e2;exact⟨u,r,.inl ⟨hk,by simp⟩⟩
   ·rw[zd (Ne.symm hj)]at e2
    obtain⟨u',r',q⟩:=hl j y v' e1 e2 e3;refine⟨u',r',?_⟩;rcases q with ⟨k,e⟩|⟨k,c,e,z⟩
    ·refine .inl ⟨k,?_⟩
     have:y≠x:=fun e=>hj (nK hN e1 (e▸hi))
     simp[this,e]
    ·exact .inr ⟨k,c,e,z.sameBut hs (mf y c e)⟩
  ·obtain⟨w',z⟩:=I.cell y c e
   exact⟨w',z.sameBut hs (mf y c e)⟩
  ·obtain⟨e,n,ne,nf,d⟩:=I.pin p hp
   exact⟨(hs.2 p.1 ne).trans e,n,ne,nf,d⟩
 ·have hfn:X.fn x=true:=by
   rcases hf with z|z
   ·exact z
   ·rw[z]at hk;cases hk
  obtain⟨c,hc⟩:=I.ok.has x (.inl hk);obtain⟨w',z⟩:=I.cell x c hc;refine wpAny_storeName_cell I.ok.kind hk hc z (fun h' hc' hs=>?_);obtain⟨oc,EF,Se⟩:=id z;refine h { s with heap:=h' } ⟨I.ok,I.os,I.bare,⟨fun b o e n hb hx=>?_,fun b o e n hb hx=>?_,I.base.free,fun b o e hx=>?_,I.base.iA,I.base.gX,I.base.iB⟩,⟨m,hn.sameBut hs (Ne.symm (mf x c hc)),fun j y v' e1 e2 e3=>?_⟩,fun y c' e=>?_,I.free,I.dj,fun p hp=>?_,tracked ⟨oc,EF,I.dj x c hc⟩ hs,by simpa using I.len⟩ ⟨c,hs,.inr hc⟩
  ·exact(hs.2 b (zC (zj (zn e) (I.ok.u0 x c hfn hc)))).trans (I.base.keep b o e n hb hx)
  ·obtain⟨sl,e1⟩:=I.base.slot b o e n hb hx
   exact⟨sl,(hs.2 b (zC (zj (zn e) (I.ok.u0 x c hfn hc)))).trans e1⟩
  ·obtain⟨o',e1⟩:=I.base.there b o e hx
   exact⟨o',(hs.2 b (zC (zj (zn e) (I.ok.u0 x c hfn hc)))).trans e1⟩
  ·by_cases hj:j=i
   ·subst hj
    rw[hi]at e1;cases e1;rw[zO CG]at e2;cases e2;exact⟨u,r,.inr ⟨.inl hk,c,hc,hc'⟩⟩
   ·rw[zd (Ne.symm hj)]at e2
    obtain⟨u',r',q⟩:=hl j y v' e1 e2 e3;refine⟨u',r',?_⟩;rcases q with q|⟨k,c',e,z'⟩
    ·exact .inl q
    ·refine .inr ⟨k,c',e,z'.sameBut hs ?_⟩
     rintro rfl;exact hj (nK hN e1 (I.ok.inj _ _ _ e hc▸hi))
  ·by_cases QM:c'=c
   ·subst QM;exact⟨_,hc'⟩
   ·obtain⟨w2,z2⟩:=I.cell y c' e
    exact⟨w2,z2.sameBut hs QM⟩
  ·obtain⟨e,n,ne,nf,d⟩:=I.pin p hp
   refine⟨(hs.2 p.1 ?_).trans e,n,ne,nf,d⟩;intro q;rw[q,EF]at e;have q':oc=p.2:=Option.some.inj e;exact d w' (by rw[<- q'];exact Se)
theorem nz{M:Model}{A:Around}{E:Value->Shared->Prop}{i:Nat}{x:Str}{v:V}{u:Value}{Q:Unit->Shared->Prop}(I:Inv X pins σ H s)(hN:X.N.Nodup)(hi:X.N[i]?=some x)(hx:Loc X.env.scope x)(r:RelV v u)
  (h:∀s',Inv X pins (σ.set i (some v)) H s'->Q () s') (hf:X.fn x=true\/X.env.scope.names.lookup x=some .local:=by first|exact .inl rfl|exact .inr rfl|assumption):wpAny M A (storeName X.env x u) Q E s :=
 qG I hN hi hx r (fun s' I' _=>h s' I') hf
theorem Inv.call'{s':Shared}{ch:List Addr}(I:Inv X pins σ H s)(ho:s'.os=s.os)(u:Un (dZ X.stack) ch H H' s.heap s'.heap)(ax:cj X.prog X.w H' s'.heap)(hg:AllBare s'.gens)
  (hch:∀b∈ch,(b∈X.ex\/X.s₀.heap.objs.size<=b)/\b≠X.env.locals/\(∀x c,X.env.cells.lookup x=some c->c≠b)/\∀p∈X.pn++pins,p.1≠b):Inv X pins σ H' s':=by
 obtain⟨h',g',d',t',o'⟩:=s';have e:o'=s.os:=ho;subst e;exact I.call (g':=g') (t':=t') (d':=d') u ax hg hch
end
abbrev XK:=Value->Option Addr->Hp->Prop
abbrev St:=List (Option V)
abbrev VK:=V->Hp->Prop
abbrev TE:=St->Hp->VK->Prop
abbrev TT:=St->Hp->(Bool->Hp->Prop)->Prop
abbrev TA:=St->Hp->(List V->Hp->Prop)->Prop
structure Ends where
 nx:St->Hp->Prop
 rt:VK
 bk:St->Hp->Prop:=fun _ _=>False
 ct:St->Hp->Prop:=fun _ _=>False
abbrev TS:=Ends->St->Hp->Prop
inductive EP (X:Cx) (pins:List (Addr×Obj)) (σ:St) (Q:VK) (u:Value) (s':Shared):Prop
 |mk (v:V) (H':Hp) (I:Inv X pins σ H' s') (r:RelV v u) (q:Q v H')
inductive TP (X:Cx) (pins:List (Addr×Obj)) (σ:St) (Q:Bool->Hp->Prop) (b:Bool) (s':Shared):Prop
 |mk (H':Hp) (I:Inv X pins σ H' s') (q:Q b H')
inductive AP (X:Cx) (pins:List (Addr×Obj)) (σ:St) (Q:List V->Hp->Prop) (us:List Value) (s':Shared):Prop
 |mk (vs:List V) (H':Hp) (I:Inv X pins σ H' s') (r:Vals vs us) (q:Q vs H')
inductive NP (X:Cx) (pins:List (Addr×Obj)) (Q:St->Hp->Prop) (s':Shared):Prop
 |mk (σ':St) (H':Hp) (I:Inv X pins σ' H' s') (q:Q σ' H')
inductive RP (X:Cx) (pins:List (Addr×Obj)) (Q:VK) (u:Value) (s':Shared):Prop
 |mk (v:V) (σ':St) (H':Hp) (I:Inv X pins σ' H' s') (r:RelV v u) (q:Q v H')
def SP(X:Cx)(pins:List (Addr×Obj))(D:Ends)(f:Flow)(s':Shared):Prop :=
 match f with
 |.next=>NP X pins D.nx s'
 |.brk=>NP X pins D.bk s'
 |.cont=>NP X pins D.ct s'
 |.ret u=>RP X pins D.rt u s'
def PE(X:Cx)(e:Expr)(t:TE):Prop :=
 ∀(pins:List (Addr×Obj)) (s:Shared) (σ:St) (H:Hp) (Q:VK),Inv X pins σ H s->t σ H Q->wpAny (model X.prog X.w) X.A (eval e X.env) (EP X pins σ Q) X.xe s
def PT(X:Cx)(e:Expr)(t:TT):Prop :=
 ∀(pins:List (Addr×Obj)) (s:Shared) (σ:St) (H:Hp) (Q:Bool->Hp->Prop),Inv X pins σ H s->t σ H Q->wpAny (model X.prog X.w) X.A (isTrue e X.env (eval e X.env)) (TP X pins σ Q) X.xe s
def PW(X:Cx)(e:Expr)(t:TT):Prop :=
 ∀(whole:Sem Value) (pins:List (Addr×Obj)) (s:Shared) (σ:St) (H:Hp) (Q:Bool->Hp->Prop),Inv X pins σ H s->t σ H Q->wpAny (model X.prog X.w) X.A (isTrue e X.env whole) (TP X pins σ Q) X.xe s
theorem PW.pt{X:Cx}{e:Expr}{t:TT}(h:PW X e t):PT X e t:=h _
def PA(X:Cx)(es:List Expr)(t:TA):Prop :=
 ∀(pos:Pos) (pins:List (Addr×Obj)) (s:Shared) (σ:St) (H:Hp) (Q:List V->Hp->Prop),Inv X pins σ H s->t σ H Q->wpAny (model X.prog X.w) X.A (spliced (backTo pos (starEach es X.env))) (AP X pins σ Q) X.xe s
def PS(X:Cx)(st:Stmt)(t:TS):Prop :=
 ∀(pins:List (Addr×Obj)) (s:Shared) (σ:St) (H:Hp) (D:Ends),Inv X pins σ H s->t D σ H->wpAny (model X.prog X.w) X.A (exec st X.env) (SP X pins D) X.xe s
def du(X:Cx)(st:List Stmt)(t:TS):Prop :=
 ∀(pins:List (Addr×Obj)) (s:Shared) (σ:St) (H:Hp) (D:Ends),Inv X pins σ H s->t D σ H->wpAny (model X.prog X.w) X.A (execs st X.env) (SP X pins D) X.xe s
theorem aH{α:Type}{t:Sem α}{Q Q':α->Shared->Prop}{M:Model}{A:Around}{E:Value->Shared->Prop}{s:Shared}(h:wpAny M A t Q E s)(hQ:∀a s,Q a s->Q' a s):wpAny M A t Q' E s:=wpAny_mono h hQ fun _ _ x=>x
end L2
namespace L2
open PySem PySem.Spec PyProof.Rows
section
variable {X:Cx}
def cX(i:Nat):TE:=fun σ H Q=>∃v,σ[i]?=some (some v)/\Q v H
def tC(v:V):TE:=fun _ H Q=>Q v H
theorem eD{i:Nat}{x:Str}{pos:Pos}(hN:X.N[i]?=some x)(hv:u6 X.env.scope x)(hd:(x==("__debug__":Str))=false:=by decide)(kj:(x==("__classdict__":Str))=false:=by decide):PE X (.Name x pos) (cX i):=by
 intro pins s σ H Q I h;obtain⟨v,e,h⟩:=h;obtain⟨m,hn,hl⟩:=I.loc;obtain⟨u,r,l⟩:=hl i x v hN e hv;have fin:EP X pins σ Q u s:=⟨v,H,I,r,h⟩;rcases l with ⟨hk,hm⟩|⟨hk,c,hc,Ji⟩
 ·exact wpAny_Name (wpAny_loadName_local I.ok.kind hk hn hm fin) hd
 ·rcases hk with hk|hk
  ·exact wpAny_Name (wpAny_loadName_cell I.ok.kind hk hc Ji fin) hd
  ·exact wpAny_Name (wpAny_loadName_free I.ok.kind hk hc Ji fin kj) hd
theorem DZ{i j pos}:PE X (.Constant (.int i) j pos) (tC (.int i)):=fun _ _ _ H _ I h=>wpAny_Constant_int ⟨.int i,H,I.tok _,⟨_,rfl⟩,h⟩
theorem Pd{b j pos}:PE X (.Constant (.bool b) j pos) (tC (.bl b)):=fun _ _ _ H _ I h=>Constant_bool ⟨.bl b,H,I,rfl,h⟩
theorem MC{j pos}:PE X (.Constant .none j pos) (tC .non):=fun _ _ _ H _ I h=>Constant_none ⟨.non,H,I,rfl,h⟩
theorem fV{x j pos}:PE X (.Constant (.str x) j pos) (tC (.str x)):=fun _ _ _ H _ I h=>Calls.Constant_str ⟨.str x,H,I.tok _,⟨_,rfl⟩,h⟩
def Gl(X:Cx)(x:Str):Prop:=X.env.kindOf x=some .globalImplicit
theorem iN{E:Value->Shared->Prop}{pins:List (Addr×Obj)}{s:Shared}{σ:St}{H:Hp}{x:Str}{u:Value}{pos:Pos}{Q:Value->Shared->Prop}(I:Inv X pins σ H s)(hg:Gl X x)(hm:X.mg x=some u)(h:Q u s)
  (hd:(x==("__debug__":Str))=false:=by decide):wpAny (model X.prog X.w) X.A (eval (.Name x pos) X.env) Q E s :=
 Calls.Name_function_global I.ok.kind hg (Calls.loadGlobal_global (by rw[I.ok.glob];exact I.mod.glob.keeps I.bk) hm h) hd
theorem iu{E:Value->Shared->Prop}{pins:List (Addr×Obj)}{s:Shared}{σ:St}{H:Hp}{x:Str}{u:Value}{pos:Pos}{Q:Value->Shared->Prop}(I:Inv X pins σ H s)(hg:Gl X x)(hm:X.mg x=none)(hv:bootBuiltins x=some u)(h:Q u s)
  (hn:x≠"__name__":=by decide) (hd:(x==("__debug__":Str))=false:=by decide):wpAny (model X.prog X.w) X.A (eval (.Name x pos) X.env) Q E s:=by
 obtain⟨mb,h1,h2⟩:=I.mod.blt;exact Calls.Name_function_global I.ok.kind hg (Calls.loadGlobal_builtin (by rw[I.ok.glob];exact I.mod.glob.keeps I.bk) hm (by rw[I.ok.blt];exact h1.keeps I.bk) ((h2 x hn).trans hv) h) hd
theorem Af{x:Str}{v:V}{u:Value}{pos:Pos}(hg:Gl X x)(hm:X.mg x=some u)(r:RelV v u)(hd:(x==("__debug__":Str))=false:=by decide):PE X (.Name x pos) (tC v) :=
 fun _ _ _ H _ I h=>iN I hg hm ⟨v,H,I,r,h⟩ hd
theorem mE{x:Str}{v:V}{u:Value}{pos:Pos}(hg:Gl X x)(hm:X.mg x=none)(hv:bootBuiltins x=some u)(r:RelV v u)(hn:x≠"__name__":=by decide)(hd:(x==("__debug__":Str))=false:=by decide):PE X (.Name x pos) (tC v) :=
 fun _ _ _ H _ I h=>iu I hg hm hv ⟨v,H,I,r,h⟩ hn hd
variable {a b:Expr}{ta tb:TE}{pos:Pos}
def tB(t:TE):TT:=fun σ H Q=>t σ H fun x H1=>∃c,x=.bl c/\Q c H1
theorem Mn{e:Expr}{t:TE}(h:PE X e t)(he:∀whole,isTrue e X.env whole=(do let v<-whole;standAt e.pos;holding [v] (truthy v)):=by intro _;rfl):PT X e (tB t):=by
 intro pins s σ H Q I hw;refine isTrue_plain (aH (h pins s σ H _ I hw) fun v s1 ⟨x,H1,I1,r1,q1⟩=>?_) (he _);obtain⟨d,rfl,q⟩:=q1;cases r1;exact wpAny_truthy_bool ⟨H1,I1,q⟩
variable {tA tB':TT}{rest:List Expr}
def Ly(t u:TT):TT:=fun σ H Q=>t σ H fun c H1=>if c=true then u σ H1 Q else Q false H1
def Qd(t u:TT):TT:=fun σ H Q=>t σ H fun c H1=>if c=true then Q true H1 else u σ H1 Q
def Lu(t:TT):TT:=fun σ H Q=>t σ H fun c H1=>Q (!c) H1
theorem Aa(ha:PT X a tA):PW X (.BoolOp .And [a] pos) tA:=by
 intro wh pins s σ H Q I h;refine isTrue_and (aH (ha pins s σ H Q I h) fun c s1 e=>?_);cases c with
 |true=>exact isTrue_and_nil e
 |false=>exact e
theorem DT(ha:PT X a tA):PW X (.BoolOp .Or [a] pos) tA:=by
 intro wh pins s σ H Q I h;refine isTrue_or (aH (ha pins s σ H Q I h) fun c s1 e=>?_);cases c with
 |false=>exact isTrue_or_nil e
 |true=>exact e
theorem tM(ha:PT X a tA)(hb:PW X (.BoolOp .And (b::rest) pos) tB'):PW X (.BoolOp .And (a::b::rest) pos) (Ly tA tB'):=by
 intro wh pins s σ H Q I h;refine isTrue_and (aH (ha pins s σ H _ I h) fun c s1 ⟨H1,I1,q1⟩=>?_);cases c with
 |true=>exact hb wh pins s1 σ H1 Q I1 q1
 |false=>exact⟨H1,I1,q1⟩
theorem BY(ha:PT X a tA)(hb:PW X (.BoolOp .Or (b::rest) pos) tB'):PW X (.BoolOp .Or (a::b::rest) pos) (Qd tA tB'):=by
 intro wh pins s σ H Q I h;refine isTrue_or (aH (ha pins s σ H _ I h) fun c s1 ⟨H1,I1,q1⟩=>?_);cases c with
 |true=>exact⟨H1,I1,q1⟩
 |false=>exact hb wh pins s1 σ H1 Q I1 q1
theorem Mp(ha:PT X a tA):PT X (.UnaryOp .Not a pos) (Lu tA):=by
 intro pins s σ H Q I h;exact isTrue_not (aH (ha pins s σ H (fun c H1=>Q (!c) H1) I h) fun _ _ ⟨H1,I1,q1⟩=>⟨H1,I1,q1⟩)
def HV(ta tb:TE):TE:=fun σ H Q=>ta σ H fun x H1=>∃c,x=.bl c/\if c=true then tb σ H1 Q else Q (.bl false) H1
def Ls(ta tb:TE):TE:=fun σ H Q=>ta σ H fun x H1=>∃c,x=.bl c/\if c=true then Q (.bl true) H1 else tb σ H1 Q
def HP(ta:TE):TE:=fun σ H Q=>ta σ H fun x H1=>∃c,x=.bl c/\Q (.bl (!c)) H1
theorem tT{op}{t:TE}(h:PE X a t):PE X (.BoolOp op [a] pos) t:=fun pins s σ H Q I hw=>BoolOp_one (h pins s σ H Q I hw)
theorem tU(ha:PE X a ta)(hb:PE X (.BoolOp .And (b::rest) pos) tb):PE X (.BoolOp .And (a::b::rest) pos) (HV ta tb):=by
 intro pins s σ H Q I h;refine BoolOp_and (aH (ha pins s σ H _ I h) fun v s1 ⟨x,H1,I1,r1,q1⟩=>?_);obtain⟨c,rfl,q1⟩:=q1;cases r1;refine wpAny_truthy_bool ?_;cases c with
 |true=>exact hb pins s1 σ H1 Q I1 q1
 |false=>exact⟨.bl false,H1,I1,rfl,q1⟩
theorem Ih(ha:PE X a ta)(hb:PE X (.BoolOp .Or (b::rest) pos) tb):PE X (.BoolOp .Or (a::b::rest) pos) (Ls ta tb):=by
 intro pins s σ H Q I h;refine BoolOp_or (aH (ha pins s σ H _ I h) fun v s1 ⟨x,H1,I1,r1,q1⟩=>?_);obtain⟨c,rfl,q1⟩:=q1;cases r1;refine wpAny_truthy_bool ?_;cases c with
 |false=>exact hb pins s1 σ H1 Q I1 q1
 |true=>exact⟨.bl true,H1,I1,rfl,q1⟩
theorem DY(ha:PE X a ta):PE X (.UnaryOp .Not a pos) (HP ta):=by
 intro pins s σ H Q I h;refine UnaryOp_ (aH (ha pins s σ H _ I h) fun v s1 ⟨x,H1,I1,r1,q1⟩=>?_);obtain⟨c,rfl,q1⟩:=q1;cases r1;exact not_of (wpAny_truthy_bool ⟨.bl (!c),H1,I1,rfl,q1⟩)
def Qe(t:TT)(ta tb:TE):TE:=fun σ H Q=>t σ H fun c H1=>if c=true then ta σ H1 Q else tb σ H1 Q
theorem Gy{c:Expr}(hc:PT X c tA)(ha:PE X a ta)(hb:PE X b tb):PE X (.IfExp c a b pos) (Qe tA ta tb):=by
 intro pins s σ H Q I h;refine wpAny_IfExp (aH (hc pins s σ H _ I h) fun d s1 ⟨H1,I1,q1⟩=>?_);cases d with
 |true=>exact ha pins s1 σ H1 Q I1 q1
 |false=>exact hb pins s1 σ H1 Q I1 q1
end
end L2
namespace L2
open PySem PySem.Spec PyProof.Rows
def aN(K:Q_)(H:Hp)(a:Addr)(xs:List V):Prop :=
 Rd H a (.lst xs) \/
  ∃(o:Obj) (its:Array Value) (n:Nat),K.lookup a=some o/\o.cls=.type "list"/\o.dict=none/\o.data=.seq its n/\its.size<=zq/\Vals xs its.toList
def cD(K:Q_)(H:Hp)(a:Addr)(xs:List V):Prop :=
 Rd H a (.tup xs) \/
  ∃(o:Obj) (its:Array Value) (n:Nat),K.lookup a=some o/\o.cls=.type "tuple"/\o.data=.seq its n/\its.size<=zq/\Vals xs its.toList/\o.dict=none/\o.slots=#[]
def SF:Value->Option V
 |.none=>some .non
 |.bool b=>some (.bl b)
 |.int i _=>some (.int i)
 |.str x _=>some (.str x)
 |.bytes b _=>some (.byt b)
 |.float b _=>some (.flt b)
 |.ref a=>some (.ref a)
 |.type n=>some (.ty n)
 |_=>none
theorem RelV.abs{x:V}{u:Value}(r:RelV x u):SF u=some x:=by
 cases x with
 |non=>cases r;rfl
 |bl _=>cases r;rfl
 |int _=>obtain⟨t,rfl⟩:=r;rfl
 |str _=>obtain⟨t,rfl⟩:=r;rfl
 |byt _=>obtain⟨t,rfl⟩:=r;rfl
 |flt _=>obtain⟨t,rfl⟩:=r;rfl
 |ref _=>cases r;rfl
 |ty _=>cases r;rfl
theorem RelV.inj{x y:V}{u:Value}(r:RelV x u)(q:RelV y u):x=y:=Option.some.inj (r.abs.symm.trans q.abs)
theorem Vals.inj:∀{xs ys:List V} {us:List Value},Vals xs us->Vals ys us->xs=ys
 |_,_,_,.nil,.nil=>rfl
 |_,_,_,.cons r t,.cons r' t'=>by rw[r.inj r',Vals.inj t t']
section
variable {X:Cx}{pins:List (Addr×Obj)}{σ:St}{H:Hp}{s:Shared}{a:Addr}{xs ys:List V}
theorem aN.of{K:Q_}(h:H a=some (.lst xs)):aN K H a xs:=.inl (.inl h)
inductive SR (xs:List V) (h:Heap) (a:Addr):Prop
 |mk (its:List Value) (r:Vals xs its) (p:PlainL h a its.toArray) (l:xs.length<=zq)
theorem Inv.list(I:Inv X pins σ H s)(h:aN X.K H a xs):SR xs s.heap a:=by
 rcases h with h|⟨o,its,n,hk,hc,hd,hs,hz,r⟩
 ·obtain⟨z,its,n,r,e⟩:=h.ok I.ax
  exact⟨its,r,⟨_,n,e,rfl,rfl,rfl⟩,z⟩
 ·refine⟨its.toList,r,⟨o,n,I.dY a o hk,hc,hd,by simpa using hs⟩,?_⟩
  have e:=r.length;simp only[xj]at e;first|lia|omega
inductive SQ (xs:List V) (h:Heap) (a:Addr):Prop
 |mk (its:List Value) (r:Vals xs its) (p:IsTup h a its.toArray) (l:xs.length<=zq)
theorem Inv.tuple(I:Inv X pins σ H s)(h:cD X.K H a xs):SQ xs s.heap a:=by
 rcases h with h|⟨o,its,n,hk,hc,hs,hz,r,_⟩
 ·obtain⟨z,its,r,p,_⟩:=h.ok I.ax
  exact⟨its,r,p,z⟩
 ·refine⟨its.toList,r,⟨o,I.dY a o hk,hc,n,by simpa using hs⟩,?_⟩
  have e:=r.length;simp only[xj]at e;first|lia|omega
theorem Inv.qF(I:Inv X pins σ H s)(h:cD X.K H a xs):∃o,s.heap.get? a=some o/\o.dict=none/\o.slots=#[]:=by
 rcases h with h|⟨o,its,n,hk,hc,hs,hz,r,hd⟩
 ·obtain⟨z,its,r,⟨o,e,_⟩,d⟩:=h.ok I.ax
  exact⟨o,e,d o e⟩
 ·exact⟨o,I.dY a o hk,hd⟩
theorem Inv.uj(I:Inv X pins σ H s)(h:aN X.K H a xs)(h':aN X.K H a ys):xs=ys:=by
 obtain⟨its,r,⟨o,n,e,_,_,d⟩,_⟩:=I.list h;obtain⟨its',r',⟨o',n',e',_,_,d'⟩,_⟩:=I.list h';rw[e]at e';cases e';rw[d]at d';injection d' with d1 _
 have:its=its':=by simpa using congrArg wX d1
 subst this;exact r.inj r'
theorem Inv.lM(I:Inv X pins σ H s)(h:cD X.K H a xs)(h':cD X.K H a ys):xs=ys:=by
 obtain⟨its,r,⟨o,e,_,n,d⟩,_⟩:=I.tuple h;obtain⟨its',r',⟨o',e',_,n',d'⟩,_⟩:=I.tuple h';rw[e]at e';cases e';rw[d]at d';injection d' with d1 _
 have:its=its':=by simpa using congrArg wX d1
 subst this;exact r.inj r'
end
abbrev Cx.dN(X:Cx)(E:Value->Shared->Prop):Cx:={ X with xe:=E }
abbrev Cx.dX(X:Cx):Cx:=X.dN fun _ _=>False
theorem Cx.Ok.dN{X:Cx}(ok:X.Ok)(E:Value->Shared->Prop):(X.dN E).Ok :=
 ⟨ok.mod,ok.kind,ok.glob,ok.blt,ok.above,ok.inj,ok.has,ok.u0,ok.hd,ok.frames,ok.vY,ok.Jr,ok.bs,ok.lF,ok.nJ,ok.qp,ok.eU,ok.nh⟩
theorem Cx.Ok.dF{X:Cx}{E:Value->Shared->Prop}(ok:(X.dN E).Ok):X.Ok :=
 ⟨ok.mod,ok.kind,ok.glob,ok.blt,ok.above,ok.inj,ok.has,ok.u0,ok.hd,ok.frames,ok.vY,ok.Jr,ok.bs,ok.lF,ok.nJ,ok.qp,ok.eU,ok.nh⟩
section
variable {X:Cx}{pins:List (Addr×Obj)}{σ:St}{H:Hp}{s:Shared}{E:Value->Shared->Prop}
theorem Inv.dN(I:Inv X pins σ H s)(E:Value->Shared->Prop):Inv (X.dN E) pins σ H s:=⟨I.ok.dN E,I.os,I.bare,I.base,I.loc,I.cell,I.free,I.dj,I.pin,I.ax,I.len⟩
theorem Inv.dF(I:Inv (X.dN E) pins σ H s):Inv X pins σ H s:=⟨I.ok.dF,I.os,I.bare,I.base,I.loc,I.cell,I.free,I.dj,I.pin,I.ax,I.len⟩
theorem SP.dF{D:Ends}{f:Flow}{s':Shared}(h:SP (X.dN E) pins D f s'):SP X pins D f s':=by
 cases f with
 |next=>obtain⟨σ',H',I,q⟩:=h;exact⟨σ',H',I.dF,q⟩
 |brk=>obtain⟨σ',H',I,q⟩:=h;exact⟨σ',H',I.dF,q⟩
 |cont=>obtain⟨σ',H',I,q⟩:=h;exact⟨σ',H',I.dF,q⟩
 |ret u=>obtain⟨v,σ',H',I,r,q⟩:=h;exact⟨v,σ',H',I.dF,r,q⟩
theorem PE.dX{e:Expr}{t:TE}(h:PE X.dX e t):PE X e t:=fun pins s σ H Q I hw =>
 wpAny_mono (h pins s σ H Q (I.dN _) hw) (fun _ _ ⟨v,H',I',r,q⟩=>⟨v,H',I'.dF,r,q⟩) fun _ _ z=>False.elim z
theorem PT.dX{e:Expr}{t:TT}(h:PT X.dX e t):PT X e t:=fun pins s σ H Q I hw =>
 wpAny_mono (h pins s σ H Q (I.dN _) hw) (fun _ _ ⟨H',I',q⟩=>⟨H',I'.dF,q⟩) fun _ _ z=>False.elim z
theorem du.dX{st:List Stmt}{t:TS}(h:du X.dX st t):du X st t:=fun pins s σ H D I hw =>
 wpAny_mono (h pins s σ H D (I.dN _) hw) (fun _ _ q=>q.dF) fun _ _ z=>False.elim z
end
section
variable {X:Cx}{st:Stmt}{rest:List Stmt}{t u:TS}{e:Expr}{te:TE}{pos:Pos}
def HQ:TS:=fun D σ H=>D.nx σ H
def FY(t u:TS):TS:=fun D σ H=>t { D with nx:=u D } σ H
theorem mC:du X [] HQ:=fun _ _ σ H _ I h=>wpAny_execs_nil ⟨σ,H,I,h⟩
theorem cm(h1:PS X st t)(h2:du X rest u):du X (st::rest) (FY t u):=by
 intro pins s σ H D I h;refine wpAny_execs_cons (aH (h1 pins s σ H { D with nx:=u D } I h) fun f s1 q=>?_);cases f with
 |next =>
  obtain⟨σ',H',I',q⟩:=q;exact h2 pins s1 σ' H' D I' q
 |ret v=>exact q
 |brk=>exact q
 |cont=>exact q
def Lw:TS:=fun D σ H=>D.bk σ H
def OY:TS:=fun D σ H=>D.ct σ H
theorem Kh:PS X (.Pass pos) HQ:=fun _ _ σ H _ I h=>wpAny_Pass ⟨σ,H,I,h⟩
theorem Gq:PS X (.Break pos) Lw:=fun _ _ σ H _ I h=>wpAny_Break ⟨σ,H,I,h⟩
theorem vG:PS X (.Continue pos) OY:=fun _ _ σ H _ I h=>wpAny_Continue ⟨σ,H,I,h⟩
theorem Inv.quiet{pins:List (Addr×Obj)}{σ:St}{H:Hp}{s:Shared}(I:Inv X pins σ H s):interactive X.env=false:=by simp[interactive,I.ok.kind]
def HS(te:TE):TS:=fun D σ H=>te σ H fun _ H1=>D.nx σ H1
theorem mD(he:PE X e te)(hs:swapsWith e none pos.line X.env=pure false:=by rfl):PS X (.Expr e pos) (HS te):=by
 intro pins s σ H D I h;exact wpAny_Expr_any (aH (he pins s σ H _ I h) fun v s1 ⟨x,H1,I1,r1,q1⟩=>⟨σ,H1,I1,q1⟩) I.quiet hs
def Lr(te:TE):TS:=fun D σ H=>te σ H D.rt
theorem tO(he:PE X e te):PS X (.Return (some e) pos) (Lr te):=by
 intro pins s σ H D I h;exact wpAny_Return_some (aH (he pins s σ H _ I h) fun v s1 ⟨x,H1,I1,r1,q1⟩=>⟨x,σ,H1,I1,r1,q1⟩)
def OX:TS:=fun D _ H=>D.rt .non H
theorem Kg:PS X (.Return none pos) OX:=fun _ _ σ H _ I h=>wpAny_Return_none ⟨.non,σ,H,I,rfl,h⟩
def F0(c:TT)(t u:TS):TS:=fun D σ H=>c σ H fun b H1=>if b=true then t D σ H1 else u D σ H1
theorem Ig{c:Expr}{a b:List Stmt}{tc:TT}(hc:PT X c tc)(ha:du X a t)(hb:du X b u):PS X (.If c a b pos) (F0 tc t u):=by
 intro pins s σ H D I h;refine wpAny_If (aH (hc pins s σ H _ I h) fun d s1 ⟨H1,I1,q1⟩=>?_);cases d with
 |true=>exact ha pins s1 σ H1 D I1 q1
 |false=>exact hb pins s1 σ H1 D I1 q1
end
abbrev TG:=V->St->Hp->(St->Hp->Prop)->Prop
abbrev rH:=List V->St->Hp->(St->Hp->Prop)->Prop
def PG(X:Cx)(target:Expr)(t:TG):Prop :=
 ∀(pins:List (Addr×Obj)) (s:Shared) (σ:St) (H:Hp) (v:V) (u:Value) (Q:St->Hp->Prop),Inv X pins σ H s->RelV v u->t v σ H Q ->
  wpAny (model X.prog X.w) X.A (assign target X.env u) (fun _ s'=>∃σ' H',Inv X pins σ' H' s'/\Q σ' H') X.xe s
def FG(X:Cx)(ts:List Expr)(t:rH):Prop :=
 ∀(pins:List (Addr×Obj)) (s:Shared) (σ:St) (H:Hp) (vs:List V) (us:List Value) (Q:St->Hp->Prop),Inv X pins σ H s->Vals vs us->t vs σ H Q ->
  wpAny (model X.prog X.w) X.A (assignInOrder ((assignEach ts X.env).map (·.2)) us) (fun _ s'=>∃σ' H',Inv X pins σ' H' s'/\Q σ' H') X.xe s
abbrev De:=V->V->V->Hp->(Hp->Prop)->Prop
def HF(X:Cx)(t:De):Prop :=
 ∀(pins:List (Addr×Obj)) (s:Shared) (σ:St) (H:Hp) (o i v:V) (ov iv u:Value) (Q:Hp->Prop),Inv X pins σ H s->RelV o ov->RelV i iv->RelV v u->t o i v H Q ->
  wpAny (model X.prog X.w) X.A (setItem ov iv u) (fun _ s'=>∃H',Inv X pins σ H' s'/\Q H') X.xe s
section
variable {X:Cx}{pos:Pos}
def dC(i:Nat):TG:=fun v σ H Q=>Q (σ.set i (some v)) H
theorem ka{i:Nat}{x:Str}(hN:X.N.Nodup)(hi:X.N[i]?=some x)(hx:Loc X.env.scope x)(hf:X.fn x=true\/X.env.scope.names.lookup x=some .local:=by first|exact .inl rfl|exact .inr rfl|assumption):PG X (.Name x pos) (dC i):=by
 intro pins s σ H v u Q I r h;exact wpAny_assign_Name (nz I hN hi hx r (fun s' I'=>⟨_,H,I',h⟩) hf)
def uH:rH:=fun vs σ H Q=>vs=[]/\Q σ H
def jA(t:TG)(u:rH):rH:=fun vs σ H Q=>∃v r,vs=v::r/\t v σ H fun σ' H'=>u r σ' H' Q
theorem p8:FG X [] uH:=by
 intro pins s σ H vs us Q I r h;obtain⟨e,h⟩:=h;subst e;cases r;exact assignInOrder_nil ⟨σ,H,I,h⟩
theorem iV{e:Expr}{es:List Expr}{t:TG}{u:rH}(h1:PG X e t)(h2:FG X es u)
  (hs:(assignEach (e::es) X.env).map (·.2)=assign e X.env::(assignEach es X.env).map (·.2):=by rfl):FG X (e::es) (jA t u):=by
 intro pins s σ H vs us Q I r h;obtain⟨v,vr,e1,h⟩:=h;subst e1;cases r with
 |cons r rr =>
  rw[hs];refine assignInOrder_cons (aH (h1 pins s σ H _ _ _ I r h) fun _ s1 ⟨σ1,H1,I1,q1⟩=>?_);exact h2 pins s1 σ1 H1 _ _ Q I1 rr q1
def uG(K:Q_)(n:Nat)(t:rH):TG:=fun v σ H Q=>∃a xs,v=.ref a/\cD K H a xs/\xs.length=n/\t xs σ H Q
theorem tR{es:List Expr}{k:Nat}{t:rH}{n:Nat}(hc:X.calm=true)(h:FG X es t)
  (hn:(assignEach es X.env).length=n:=by rfl) (cu:(assignEach es X.env).findIdx? (·.1)=none:=by rfl):PG X (.Tuple es k pos) (uG X.K n t):=by
 intro pins s σ H v u Q I r hw;obtain⟨a,xs,e1,hq,hl,hw⟩:=hw;subst e1;cases r;obtain⟨its,rv,ht,hz⟩:=I.tuple hq;refine assign_Tuple_tuple (I.ok.hd hc) ht (by simp[hn,<- hl,rv.length]) cu fun h' hx=>?_;have I1:Inv X pins σ H { s with heap:=h' }:=I.kept (t':=s.toks) fun b o e=>hx b o (zC (zn e)) e;exact h pins _ σ H xs _ Q I1 (by simpa using rv) hw
def NX(to ti:TE)(t:De):TG:=fun v σ H Q=>to σ H fun o H1=>ti σ H1 fun i H2=>t o i v H2 fun H3=>Q σ H3
theorem MB{o i:Expr}{to ti:TE}{t:De}(ho:PE X o to)(hi:PE X i ti)(hs:HF X t)
  (ha:∀v,assign (.Subscript o i pos) X.env v=(do
   let ov<-holding [v] (eval o X.env)
   let iv<-holding [v,ov] (eval i X.env)
   standAt pos
   holding [v,ov,iv] (setItem ov iv v)
   release [v,ov,iv] []):=by intro _;rfl):PG X (.Subscript o i pos) (NX to ti t):=by
 intro pins s σ H v u Q I r h;rw[ha];refine zz (wpAny_holding (aH (ho pins s σ H _ I h) fun ov s1 ⟨x,H1,I1,r1,q1⟩=>?_));refine zz (wpAny_holding (aH (hi pins s1 σ H1 _ I1 q1) fun iv s2 ⟨y,H2,I2,r2,q2⟩=>?_));refine zz (wpAny_standAt (zz (wpAny_holding (aH (hs pins s2 σ H2 x y v ov iv u _ I2 r1 r2 r q2) fun _ s3 ⟨H3,I3,q3⟩=>?_))));exact wpAny_release ⟨σ,H3,I3,q3⟩
def sS(te:TE)(g:TG):TS:=fun D σ H=>te σ H fun x H1=>g x σ H1 D.nx
theorem Ms{tg e:Expr}{te:TE}{g:TG}(he:PE X e te)(hg:PG X tg g)(hs:swapsWithSole [tg] e pos.line X.env=pure false:=by rfl)(hw:swappedStores [tg] e X.env=pure none:=by rfl)
  (h1:(assignEach [tg] X.env).map (·.2)=[assign tg X.env]:=by rfl):PS X (.Assign [tg] e pos) (sS te g):=by
 intro pins s σ H D I h;refine wpAny_Assign_stores (aH (he pins s σ H _ I h) fun v s1 ⟨x,H1,I1,r1,q1⟩=>?_) hs hw;rw[h1];exact aH (hg pins s1 σ H1 x v _ I1 r1 q1) fun _ s2 ⟨a,b,c,d⟩=>⟨a,b,c,d⟩
theorem ik{i:Nat}{x:Str}{e:Expr}{te:TE}{pos':Pos}(hN:X.N.Nodup)(hi:X.N[i]?=some x)(hx:Loc X.env.scope x)(he:PE X e te)(hs:swapsWith e (some (.Name x pos')) pos.line X.env=pure false:=by rfl)(hf:X.fn x=true\/X.env.scope.names.lookup x=some .local:=by first|exact .inl rfl|exact .inr rfl|assumption) :
  PS X (.Assign [.Name x pos'] e pos) (sS te (dC i)):=by
 intro pins s σ H D I h;refine wpAny_Assign_Name (aH (he pins s σ H _ I h) fun v s1 ⟨y,H1,I1,r1,q1⟩=>?_) hs;exact nz I1 hN hi hx r1 (fun s2 I2=>⟨_,H1,I2,q1⟩) hf
end
section
variable {X:Cx}{pos:Pos}
def Dy(c:TT)(tb:TS):TS:=fun D σ H=>∃W:Nat->St->Hp->Prop,(∃m,W m σ H)/\∀m σ H,W m σ H ->
 c σ H fun b H1=>if b=true then ∃N:St->Hp->Prop,(∀σ' H',N σ' H'->∃m',m'<m/\W m' σ' H')/\tb { D with nx:=N,ct:=N,bk:=D.nx } σ H1 else D.nx σ H1
theorem Gn{c:Expr}{body:List Stmt}{tc:TT}{tb:TS}(hp:PassesOwn (model X.prog X.w) X.A X.env X.xe)(hc:PT X c tc)(hb:du X body tb):PS X (.While c body [] pos) (Dy tc tb):=by
 intro pins s σ H D I h;obtain⟨W,⟨m0,w0⟩,turn⟩:=h;refine wpAny_While (codeAny_whileLoop (fun n s'=>∃σ' H',Inv X pins σ' H' s'/\W n σ' H') ?_ m0 ⟨σ,H,I,w0⟩);rintro n s1 ⟨σ1,H1,I1,w1⟩;refine wpAny_passesOwn hp (aH (hc pins s1 σ1 H1 _ I1 (turn n σ1 H1 w1)) fun b s2 ⟨H2,I2,q2⟩=>?_);cases b with
 |true =>
  obtain⟨N,hN,q2⟩:=q2;rw[if_pos rfl];refine wpAny_passesOwn hp (aH (hb pins s2 σ1 H2 _ I2 q2) fun f s3 q3=>?_);cases f with
  |next =>
   obtain⟨σ3,H3,I3,n3⟩:=q3;obtain⟨m',hm,w3⟩:=hN σ3 H3 n3;exact⟨m',hm,σ3,H3,I3,w3⟩
  |cont =>
   obtain⟨σ3,H3,I3,n3⟩:=q3;obtain⟨m',hm,w3⟩:=hN σ3 H3 n3;exact⟨m',hm,σ3,H3,I3,w3⟩
  |brk=>exact q3
  |ret v=>exact q3
 |false =>
  rw[if_neg zu];exact wpAny_execs_nil ⟨σ1,H2,I2,q2⟩
end
structure It where
 go:Nat->Hp->Prop
 jf:Nat->Hp->V->Hp->Prop
 stop:Nat->Hp->Prop
def fG(X:Cx)(pins:List (Addr×Obj))(H:Hp)(b:Addr):Prop :=
 H b=none/\b≠X.env.locals/\b ∉ X.fs/\(b∈X.ex\/X.s₀.heap.objs.size<=b)/\(∀x c,X.env.cells.lookup x=some c->c≠b)/\∀p∈X.pn++pins,p.1≠b
theorem Inv.nS{X:Cx}{pins:List (Addr×Obj)}{σ:St}{H H':Hp}{s:Shared}{b:Addr}(I:Inv X pins σ H s)(hb:s.heap.objs.size<=b)(hn:H' b=none):fG X pins H' b:=by
 refine⟨hn,zI (zj I.lt hb),I.RS hb,.inr (zN I.sz hb),fun x c e z=>?_,fun p hp z=>?_⟩
 ·obtain⟨v,q⟩:=I.cell x c e
  exact absurd (zj q.lt (by rw[z];exact hb)) (yu _)
 ·exact absurd (zj (zn (I.pin p hp).1) (by rw[z];exact hb)) (yu _)
structure Turn (P:Program) (w:World) (K:Q_) (tg:Expr) (J:It) (fp:List Addr) (it:Addr) (tn:Nat->Heap->Prop):Prop where
 mem:it∈fp
 obj:∀i h,tn i h->∀b∈fp,∃o,h.get? b=some o/\∀v,o.data≠.cell v
 keep:∀i h h',tn i h->(∀b∈fp,∀o,h.get? b=some o->h'.get? b=some o)->tn i h'
 item:∀(X:Cx),X.prog=P->X.w=w->X.K=K->X.calm=true->∀(i:Nat) (pins:List (Addr×Obj)) (s:Shared) (σ:St) (H:Hp) (E:Value->Shared->Prop),Inv X pins σ H s->(∀b∈fp,fG X pins H b)->tn i s.heap->J.go i H ->
  wpAny (model P w) X.A (pyNext (.ref it)) (fun r s1=>∃u,r=some u /\
   wpAny (model P w) X.A (letOwnedTupleGo tg (.ref it) u) (fun _ s2=>∃x H',Inv X pins σ H' s2/\RelV x u/\J.jf i H x H'/\tn (i+1) s2.heap/\∀b∈fp,H' b=none) E s1) E s
 done:∀(X:Cx),X.prog=P->X.w=w->X.K=K->X.calm=true->∀(i:Nat) (pins:List (Addr×Obj)) (s:Shared) (σ:St) (H:Hp) (E:Value->Shared->Prop),Inv X pins σ H s->(∀b∈fp,fG X pins H b)->tn i s.heap->J.stop i H ->
  wpAny (model P w) X.A (pyNext (.ref it)) (fun r s1=>r=none/\Inv X pins σ H s1) E s
 self:∀(A:Around) (i:Nat) (s:Shared) (Q:Value->Shared->Prop) (E:Value->Shared->Prop),tn i s.heap->Q (.ref it) s->wpAny (model P w) A (pyIter (.ref it)) Q E s
abbrev TI:=St->Hp->(It->Hp->Prop)->Prop
def Rf(X:Cx)(pins:List (Addr×Obj))(σ:St)(tg:Expr)(R:It->Hp->Prop)(Iy:Value)(s2:Shared):Prop :=
 ∃(it:Addr) (fp:List Addr) (tn:Nat->Heap->Prop) (J:It) (H':Hp),Iy=.ref it/\Inv X pins σ H' s2/\Turn X.prog X.w X.K tg J fp it tn/\tn 0 s2.heap/\(∀b∈fp,fG X pins H' b)/\R J H'
def PI(X:Cx)(tg iter:Expr)(wi:TI):Prop :=
 ∀(pins:List (Addr×Obj)) (s:Shared) (σ:St) (H:Hp) (R:It->Hp->Prop),Inv X pins σ H s->wi σ H R ->
  wpAny (model X.prog X.w) X.A (eval iter X.env) (fun v s1=>wpAny (model X.prog X.w) X.A (pyIter v) (Rf X pins σ tg R) X.xe s1) X.xe s
theorem pq{M:Model}{A:Around}{E:Value->Shared->Prop}{s:Shared}{tg:Expr}{it:Addr}{u:Value}{o:Obj}{n:String}{vs:Array Value}{Q:Unit->Shared->Prop}(ho:s.heap.get? it=some o)(hc:o.cls=.type n)(hd:o.data=.fields vs)
  (hn:["enumerate","zip","dict_itemiterator","dict_reverseitemiterator","odict_iterator","itertools.zip_longest","itertools.pairwise"].contains n=false) (hQ:Q () s):wpAny M A (letOwnedTupleGo tg (.ref it) u) Q E s:=by
 unfold letOwnedTupleGo;cases tg <;> first
  |exact zt hQ
  | (cases u <;> first
    |exact zt hQ
    | (refine zz (wpAny_load ho ?_)
       rw[hc,hd];show wpAny M A (if (["enumerate","zip","dict_itemiterator","dict_reverseitemiterator","odict_iterator","itertools.zip_longest","itertools.pairwise"].contains n&&vs[0]?==some (rawInt _))=true then _ else _) Q E s;rw[if_neg (by intro h;rw[hn,xZ]at h;cases h)];exact zt hQ))
def Rk(K:Q_)(a:Addr):It :=
 ⟨fun i H=>∃xs x,aN K H a xs/\xs[i]?=some x,fun i H x H'=>H'=H/\∀xs,aN K H a xs->xs[i]?=some x,fun i H=>∃xs,aN K H a xs/\xs.length<=i⟩
def Ri(K:Q_)(a:Addr):It :=
 ⟨fun i H=>∃xs x,cD K H a xs/\xs[i]?=some x,fun i H x H'=>H'=H/\∀xs,cD K H a xs->xs[i]?=some x,fun i H=>∃xs,cD K H a xs/\xs.length<=i⟩
def rJ(lo:Int)(n:Nat):It:=⟨fun i _=>i<n,fun i H x H'=>H'=H/\x=.int (lo+i),fun i _=>n<=i⟩
theorem Dw{P:Program}{w:World}{K:Q_}{tg:Expr}(a it:Addr):Turn P w K tg (Rk K a) [it] it (fun i h=>h.IsListIter it a i) where
 mem:=by simp
 obj:=fun i h st b hb=>by
  have e:b=it:=by simpa using hb
  subst e;obtain⟨o,e,c,d⟩:=st;exact⟨o,e,fun v z=>by rw[d]at z;cases z⟩
 keep:=fun i h h' st k=>st.at fun o e=>k it (by simp) o e
 item:=by
  intro X hP hw hK hc i pins s σ H E I hf st hg;subst hP hw hK;obtain⟨xs,x,hq,hx⟩:=hg;obtain⟨its,rv,p,hz⟩:=I.list hq;obtain⟨u,hu,ru⟩:=rv.get hx;obtain⟨f0,f1,f2,f3,f4,f5⟩:=hf it (by simp);refine wpAny_pyNext_list_item st p.isList (x:=u) (by simpa using hu) fun h' st' sb=>?_;have I1:Inv X pins σ H { s with heap:=h' }:=I.turned (t':=s.toks) (fun b o hb e=>(sb.2 b hb).trans e) f0 f1 f3 f4 f5;obtain⟨o,e,c,d⟩:=id st';exact⟨u,rfl,pq (s:={ s with heap:=h' }) e c d (by decide) ⟨x,H,I1,ru,⟨rfl,fun ys hy=>by rw[I.uj hy hq];exact hx⟩,st',fun b hb=>(hf b hb).1⟩⟩
 done:=by
  intro X hP hw hK hc i pins s σ H E I hf st hg;subst hP hw hK;obtain⟨xs,hq,hx⟩:=hg;obtain⟨its,rv,p,hz⟩:=I.list hq;obtain⟨f0,f1,f2,f3,f4,f5⟩:=hf it (by simp);have hl:=rv.length;exact wpAny_pyNext_list_end (I.ok.hd hc) st p.isList (by simp;omega) fun h' eb=>⟨rfl,I.turned (t':=s.toks) (fun b o hb e=>eb b o hb e) f0 f1 f3 f4 f5⟩
 self:=fun _ _ _ _ _ st h=>wpAny_pyIter_listiter st h
theorem A5{P:Program}{w:World}{K:Q_}{tg:Expr}(a it:Addr):Turn P w K tg (Ri K a) [it] it (fun i h=>h.IsTupleIter it a i) where
 mem:=by simp
 obj:=fun i h st b hb=>by
  have e:b=it:=by simpa using hb
  subst e;obtain⟨o,e,c,d⟩:=st;exact⟨o,e,fun v z=>by rw[d]at z;cases z⟩
 keep:=fun i h h' st k=>st.at fun o e=>k it (by simp) o e
 item:=by
  intro X hP hw hK hc i pins s σ H E I hf st hg;subst hP hw hK;obtain⟨xs,x,hq,hx⟩:=hg;obtain⟨its,rv,p,hz⟩:=I.tuple hq;obtain⟨u,hu,ru⟩:=rv.get hx;obtain⟨f0,f1,f2,f3,f4,f5⟩:=hf it (by simp);refine wpAny_pyNext_tuple_item st (show s.heap.IsTuple a its.toArray from p) (x:=u) (by simpa using hu) fun h' st' sb=>?_;have I1:Inv X pins σ H { s with heap:=h' }:=I.turned (t':=s.toks) (fun b o hb e=>(sb.2 b hb).trans e) f0 f1 f3 f4 f5;obtain⟨o,e,c,d⟩:=id st';exact⟨u,rfl,pq (s:={ s with heap:=h' }) e c d (by decide) ⟨x,H,I1,ru,⟨rfl,fun ys hy=>by rw[I.lM hy hq];exact hx⟩,st',fun b hb=>(hf b hb).1⟩⟩
 done:=by
  intro X hP hw hK hc i pins s σ H E I hf st hg;subst hP hw hK;obtain⟨xs,hq,hx⟩:=hg;obtain⟨its,rv,p,hz⟩:=I.tuple hq;obtain⟨f0,f1,f2,f3,f4,f5⟩:=hf it (by simp);have hl:=rv.length;exact wpAny_pyNext_tuple_end (I.ok.hd hc) st (show s.heap.IsTuple a its.toArray from p) (by simp;omega) fun h' eb=>⟨rfl,I.turned (t':=s.toks) (fun b o hb e=>eb b o hb e) f0 f1 f3 f4 f5⟩
 self:=fun _ _ _ _ _ st h=>wpAny_pyIter_tupleiter st h
theorem A6{P:Program}{w:World}{K:Q_}{tg:Expr}(it:Addr)(lo:Int)(n:Nat):Turn P w K tg (rJ lo n) [it] it (fun i h=>IsRangeIter h it (lo+(i:Nat)*1) ((n:Int)-(i:Nat)) 1) where
 mem:=by simp
 obj:=fun i h st b hb=>by
  have e:b=it:=by simpa using hb
  subst e;exact⟨_,st,fun v z=>by
   have z':Data.fields _=Data.cell v:=z;cases z'⟩
 keep:=fun i h h' st k=>k it (by simp) _ st
 item:=by
  intro X hP hw hK hc i pins s σ H E I hf st hg;subst hP hw hK;obtain⟨f0,f1,f2,f3,f4,f5⟩:=hf it (by simp);have W:=Walks.range (prog:=X.prog) (w:=X.w) (I.ok.hd hc) it lo 1 n;refine W.item i s _ _ hg st fun v h' tk hv st' kk=>?_;obtain⟨t,rfl⟩:=hv;have I1:Inv X pins σ H { s with heap:=h',toks:=tk }:=I.turned (fun b o hb e=>kk b o (by simpa using hb) e) f0 f1 f3 f4 f5;refine⟨_,rfl,pq (s:={ s with heap:=h',toks:=tk }) (n:="range_iterator") st' rfl rfl (by decide) ⟨.int (lo+i),H,I1,⟨t,?_⟩,⟨rfl,rfl⟩,st',fun b hb=>(hf b hb).1⟩⟩;rw[vv]
 done:=by
  intro X hP hw hK hc i pins s σ H E I hf st hg;subst hP hw hK;obtain⟨f0,f1,f2,f3,f4,f5⟩:=hf it (by simp);exact wpAny_pyNext_range_end (I.ok.hd hc) st (by have:n<=i:=hg;omega) fun h' eb=>⟨rfl,I.turned (t':=s.toks) (fun b o hb e=>eb b o hb e) f0 f1 f3 f4 f5⟩
 self:=fun _ _ _ _ _ st h=>wpAny_pyIter_rangeiter st h
end L2
namespace L2
open PySem PySem.Spec PyProof.Rows
section
variable {X:Cx}{tg:Expr}
theorem tF{pins:List (Addr×Obj)}{σ:St}{H:Hp}{s:Shared}{R:It->Hp->Prop}{E:Value->Shared->Prop}{lo hi:Int}{t u v:Tok}{tk:Nat}(I:Inv X pins σ H s)(h1:-(2 ^ 62)<=lo)(h2:lo<2 ^ 62)(h3:-(2 ^ 62)<=hi)(h4:hi<2 ^ 62)
  (q:R (rJ lo (hi-lo).toNat) H):wpAny (model X.prog X.w) X.A (pyIter (.ref s.heap.objs.size)) (Rf X pins σ tg R) E { s with heap:=s.heap.push { cls:=.type "range",data:=.fields #[.int lo t,.int hi u,.int 1 v] },toks:=tk }:=by
 refine wpAny_pyIter_range (IsRange.new ..) (small_one h1 h2 h3 h4) ?_;have I1:Inv X pins σ H { s with heap:=s.heap.push { cls:=.type "range",data:=.fields #[.int lo t,.int hi u,.int 1 v] },toks:=tk }:=I.kept fun b o e=>zy _ e;refine⟨(s.heap.push { cls:=.type "range",data:=.fields #[.int lo t,.int hi u,.int 1 v] }).objs.size,[(s.heap.push { cls:=.type "range",data:=.fields #[.int lo t,.int hi u,.int 1 v] }).objs.size],_,_,H,rfl,
  I1.kept (t':=tk) fun b o e=>zy _ e,A6 _ lo (hi-lo).toNat,?_,fun b hb=>?_,q⟩
 ·have e1:lo+((0:Nat):Int)*1=lo:=by simp
  have e2:(((hi-lo).toNat:Nat):Int)-((0:Nat):Int)=Builtin.Range.rangeSize lo hi 1:=by rw[rangeSize_one];split <;> omega
  show IsRangeIter _ _ (lo+((0:Nat):Int)*1) ((((hi-lo).toNat:Nat):Int)-((0:Nat):Int)) 1;rw[e1,e2];exact zk _ rfl
 ·have e:b=(s.heap.push { cls:=.type "range",data:=.fields #[.int lo t,.int hi u,.int 1 v] }).objs.size:=by simpa using hb
  subst e;exact I1.nS (zp _) (I1.ax.fresh (zp _))
def II(ta:TA):TI:=fun σ H R=>ta σ H fun vs H1=>∃j:Int,vs=[.int j]/\-(2 ^ 62)<=j/\j<2 ^ 62/\R (rJ 0 j.toNat) H1
def IH(ta:TA):TI:=fun σ H R=>ta σ H fun vs H1=>∃i j:Int,vs=[.int i,.int j]/\(-(2 ^ 62)<=i/\i<2 ^ 62/\-(2 ^ 62)<=j/\j<2 ^ 62)/\R (rJ i (j-i).toNat) H1
theorem DX{a:Expr}{ta:TA}{p pos:Pos}(hg:Gl X "range")(hm:X.mg "range" = none)(ha:PA X [a] ta)(hs:starEach [a] X.env=[(false,eval a X.env)]:=by rfl):PI X tg (.Call (.Name "range" p) [a] [] pos) (II ta):=by
 intro pins s σ H R I h;refine Call_ (iu I hg hm boot_range (q_ (aH (ha pos pins s σ H _ I h) fun us s1 ⟨vs,H1,I1,r1,q1⟩=>?_) hs rfl));obtain⟨j,e,q1,q2,q⟩:=q1;subst e;cases r1 with
 |cons r rr =>
  cases rr;obtain⟨t,rfl⟩:=r;exact call_range_1 (tF I1 (by first|lia|omega) (by first|lia|omega) q1 q2 (by simpa using q))
theorem DW{a b:Expr}{ta:TA}{p pos:Pos}(hg:Gl X "range")(hm:X.mg "range" = none)(ha:PA X [a,b] ta)(hs:starEach [a,b] X.env=[(false,eval a X.env),(false,eval b X.env)]:=by rfl)(gN:starEach [b] X.env=[(false,eval b X.env)]:=by rfl) :
  PI X tg (.Call (.Name "range" p) [a,b] [] pos) (IH ta):=by
 intro pins s σ H R I h;refine Call_ (iu I hg hm boot_range (q_ (aH (ha pos pins s σ H _ I h) fun us s1 ⟨vs,H1,I1,r1,q1⟩=>?_) (by rw[hs,gN]) (by rw[gN];rfl)));obtain⟨i,j,e,⟨q1,q2,q3,q4⟩,q⟩:=q1;subst e;cases r1 with
 |cons r rr =>
  cases rr with
  |cons r' rr =>
   cases rr;obtain⟨t,rfl⟩:=r;obtain⟨t',rfl⟩:=r';exact call_range_2 (tF I1 q1 q2 q3 q4 q)
def Bb(wi:TI)(g:TG)(tb:TS):TS:=fun D σ H=>wi σ H fun J H1=>∃W:Nat->Nat->St->Hp->Prop,(∃m,W 0 m σ H1)/\∀i m σ H,W i m σ H ->
 (J.stop i H/\D.nx σ H)\/(J.go i H/\∃N:St->Hp->Prop,(∀σ' H',N σ' H'->∃m',m'<m/\W (i+1) m' σ' H')/\∀x H',J.jf i H x H'->g x σ H' fun σ2 H2=>tb { D with nx:=N,ct:=N,bk:=D.nx } σ2 H2)
def lS(fp:List Addr)(h:Heap):List (Addr×Obj):=fp.filterMap fun b=>(h.get? b).map fun o=>(b,o)
theorem iH{fp:List Addr}{h:Heap}{b:Addr}{o:Obj}(hb:b∈fp)(e:h.get? b=some o):(b,o)∈lS fp h:=wq.mpr ⟨b,hb,by rw[e];rfl⟩
theorem D5{fp:List Addr}{h:Heap}{p:Addr×Obj}(hp:p∈lS fp h):p.1∈fp/\h.get? p.1=some p.2:=by
 obtain⟨b,hb,e⟩:=wq.mp hp;cases q:h.get? b with
 |none=>rw[q]at e;cases e
 |some o =>
  rw[q]at e;have e':(b,o)=p:=Option.some.inj e;subst e';exact⟨hb,q⟩
theorem Inv.pinned{pins:List (Addr×Obj)}{σ:St}{H:Hp}{s:Shared}{fp:List Addr}(I:Inv X pins σ H s)(hf:∀b∈fp,fG X pins H b)(ho:∀b∈fp,∃o,s.heap.get? b=some o/\∀v,o.data≠.cell v):Inv X (pins++lS fp s.heap) σ H s :=
 I.p7 fun p hp=>(yx.mp hp).elim (fun z=>I.pin p (zE _ z)) fun z=>by
  obtain⟨hb,e⟩:=D5 z;obtain⟨f0,f1,f2,_⟩:=hf p.1 hb;obtain⟨o,e',d⟩:=ho p.1 hb;rw[e]at e';cases e';exact⟨e,f0,f1,f2,d⟩
theorem Inv.gR{pins pl:List (Addr×Obj)}{σ:St}{H:Hp}{s:Shared}(I:Inv X (pins++pl) σ H s):Inv X pins σ H s:=I.p7 fun p hp=>I.pin p (zE _ (zQ _ hp))
theorem tP{iter:Expr}{body:List Stmt}{wi:TI}{g:TG}{tb:TS}{pos:Pos}(hp:PassesOwn (model X.prog X.w) X.A X.env X.xe)(hc:X.calm=true)(hi:PI X tg iter wi)(hg:PG X tg g)(hb:du X body tb)
  (hs:∀x,foldedSetIterable iter X.env x=pure x:=by intro _;rfl):PS X (.For tg iter body [] pos) (Bb wi g tb):=by
 intro pins s σ H D I h;refine wpAny_For (aH (hi pins s σ H _ I h) fun v s1 h1=>aH h1 fun Iy s2 h2=>?_) hs;obtain⟨it,fp,tn,J,H2,e,I2,T,st2,f2,W,⟨m0,w0⟩,turn⟩:=h2;subst e;have stat:∀{H':Hp},(∀b∈fp,H' b=none)->∀b∈fp,fG X pins H' b:=fun hn b hb=>⟨hn b hb,(f2 b hb).2⟩;refine codeAny_forLoop_any (fun n s'=>∃i σ' H',Inv X pins σ' H' s'/\tn i s'.heap/\(∀b∈fp,H' b=none)/\W i n σ' H') ?_ m0 ⟨0,σ,H2,I2,st2,fun b hb=>(f2 b hb).1,w0⟩;rintro n s3 ⟨i,σ3,H3,I3,Qg,QZ,w3⟩;rcases turn i n σ3 H3 w3 with ⟨stop,qn⟩|⟨go,N,hN,step⟩
 ·refine wpAny_passesOwn hp (aH (T.done X rfl rfl rfl hc i pins s3 σ3 H3 X.xe I3 (stat QZ) Qg stop) fun r s4 ⟨hr,I4⟩=>?_)
  subst hr;exact wpAny_execs_nil ⟨σ3,H3,I4,qn⟩
 ·refine wpAny_passesOwn hp (aH (T.item X rfl rfl rfl hc i pins s3 σ3 H3 X.xe I3 (stat QZ) Qg go) fun r s4 ⟨u,hr,h4⟩=>?_)
  subst hr;refine wpAny_passesOwn hp (aH h4 fun _ s5 ⟨x,H5,I5,r5,y5,LC,Wr⟩=>?_);have I5':=I5.pinned (stat Wr) (T.obj _ _ LC);refine wpAny_passesOwn hp (aH (hg _ s5 σ3 H5 x u _ I5' r5 (step x H5 y5)) fun _ s6 ⟨σ6,H6,I6,q6⟩=>?_);refine wpAny_passesOwn hp (aH (hb _ s6 σ6 H6 _ I6 q6) fun f s7 q7=>?_);have again:∀{σ7:St} {H7:Hp},Inv X (pins++lS fp s5.heap) σ7 H7 s7->N σ7 H7->∃m,m<n/\∃i σ' H',Inv X pins σ' H' s7/\tn i s7.heap/\(∀b∈fp,H' b=none)/\W i m σ' H':=fun {σ7 H7} I7 n7=>by
   obtain⟨m',hm,w7⟩:=hN σ7 H7 n7;refine⟨m',hm,i+1,σ7,H7,I7.gR,T.keep _ _ _ LC fun b hb o e=>(I7.pin (b,o) (zE _ (zE _ (iH hb e)))).1,fun b hb=>?_,w7⟩;obtain⟨o,e,d⟩:=T.obj _ _ LC b hb;exact(I7.pin (b,o) (zE _ (zE _ (iH hb e)))).2.1
  cases f with
  |next=>obtain⟨σ7,H7,I7,n7⟩:=q7;exact again I7 n7
  |cont=>obtain⟨σ7,H7,I7,n7⟩:=q7;exact again I7 n7
  |brk=>obtain⟨σ7,H7,I7,q7⟩:=q7;exact⟨σ7,H7,I7.gR,q7⟩
  |ret v=>obtain⟨x7,σ7,H7,I7,r7,q7⟩:=q7;exact⟨x7,σ7,H7,I7.gR,r7,q7⟩
end
end L2
namespace L2
open PySem PySem.Spec PyProof.Rows
abbrev R2:=V->V->Hp->VK->Prop
def cQ(X:Cx)(f:Value->Value->Sem Value)(r:R2):Prop :=
 ∀(pins:List (Addr×Obj)) (s:Shared) (σ:St) (H:Hp) (x y:V) (v u:Value) (Q:VK),Inv X pins σ H s->RelV x v->RelV y u->r x y H Q ->
  wpAny (model X.prog X.w) X.A (f v u) (EP X pins σ Q) X.xe s
def Ot(X:Cx)(f:Value->Sem Value)(r:V->Hp->VK->Prop):Prop :=
 ∀(pins:List (Addr×Obj)) (s:Shared) (σ:St) (H:Hp) (x:V) (v:Value) (Q:VK),Inv X pins σ H s->RelV x v->r x H Q ->
  wpAny (model X.prog X.w) X.A (f v) (EP X pins σ Q) X.xe s
def cI(X:Cx)(f:Value)(r:List V->Hp->VK->Prop):Prop :=
 ∀(pins:List (Addr×Obj)) (s:Shared) (σ:St) (H:Hp) (xs:List V) (us:List Value) (Q:VK),Inv X pins σ H s->Vals xs us->r xs H Q ->
  wpAny (model X.prog X.w) X.A (call f us) (EP X pins σ Q) X.xe s
def Ou(X:Cx)(r:V->Hp->(Bool->Hp->Prop)->Prop):Prop :=
 ∀(pins:List (Addr×Obj)) (s:Shared) (σ:St) (H:Hp) (x:V) (v:Value) (Q:Bool->Hp->Prop),Inv X pins σ H s->RelV x v->r x H Q ->
  wpAny (model X.prog X.w) X.A (truthy v) (TP X pins σ Q) X.xe s
def lq(r:R2)(ta tb:TE):TE:=fun σ H Q=>ta σ H fun x H1=>tb σ H1 fun y H2=>r x y H2 Q
def Qb(r:V->Hp->VK->Prop)(ta:TE):TE:=fun σ H Q=>ta σ H fun x H1=>r x H1 Q
def rI(C:Int->Int->Prop)(g:Int->Int->V):R2:=fun x y H Q=>∃i j,x=.int i/\y=.int j/\C i j/\Q (g i j) H
def qM(g:Int->Int->V):R2:=fun x y H Q=>∃i j,x=.int i/\y=.int j/\Q (g i j) H
def rU(g:Int->V):V->Hp->VK->Prop:=fun x H Q=>∃i,x=.int i/\Q (g i) H
section
variable {X:Cx}{a b c:Expr}{ta tb tc:TE}{pos:Pos}
theorem Hz(ha:PE X a ta)(hb:PE X b tb){pins:List (Addr×Obj)}{s:Shared}{σ:St}{H:Hp}{R:V->V->Hp->Prop}(I:Inv X pins σ H s)
  (h:ta σ H fun x H1=>tb σ H1 fun y H2=>R x y H2) {Q:Value->Shared->Prop} {f:Value->Value->Sem Value}
  (hf:∀v u s2 x y H2,Inv X pins σ H2 s2->RelV x v->RelV y u->R x y H2->wpAny (model X.prog X.w) X.A (f v u) Q X.xe s2) :
  wpAny (model X.prog X.w) X.A (eval a X.env) (fun v s₁=>wpAny (model X.prog X.w) X.A (eval b X.env) (fun u s₂=>wpAny (model X.prog X.w) X.A (f v u) Q X.xe s₂) X.xe s₁) X.xe s:=by
 refine aH (ha pins s σ H _ I h) fun v s1 ⟨x,H1,I1,r1,q1⟩=>?_;refine aH (hb pins s1 σ H1 _ I1 q1) fun u s2 ⟨y,H2,I2,r2,q2⟩=>?_;exact hf v u s2 x y H2 I2 r1 r2 q2
theorem Pc{op:Operator}{r:R2}(ho:cQ X (binaryOp op) r)(ha:PE X a ta)(hb:PE X b tb):PE X (.BinOp a op b pos) (lq r ta tb):=by
 intro pins s σ H Q I h;exact wpAny_BinOp (Hz ha hb I h fun v u s2 x y H2 I2 rx ry q=>ho pins s2 σ H2 x y v u Q I2 rx ry q)
theorem Pb{op:UnaryOp}{r:V->Hp->VK->Prop}(ho:Ot X (unaryOp op) r)(ha:PE X a ta):PE X (.UnaryOp op a pos) (Qb r ta):=by
 intro pins s σ H Q I h;exact UnaryOp_ (aH (ha pins s σ H _ I h) fun v s1 ⟨x,H1,I1,r1,q1⟩=>ho pins s1 σ H1 x v Q I1 r1 q1)
theorem Il{f:Value->Value->Sem Value}{C:Int->Int->Prop}{g:Int->Int->Int}
  (rule:∀(i j:Int) (t u:Tok) (s:Shared) (Q:Value->Shared->Prop) (E:Value->Shared->Prop),C i j->Q (.int (g i j) s.toks) { s with toks:=s.toks+1 }->wpAny (model X.prog X.w) X.A (f (.int i t) (.int j u)) Q E s) :
  cQ X f (rI C fun i j=>.int (g i j)):=by
 intro pins s σ H x y v u Q I rx ry h;obtain⟨i,j,rfl,rfl,hc,q⟩:=h;obtain⟨t,rfl⟩:=rx;obtain⟨t',rfl⟩:=ry;exact rule i j t t' s _ _ hc ⟨.int (g i j),H,I.tok _,⟨_,rfl⟩,q⟩
theorem MR{f:Value->Value->Sem Value}{g:Int->Int->Int}
  (rule:∀(i j:Int) (t u:Tok) (s:Shared) (Q:Value->Shared->Prop) (E:Value->Shared->Prop),Q (.int (g i j) s.toks) { s with toks:=s.toks+1 }->wpAny (model X.prog X.w) X.A (f (.int i t) (.int j u)) Q E s) :
  cQ X f (qM fun i j=>.int (g i j)):=by
 intro pins s σ H x y v u Q I rx ry h;obtain⟨i,j,rfl,rfl,q⟩:=h;obtain⟨t,rfl⟩:=rx;obtain⟨t',rfl⟩:=ry;exact rule i j t t' s _ _ ⟨.int (g i j),H,I.tok _,⟨_,rfl⟩,q⟩
theorem Cb{f:Value->Value->Sem Value}{g:Int->Int->Bool}
  (rule:∀(i j:Int) (t u:Tok) (s:Shared) (Q:Value->Shared->Prop) (E:Value->Shared->Prop),Q (.bool (g i j)) s->wpAny (model X.prog X.w) X.A (f (.int i t) (.int j u)) Q E s) :
  cQ X f (qM fun i j=>.bl (g i j)):=by
 intro pins s σ H x y v u Q I rx ry h;obtain⟨i,j,rfl,rfl,q⟩:=h;obtain⟨t,rfl⟩:=rx;obtain⟨t',rfl⟩:=ry;exact rule i j t t' s _ _ ⟨.bl (g i j),H,I,rfl,q⟩
def SV(i j:Int):Prop:=0<j/\j<1073741824
def SU(i j:Int):Prop:=0<=j/\j<=1000000/\i.natAbs<2 ^ 64
def HG(i j:Int):Prop:=(-(2 ^ 64)<i/\i<2 ^ 64)\/(-(2 ^ 64)<j/\j<2 ^ 64)
theorem HG.ok{i j:Int}(h:HG i j):IntMulOk i j:=by
 rcases h with ⟨h1,h2⟩|⟨h1,h2⟩
 ·exact .of_left (intBits_le_64 h1 h2)
 ·exact .of_right (intBits_le_64 h1 h2)
theorem MQ:cQ X (binaryOp .Add) (qM fun i j=>.int (i+j)):=MR fun _ _ _ _ _ _ _ q=>add_int q
theorem MI:cQ X (binaryOp .Sub) (qM fun i j=>.int (i-j)):=MR fun _ _ _ _ _ _ _ q=>sub_int q
theorem MK:cQ X (binaryOp .Mult) (rI HG fun i j=>.int (i*j)):=Il fun _ _ _ _ _ _ _ hc q=>mul_int q hc.ok
theorem Kr:cQ X (binaryOp .FloorDiv) (rI SV fun i j=>.int (i / j)):=Il fun i j _ _ _ _ _ hc q=>by
 have h1:(0:Int)<j:=hc.1;have h2:j<1073741824:=hc.2;exact floordiv_int (by first|lia|omega) (by rw[Int.fdiv_eq_ediv_of_nonneg i (by first|lia|omega)];exact q) (.inl (PyProof.noPylong_small (by first|lia|omega)))
theorem ML:cQ X (binaryOp .Mod) (rI (fun _ j=>0<j) fun i j=>.int (i % j)):=Il fun i j _ _ _ _ _ hc q=>by
 have h1:(0:Int)<j:=hc;exact mod_int' (by first|lia|omega) (by rw[Int.fmod_eq_emod_of_nonneg i (by first|lia|omega)];exact q)
theorem MJ:cQ X (binaryOp .Pow) (rI SU fun i j=>.int (i ^ j.toNat)):=Il fun _ _ _ _ _ _ _ hc q=>pow_int_small hc.1 hc.2.1 hc.2.2 q
theorem UJ{f:Value->Sem Value}{g:Int->Int}
  (rule:∀(i:Int) (t:Tok) (s:Shared) (Q:Value->Shared->Prop) (E:Value->Shared->Prop),Q (.int (g i) s.toks) { s with toks:=s.toks+1 }->wpAny (model X.prog X.w) X.A (f (.int i t)) Q E s) :
  Ot X f (rU fun i=>.int (g i)):=by
 intro pins s σ H x v Q I rx h;obtain⟨i,rfl,q⟩:=h;obtain⟨t,rfl⟩:=rx;exact rule i t s _ _ ⟨.int (g i),H,I.tok _,⟨_,rfl⟩,q⟩
theorem Lm:Ot X (unaryOp .USub) (rU fun i=>.int (-i)):=UJ fun _ _ _ _ _ q=>neg_int q
end
section
variable {X:Cx}{a b c:Expr}{ta tb tc:TE}{pos:Pos}
theorem kl{pins:List (Addr×Obj)}{σ:St}{H:Hp}{s:Shared}{Q:VK}{k k':Bool}(I:Inv X pins σ H s)(q:Q (.bl k) H)(e:k=k'):EP X pins σ Q (.bool k') s:=by
 subst e;exact⟨.bl k,H,I,rfl,q⟩
theorem Pf:cQ X (compareOp .Lt) (qM fun i j=>.bl (decide (i<j))):=Cb fun _ _ _ _ _ _ _ q=>lt_int q
theorem Pg:cQ X (compareOp .LtE) (qM fun i j=>.bl (decide (i<=j))):=Cb fun _ _ _ _ _ _ _ q=>le_int q
theorem Ph:cQ X (compareOp .Gt) (qM fun i j=>.bl (decide (j<i))):=Cb fun _ _ _ _ _ _ _ q=>gt_int q
theorem Pj:cQ X (compareOp .GtE) (qM fun i j=>.bl (decide (j<=i))):=Cb fun _ _ _ _ _ _ _ q=>ge_int q
theorem D0:cQ X (compareOp .Lt) (fun x y H Q=>∃i j,x=.str i/\y=.str j/\Q (.bl (decide (i.cps.toList<j.cps.toList))) H):=by
 intro pins s σ H x y v u Q I rx ry h;obtain⟨i,j,rfl,rfl,q⟩:=h;obtain⟨t,rfl⟩:=rx;obtain⟨t',rfl⟩:=ry;exact lt_str (kl I q rfl)
theorem D3:cQ X (compareOp .In) (fun x y H Q=>∃i j,x=.str i/\y=.str j/\Q (.bl (!(Builtin.Str.occurrences j i 0 j.length 1).isEmpty)) H):=by
 intro pins s σ H x y v u Q I rx ry h;obtain⟨i,j,rfl,rfl,q⟩:=h;obtain⟨t,rfl⟩:=rx;obtain⟨t',rfl⟩:=ry;exact in_str (kl I q rfl)
theorem MM:cQ X (compareOp .Is) (fun x y H Q=>y=.non/\Q (.bl (decide (x=.non))) H):=by
 intro pins s σ H x y v u Q I rx ry h;obtain⟨rfl,q⟩:=h;cases ry;refine is_none_gen (kl I q ?_);cases x <;> first
  | (cases rx;rfl)
  | (obtain⟨t,rfl⟩:=rx;rfl)
theorem Kq:cQ X (compareOp .IsNot) (fun x y H Q=>y=.non/\Q (.bl (!decide (x=.non))) H):=by
 intro pins s σ H x y v u Q I rx ry h;obtain⟨rfl,q⟩:=h;cases ry;refine isnot_none_gen (kl I q ?_);cases x <;> first
  | (cases rx;rfl)
  | (obtain⟨t,rfl⟩:=rx;rfl)
theorem tW:cQ X (compareOp .NotIn) (fun x y H Q=>∃i j,x=.str i/\y=.str j/\Q (.bl (!(!(Builtin.Str.occurrences j i 0 j.length 1).isEmpty))) H):=by
 intro pins s σ H x y v u Q I rx ry h;obtain⟨i,j,rfl,rfl,q⟩:=h;obtain⟨t,rfl⟩:=rx;obtain⟨t',rfl⟩:=ry;exact notIn_str (kl I q rfl)
theorem Ag{op:CmpOp}{r:R2}(ho:cQ X (compareOp op) r)(ha:PE X a ta)(hb:PE X b tb)(hm:behindInMarks op b=false):PE X (.Compare a [op] [b] pos) (lq r ta tb):=by
 intro pins s σ H Q I h;exact wpAny_Compare1 (Hz ha hb I h fun v u s2 x y H2 I2 rx ry q=>ho pins s2 σ H2 x y v u Q I2 rx ry q) hm
def Ba(t:TE):TT:=fun σ H Q=>t σ H fun x H'=>∃k,x=.bl k/\Q k H'
theorem Kf{op:CmpOp}{r:R2}(ho:cQ X (compareOp op) r)(ha:PE X a ta)(hb:PE X b tb)(hm:behindInMarks op b=false):PT X (.Compare a [op] [b] pos) (Ba (lq r ta tb)):=by
 intro pins s σ H Q I h;refine wpAny_isTrue_Compare1 (aH (ha pins s σ H _ I h) fun v s1 ⟨x,H1,I1,r1,q1⟩=>aH (hb pins s1 σ H1 _ I1 q1) fun u s2 ⟨y,H2,I2,r2,q2⟩ =>
  aH (ho pins s2 σ H2 x y v u _ I2 r1 r2 q2) fun c s3 ⟨z,H3,I3,r3,k,e,q3⟩=>?_) hm
 subst e;cases r3;exact wpAny_truthy_bool ⟨H3,I3,q3⟩
def sR(r r':R2)(ta tb tc:TE):TE:=fun σ H Q=>ta σ H fun x H1=>tb σ H1 fun y H2=>r x y H2 fun z H3=>∃k,z=.bl k /\
 (if k=true then tc σ H3 fun w' H4=>r' y w' H4 Q else Q (.bl false) H3)
theorem GD{op op':CmpOp}{r r':R2}(ho:cQ X (compareOp op) r)(ho':cQ X (compareOp op') r')(ha:PE X a ta)(hb:PE X b tb)(hc:PE X c tc)
  (hm:lastMarks [op,op'] [b,c]=false:=by with_unfolding_all rfl):PE X (.Compare a [op,op'] [b,c] pos) (sR r r' ta tb tc):=by
 intro pins s σ H Q I h;refine Compare_chain (aH (ha pins s σ H _ I h) fun v s1 ⟨x,H1,I1,r1,q1⟩=>chain_link (aH (hb pins s1 σ H1 _ I1 q1) fun u s2 ⟨y,H2,I2,r2,q2⟩ =>
  aH (ho pins s2 σ H2 x y v u _ I2 r1 r2 q2) fun d s3 ⟨z,H3,I3,r3,k,e,q3⟩=>?_)) hm
 subst e;cases r3;refine wpAny_truthy_bool ?_;cases k with
 |false=>exact ite_ff ⟨.bl false,H3,I3,rfl,q3⟩
 |true=>exact ite_tt (chain_last (aH (hc pins s3 σ H3 _ I3 q3) fun w' s4 ⟨z',H4,I4,r4,q4⟩=>ho' pins s4 σ H4 y z' u w' Q I4 r2 r4 q4))
theorem Gm{op op':CmpOp}{r r':R2}(ho:cQ X (compareOp op) r)(ho':cQ X (compareOp op') r')(ha:PE X a ta)(hb:PE X b tb)(hc:PE X c tc)
  (hm:lastMarks [op,op'] [b,c]=false:=by with_unfolding_all rfl):PT X (.Compare a [op,op'] [b,c] pos) (Ba (sR r r' ta tb tc)):=by
 intro pins s σ H Q I h;refine isTrue_chain (aH (ha pins s σ H _ I h) fun v s1 ⟨x,H1,I1,r1,q1⟩=>test_link (aH (hb pins s1 σ H1 _ I1 q1) fun u s2 ⟨y,H2,I2,r2,q2⟩ =>
  aH (ho pins s2 σ H2 x y v u _ I2 r1 r2 q2) fun d s3 ⟨z,H3,I3,r3,k,e,q3⟩=>?_)) hm
 subst e;cases r3;refine wpAny_truthy_bool ?_;cases k with
 |false =>
  obtain⟨k',e',q'⟩:=q3;cases e';exact ite_ff ⟨H3,I3,q'⟩
 |true =>
  refine ite_tt (test_last (aH (hc pins s3 σ H3 _ I3 q3) fun w' s4 ⟨z',H4,I4,r4,q4⟩=>aH (ho' pins s4 σ H4 y z' u w' _ I4 r2 r4 q4) fun d' s5 ⟨z2,H5,I5,r5,k2,e2,q5⟩=>?_));subst e2;cases r5;exact wpAny_truthy_bool ⟨H5,I5,q5⟩
def SG(K:Q_)(x:V)(H:Hp)(k:Bool):Prop :=
 match x with
 |.non=>k=false
 |.bl b=>k=b
 |.int i=>k=(i != 0)
 |.str y=>y.length<=zq/\k=((y.length:Int) != 0)
 |.byt y=>y.size<=zq/\k=((y.size:Int) != 0)
 |.ref p=>(∃xs,aN K H p xs/\k=!xs.isEmpty)\/(∃xs,cD K H p xs/\k=!xs.isEmpty)\/∃kvs,H p=some (.dK kvs)/\k=!kvs.isEmpty
 |_=>False
theorem Cy{κ:Type}{kvs:List (κ×V)}{vs:List (κ×Value)}(r:KV kvs vs):(!vs.isEmpty)=!kvs.isEmpty:=by
 cases r <;> rfl
theorem oO{xs:List V}{its:List Value}(r:Vals xs its):(!its.toArray.isEmpty)=!xs.isEmpty:=by
 cases r <;> simp
theorem iY:(zq:Nat)<2 ^ 63:=by rw[sizeLine_eq];decide
theorem Lp:Ou X (fun x H Q=>∃k,SG X.K x H k/\Q k H):=by
 intro pins s σ H x v Q I rx h;obtain⟨k,e,q⟩:=h;have hl:=iY;have hs:zq=16777216:=sizeLine_eq;cases x with
 |non =>
  cases rx;have e':k=false:=e;subst e';exact truthy_none ⟨H,I,q⟩
 |bl b =>
  cases rx;have e':k=b:=e;subst e';exact wpAny_truthy_bool ⟨H,I,q⟩
 |int i =>
  obtain⟨t,rfl⟩:=rx;have e':k=(i != 0):=e;subst e';exact PySem.P.truthy_int ⟨H,I,q⟩
 |str y =>
  obtain⟨t,rfl⟩:=rx;obtain⟨hy,e'⟩:y.length<=zq/\k=((y.length:Int) != 0):=e;subst e';exact PySem.P.truthy_str (by first|lia|omega) ⟨H,I.tok _,q⟩
 |byt y =>
  obtain⟨t,rfl⟩:=rx;obtain⟨hy,e'⟩:y.size<=zq/\k=((y.size:Int) != 0):=e;subst e';exact PySem.W.truthy_bytes (by first|lia|omega) ⟨H,I.tok _,q⟩
 |ref p =>
  cases rx;have e':(∃xs,aN X.K H p xs/\k=!xs.isEmpty)\/(∃xs,cD X.K H p xs/\k=!xs.isEmpty)\/∃kvs,H p=some (.dK kvs)/\k=!kvs.isEmpty:=e;rcases e' with ⟨xs,hx,e'⟩|⟨xs,hx,e'⟩|⟨kvs,hx,e'⟩
  ·subst e'
   obtain⟨its,r,pl,hz⟩:=I.list hx;have hlen:=r.length;exact wpAny_truthy_list pl.isList (by simp only[zo];omega) ⟨H,I.tok _,by rw[oO r];exact q⟩
  ·subst e'
   obtain⟨its,r,pl,hz⟩:=I.tuple hx;have hlen:=r.length;exact truthy_tuple pl (by simp only[zo];omega) ⟨H,I.tok _,by rw[oO r];exact q⟩
  ·subst e'
   obtain⟨hz,hS,vs,r,m⟩:kvs.length<=zq/\(p==sysModules)=false/\∃vs,KV kvs vs/\s.heap.DictOf (bS X.prog X.w) p vs:=I.ax p _ hx;have hlen:kvs.length=vs.length:=Paired.length r;exact wpAny_truthy_dict hS m (by first|lia|omega) ⟨H,I.tok _,by rw[Cy r];exact q⟩
 |_=>exact(show False from e).elim
theorem B9:cQ X (binaryOp .Add) (fun x y H Q=>∃i j,x=.str i/\y=.str j/\i.length+j.length<=zq/\Q (.str (i++j)) H):=by
 intro pins s σ H x y v u Q I rx ry h;obtain⟨i,j,rfl,rfl,hz,q⟩:=h;obtain⟨t,rfl⟩:=rx;obtain⟨t',rfl⟩:=ry;exact add_str (fun t' tk=>⟨.str (i++j),H,I.tok _,⟨_,rfl⟩,q⟩) hz
inductive WQ (x:V) (us:List Value):Prop
 |mk (u:Value) (e:us=[u]) (r:RelV x u)
theorem vals1{x:V}{us:List Value}(r:Vals [x] us):WQ x us:=by
 cases r with
 |cons r1 r2=>cases r2;exact⟨_,rfl,r1⟩
inductive WO (x y:V) (us:List Value):Prop
 |mk (u w':Value) (e:us=[u,w']) (r:RelV x u) (r2:RelV y w')
theorem vals2{x y:V}{us:List Value}(r:Vals [x,y] us):WO x y us:=by
 cases r with
 |cons r1 r2 =>
  cases r2 with
  |cons r3 r4=>cases r4;exact⟨_,_,rfl,r1,r3⟩
theorem Ft(hc:X.calm=true):cI X (.builtin "max") (fun xs H Q=>∃i j,xs=[.int i,.int j]/\Q (.int (if j > i then j else i)) H):=by
 intro pins s σ H xs us Q I r h;obtain⟨i,j,rfl,q⟩:=h;obtain⟨u,w',rfl,⟨t,rfl⟩,⟨t',rfl⟩⟩:=vals2 r;refine max_two_ints (I.ok.hd hc) fun h' tk k=>⟨_,H,I.kept k,?_,q⟩;by_cases hj:j > i
 ·rw[if_pos hj,if_pos hj];exact⟨_,rfl⟩
 ·rw[if_neg hj,if_neg hj];exact⟨_,rfl⟩
end
end L2
namespace L2
open PySem PySem.Spec PyProof.Rows
structure oa (h:Heap) (x dx C:Addr) (mA:Str->Option Value):Prop where
 obj:h.get? x=some (Z4 C dx)
 ns:h.Ns1 dx mA
 ne:dx≠x
theorem El{h:Heap}{dx:Addr}{mA:Str->Option Value}(n:h.Ns1 dx mA):∃od,h.get? dx=some od/\∀name,Z8 name od=some (mA name):=by
 obtain⟨o,es,ep,ho,hd,hk,_,hm⟩:=n;refine⟨o,ho,fun name=>?_⟩;have e:=hm name;unfold nsFind findBy at e;rw[<- wp]at e;unfold Z8;rw[hd];dsimp only;split
 ·rename_i y q
  rw[q]at e;exact congrArg some e
 ·rename_i q
  rw[q]at e;have a:es.toList.any (·.refKey)=false:=by
   rw[xy];intro y hy;obtain⟨z,t,Sk⟩:=hk y (Array.mem_toList_iff.mp hy);simp[DictEntry.refKey,Sk]
  have a':¬ es.toList.any (·.refKey)=true:=by rw[a];exact zu
  rw[if_neg a'];exact congrArg some e
theorem oa.look{h:Heap}{x dx C:Addr}{mA:Str->Option Value}(I:oa h x dx C mA):∃od,PySem.W.InstAt h x (Z4 C dx) C (some od)/\∀name,Z8 name od=some (mA name) :=
 let ⟨od,ho,hl⟩:=El I.ns
 ⟨od,⟨I.obj,rfl,rfl,ho⟩,hl⟩
section
variable {prog:Program}{w:World}{A:Around}{E:Value->Shared->Prop}{s:Shared}{K:Q_}{x dx C f:Addr}{mA:Str->Option Value}{name:Str}{v:Value}
theorem get_map{expr:Bool}{Q:Value->Shared->Prop}(X:K.In s.heap)(I:oa s.heap x dx C mA)(hg:Z5 K C name=true)(hh:Z9 K C=true)
  (ha:Z2 K (.ref C) name=some none) (hv:mA name=some v) (hv':Y5 v=true) (h:Q v { s with toks:=s.toks+1 }) :
  wpAny (model prog w) A (getAttr (.ref x) name expr) Q E s:=by
 obtain⟨od,J,hl⟩:=I.look;exact PySem.W.get_value X J (Y0 hg).1 (PySem.W.findObj_own hh ha rfl (by rw[hl,hv])) hv' h
theorem Hg{pl:Sem Bool}{Q:Value×List Value->Shared->Prop}(X:K.In s.heap)(I:oa s.heap x dx C mA)(hg:Z5 K C name=true)
  (hf:Z2 K (.ref C) name=some (some (.ref f))) (ht:Z_ K (.ref f)=true) (hv:mA name=none) (h:Q (.ref f,[.ref x]) s) :
  wpAny (model prog w) A (getMethod (.ref x) name pl) Q E s:=by
 obtain⟨od,J,hl⟩:=I.look;exact PySem.W.method_fn X J (Y0 hg).1 (Y0 hg).2 hf (beq_iff_eq.mp ht) (by show (Z8 name od).map (·.isSome)=some false;rw[hl,hv];rfl) h
theorem J7{ns:List Str}{Q:Unit->Shared->Prop}(X:K.In s.heap)(I:oa s.heap x dx C mA)
  (hs:Z2 K (.ref C) "__setattr__" = some (some (.builtin "object.__setattr__"))) (hp:Y1 K C=true) (ht:Y2 K C name=some none) (hh:Z9 K C=true)
  (hw:PySem.Within mA ns) (hsz:ns.length<=zq)
  (h:∀h',oa h' x dx C (fun y=>if y=name then some v else mA y)->Heap.SameBut dx s.heap h'->Q () { s with heap:=h',toks:=s.toks+2 }) :
  wpAny (model prog w) A (setAttr (.ref x) name v) Q E s:=by
 obtain⟨od,J,hl⟩:=I.look;refine PySem.W.set_plain X J hs (PySem.W.osa_open (s:={ s with toks:=s.toks+1 }) (r:=none) X J hp ht fun b=>?_);obtain⟨cd,hc,hd'⟩:=PySem.W.any_some hh;have hx:s.heap.get? x=some ⟨.ref C,some dx,.plain,#[]⟩:=I.obj;refine zz (zt (zz (zz (wpAny_loadPart hx (zz (PySem.W.Looks.here (s:={ s with toks:=s.toks+1 }) (PySem.W.looks_clsIn X hc) ?_))))));rw[hd'];refine zt (a:=some dx) (zz (zt (zz ?_)));refine wpAny_nsSet1 (s:={ s with toks:=s.toks+1 }) I.ns fun h' QC gN=>?_;obtain⟨oD,YJ,YK,VL,V4,V6⟩:=QC.count (PySem.Within.cons name v hw);refine zz (wpAny_lookBehind VL (by rw[V4];exact pastItsLine_dict (zN V6 (by rw[zg];omega))) ?_);exact zt (h _ ⟨(gN.2 _ (Ne.symm I.ne)).trans I.obj,QC,I.ne⟩ gN)
theorem GP{R:Result->Shared->Prop}{vs:List Value}{kw:List (Str×Value)}(X:K.In s.heap)(hm:X_ K C=true)
  (hi:Z2 K (.ref C) "__init__" = some (some (.ref f))) (hf:K_ K (.ref f)=some (.type "function"))
  (h:codeAny (model prog w) (A.under (.builtin "type.__call__" ⟨.ref C::vs,kw⟩)) (.call (.ref f) ⟨.ref (s.heap.objs.size+1)::vs,kw⟩) (PySem.W.InitBack (s.heap.objs.size+1) R)
   { s with heap:=(s.heap.push Z3).push (Z4 C s.heap.objs.size) }) :
  codeAny (model prog w) A (.call (.ref C) ⟨vs,kw⟩) R s:=by
 obtain⟨hh,g,d,t,os⟩:=s;exact PySem.W.make_core (PySem.W.makes_of X hm) (PySem.W.looks_findIn X hi) (fun self=>PySem.W.bind_fn X self hf) (.inl rfl) h
end
def dO(f:Str)(v:V):List (Str×V)->List (Str×V)
 |[]=>[(f,v)]
 | (g,x)::r=>if g=f then (g,v)::r else (g,x)::dO f v r
theorem mY(f g:Str)(v:V):∀fs:List (Str×V),(dO f v fs).lookup g=if g=f then some v else fs.lookup g
 |[]=>by
  show List.lookup g [(f,v)]=_;by_cases h:g=f
  ·have hb:(g==f)=true:=beq_iff_eq.mpr h
   simp only[List.lookup,hb,if_pos h]
  ·have hb:(g==f)=false:=beq_eq_false_iff_ne.mpr h
   simp only[List.lookup,hb,if_neg h]
 | (k,x)::r=>by
  have ih:=mY f g v r;rw[show dO f v ((k,x)::r)=(if k=f then (k,v)::r else (k,x)::dO f v r) from rfl];by_cases hk:k=f
  ·rw[if_pos hk]
   by_cases h:g=k
   ·have hb:(g==k)=true:=beq_iff_eq.mpr h
    simp only[List.lookup,hb,if_pos (h.trans hk)]
   ·have hb:(g==k)=false:=beq_eq_false_iff_ne.mpr h
    simp only[List.lookup,hb,if_neg (fun e:g=f=>h (e.trans hk.symm))]
  ·rw[if_neg hk]
   by_cases h:g=k
   ·have hb:(g==k)=true:=beq_iff_eq.mpr h
    simp only[List.lookup,hb,if_neg (fun e:g=f=>hk (h.symm.trans e))]
   ·have hb:(g==k)=false:=beq_eq_false_iff_ne.mpr h
    simp only[List.lookup,hb];exact ih
theorem lW(f:Str)(v:V):∀fs:List (Str×V),f∈(dO f v fs).map (·.1)/\∀g,g∈fs.map (·.1)->g∈(dO f v fs).map (·.1)
 |[]=>⟨by simp[dO],fun g h=>by simp at h⟩
 | (k,x)::r=>by
  obtain⟨i1,i2⟩:=lW f v r;rw[show dO f v ((k,x)::r)=(if k=f then (k,v)::r else (k,x)::dO f v r) from rfl];by_cases hk:k=f
  ·rw[if_pos hk]
   subst hk;exact⟨by simp,fun g h=>by simpa using h⟩
  ·rw[if_neg hk]
   refine⟨?_,fun g h=>?_⟩
   ·rw[zK]
    exact zU _ i1
   ·rw[zK]at h ⊢
    rcases zi.mp h with e|e
    ·exact zi.mpr (.inl e)
    ·exact zU _ (i2 g e)
theorem mZ(f:Str)(v:V):∀fs:List (Str×V),(dO f v fs).length<=fs.length+1
 |[]=>by simp[dO]
 | (k,x)::r=>by
  have ih:=mZ f v r;rw[show dO f v ((k,x)::r)=(if k=f then (k,v)::r else (k,x)::dO f v r) from rfl];by_cases hk:k=f
  ·rw[if_pos hk,zg,zg];omega
  ·rw[if_neg hk,zg,zg];omega
theorem eW.some_of{v:V}{o:Option Value}(r:eW (some v) o):∃u,o=some u/\RelV v u:=by
 cases o with
 |none=>exact(show False from r).elim
 |some u=>exact⟨u,rfl,r⟩
theorem eW.none_of{o:Option Value}(r:eW none o):o=none:=by
 cases o with
 |none=>rfl
 |some u=>exact(show False from r).elim
theorem ES{v:V}{u:Value}(r:RelV v u):Y5 u=true:=by
 cases v with
 |non=>cases (show u=Value.none from r);rfl
 |bl b=>cases (show u=Value.bool b from r);rfl
 |int i=>obtain⟨t,e⟩:=(show ∃t,u=Value.int i t from r);cases e;rfl
 |str x=>obtain⟨t,e⟩:=(show ∃t,u=Value.str x t from r);cases e;rfl
 |byt b=>obtain⟨t,e⟩:=(show ∃t,u=Value.bytes b t from r);cases e;rfl
 |flt b=>obtain⟨t,e⟩:=(show ∃t,u=Value.float b t from r);cases e;rfl
 |ref a=>cases (show u=Value.ref a from r);rfl
 |ty n=>cases (show u=Value.type n from r);rfl
section
variable {P:Program}{w:World}{H H':Hp}{h h':Heap}{a C dx:Addr}{fs fs':List (Str×V)}
theorem qk(ax:cj P w H h)(e:H a=some (.ins C dx fs)):∃mA,oa h a dx C mA/\(∀f,eW (fs.lookup f) (mA f))/\PySem.Within mA (fs.map (·.1))/\fs.length<=1000/\H dx=some (.own a):=by
 obtain⟨d,z,ne,ob,mA,n,r,q⟩:=(show bK P w H h a (.ins C dx fs) from ax a _ e);exact⟨mA,⟨ob,n,ne⟩,r,q,z,d⟩
end
structure iz (K:Q_) (C:Addr):Prop where
 pg:Z5 K C Str.empty=true
 hd:Z9 K C=true
 po:Y1 K C=true
 sa:Z2 K (.ref C) "__setattr__" = some (some (.builtin "object.__setattr__"))
theorem iz.get{K:Q_}{C:Addr}(c:iz K C)(f:Str):Z5 K C f=true:=c.pg
def eK(K:Q_)(C:Addr)(f:Str):Prop:=Z2 K (.ref C) f=some none
theorem eK.OV{K:Q_}{C:Addr}{f:Str}(n:eK K C f):Y2 K C f=some none:=by
 unfold Y2;rw[show Z2 K (.ref C) f=some none from n];rfl
structure Meth (K:Q_) (C:Addr) (m:Str) (f:Addr):Prop where
 at_:Z2 K (.ref C) m=some (some (.ref f))
 fn:Z_ K (.ref f)=true
 kp:Z0 K (.ref f)=true
section
variable {X:Cx}{pins:List (Addr×Obj)}{σ:St}{H:Hp}{s:Shared}{a C dx:Addr}{fs:List (Str×V)}{f:Str}{v:V}{A:Around}{E:Value->Shared->Prop}
theorem CI{b:Bool}{Q:Value->Shared->Prop}(I:Inv X pins σ H s)(e:H a=some (.ins C dx fs))(c:iz X.K C)(n:eK X.K C f)(l:fs.lookup f=some v)
  (h:∀u s',Inv X pins σ H s'->RelV v u->Q u s'):wpAny (model X.prog X.w) A (getAttr (.ref a) f b) Q E s:=by
 obtain⟨mA,O,r,_,_,_⟩:=qk I.ax e;obtain⟨u,hu,ru⟩:=eW.some_of (v:=v) (o:=mA f) (by rw[<- l];exact r f);exact get_map I.dY O (c.get f) c.hd n hu (ES ru) (h u _ (I.tok _) ru)
theorem kX{m:Str}{g:Addr}{pl:Sem Bool}{Q:Value×List Value->Shared->Prop}(I:Inv X pins σ H s)(e:H a=some (.ins C dx fs))(c:iz X.K C)(k:Meth X.K C m g)(l:fs.lookup m=none)
  (h:Q (.ref g,[.ref a]) s):wpAny (model X.prog X.w) A (getMethod (.ref a) m pl) Q E s:=by
 obtain⟨mA,O,r,_,_,_⟩:=qk I.ax e;have hn:mA m=none:=eW.none_of (by rw[<- l];exact r m);exact Hg I.dY O (c.get m) k.at_ k.fn hn h
theorem Bh{y:V}{u:Value}{Q:Unit->Shared->Prop}(I:Inv X pins σ H s)(e:H a=some (.ins C dx fs))(c:iz X.K C)(n:eK X.K C f)(hl:fs.length<1000)(ry:RelV y u)
  (h:∀s',Inv X pins σ (upd H a (.ins C dx (dO f y fs))) s'->Q () s'):wpAny (model X.prog X.w) A (setAttr (.ref a) f u) Q E s:=by
 obtain⟨mA,O,r,wi,_,ho⟩:=qk I.ax e;have hz:(fs.map (·.1)).length<=zq:=by rw[zl,sizeLine_eq];omega
 refine J7 I.dY O c.sa c.po n.OV c.hd wi hz fun h' O' sb=>h _ ?_;have hd:∃o,h'.get? dx=some o:=let ⟨o,_,_,e',_⟩:=O'.ns;⟨o,e'⟩;refine I.write (x:=a) (e:=dx) (by rw[e];exact True.intro) (.inr ho) (fun b q hb z=>(sb.2 b hb).trans z) hd ?_;refine⟨by rw[aA O.ne];exact ho,?_,O.ne,O'.obj,_,O'.ns,fun g=>?_,fun g hg=>?_⟩
 ·have:=mZ f y fs;omega
 ·show eW ((dO f y fs).lookup g) (if g=f then some u else mA g)
  rw[mY];by_cases q:g=f
  ·rw[if_pos q,if_pos q];exact ry
  ·rw[if_neg q,if_neg q];exact r g
 ·by_cases q:g=f
  ·rw[q];exact(lW f y fs).1
  ·refine(lW f y fs).2 g (wi g fun z=>hg ?_)
   show (if g=f then some u else mA g)=none;rw[if_neg q];exact z
theorem Inv.made(I:Inv X pins σ H s):Inv X pins σ (upd (upd H s.heap.objs.size (.own (s.heap.objs.size+1))) (s.heap.objs.size+1) (.ins C s.heap.objs.size []))
  { s with heap:=(s.heap.push Z3).push (Z4 C s.heap.objs.size) }:=by
 have e1:(s.heap.push Z3).get? s.heap.objs.size=some Z3:=zk s.heap rfl;have e2:((s.heap.push Z3).push (Z4 C s.heap.objs.size)).get? (s.heap.objs.size+1)=some (Z4 C s.heap.objs.size):=by
  have:=zk (s.heap.push Z3) (o:=Z4 C s.heap.objs.size) rfl
  rwa [zV]at this
 have e3:(s.heap.push Z3).Ns s.heap.objs.size (fun _=>none):=⟨Z3,#[],_,e1,rfl,(fun e he=>absurd he (by simp)),fun _=>rfl⟩;have I1:=I.laid (a:=s.heap.objs.size) (o:=.own (s.heap.objs.size+1)) (h':=s.heap.push Z3) (t':=s.toks) (fun b u q=>zy _ q) (zp _) ⟨_,e1⟩;refine I1.laid (a:=s.heap.objs.size+1) (o:=.ins C s.heap.objs.size []) (t':=s.toks) (fun b u q=>zy _ q) (yE (zV _ _)) ?_;have ne:s.heap.objs.size≠s.heap.objs.size+1:=zC (xt _);refine⟨by rw[aA ne,aT],zZ _,ne,e2,fun _=>none,(Heap.Ns1.of_empty e3).at fun o q=>zy _ q,fun _=>True.intro,fun y hy=>absurd rfl hy⟩
theorem Ld{prog:Program}{w:World}{env:Env}{e:Expr}{f:Str}{pos:Pos}{s:Shared}{Q:Value->Shared->Prop}(hb:attributeBase e f env (eval e env)=eval e env)
  (h:wpAny (model prog w) A (eval e env) (fun o s₁=>wpAny (model prog w) A (getAttr o f true) Q E s₁) E s):wpAny (model prog w) A (eval (.Attribute e f pos) env) Q E s :=
 Attribute_any_ h (by rw[arm_eval_Attribute,hb])
end
def Lv(K:Q_)(ta:TE)(f:Str):TE:=fun σ H Q=>ta σ H fun x H1=>∃a C dx fs v,x=.ref a/\H1 a=some (.ins C dx fs)/\iz K C/\eK K C f/\fs.lookup f=some v/\Q v H1
def LY(K:Q_)(ta tv:TE)(f:Str):TS:=fun D σ H=>tv σ H fun y H1=>ta σ H1 fun x H2=>∃a C dx fs,x=.ref a/\H2 a=some (.ins C dx fs)/\iz K C/\eK K C f/\fs.length<1000 /\
 D.nx σ (upd H2 a (.ins C dx (dO f y fs)))
section
variable {X:Cx}{o e value:Expr}{f:Str}{pos pos' Rz:Pos}{ta tv:TE}
theorem MD(he:PE X e ta)(hb:attributeBase e f X.env (eval e X.env)=eval e X.env):PE X (.Attribute e f pos) (Lv X.K ta f):=by
 intro pins s σ H Q I h;refine Ld hb (aH (he pins s σ H _ I h) fun u s1 ⟨x,H1,I1,rx,a,C,dx,fs,v,ex,ea,c,n,l,q⟩=>?_);subst ex;obtain rfl:u=Value.ref a:=rx;exact CI I1 ea c n l fun u' s2 I2 ru=>⟨v,H1,I2,ru,q⟩
theorem Mr(ha:PE X o ta)(hv:PE X value tv)(hs:swapsWith value (some (.Attribute o f pos')) pos.line X.env=pure false):PS X (.Assign [.Attribute o f pos'] value pos) (LY X.K ta tv f):=by
 intro pins s σ H D I h;refine plainObj_wpAny_Assign_Attribute (aH (hv pins s σ H _ I h) fun u s1 ⟨y,H1,I1,ry,q⟩=>aH (ha pins s1 σ H1 _ I1 q) fun ov s2 ⟨x,H2,I2,rx,a,C,dx,fs,ex,ea,c,n,l,q2⟩=>?_) hs;subst ex;obtain rfl:ov=Value.ref a:=rx;exact Bh I2 ea c n l ry fun s3 I3=>⟨σ,_,I3,q2⟩
end
section
variable {X:Cx}{pins:List (Addr×Obj)}{σ:St}{H:Hp}{s:Shared}{A:Around}{E:Value->Shared->Prop}{Q:Value->Shared->Prop}{c:Value}{b:Bool}
end
end L2
namespace L2
open PySem PySem.Spec PyProof.Rows
structure bJ (k:Nat) (A:Around):Prop where
 hd:A.handled=none
 dp:A.depth+3*k+5<recursionLimit
 un:A.units+16*k+200<cLine
 gd:A.guards=some []
theorem bJ.mono{j k:Nat}{A:Around}(r:bJ k A)(h:j<=k):bJ j A:=⟨r.hd,by have:=r.dp;omega,by have:=r.un;omega,r.gd⟩
theorem bJ.deeper{k:Nat}{A:Around}(r:bJ (k+1) A)(env:Env):bJ k (A.deeper env) :=
 ⟨r.hd,by have:=r.dp;show A.depth+1+3*k+5<_;omega,by have:=r.un;show A.units+3+16*k+200<_;omega,r.gd⟩
theorem Cp{A:Around}{C:Addr}{us:List Value}{kw:List (Str×Value)}:(A.under (.builtin "type.__call__" ⟨.ref C::us,kw⟩)).depth=A.depth+1:=by
 first|rfl|simp[Around.under,Code.weight,Code.isCreation,Code.isGuard,Code.isCaller,Code.frames,Code.isFrame,guardIds]
theorem Cn{A:Around}{C:Addr}{us:List Value}{kw:List (Str×Value)}:(A.under (.builtin "type.__call__" ⟨.ref C::us,kw⟩)).units=A.units+1:=by
 first|rfl|simp[Around.under,Code.cUnits,Code.frames,Code.isFrame]
theorem bJ.make{k:Nat}{A:Around}(r:bJ (k+1) A)(C:Addr)(us:List Value)(kw:List (Str×Value)):bJ k (A.under (.builtin "type.__call__" ⟨.ref C::us,kw⟩)) :=
 ⟨r.hd,by have:=r.dp;rw[Cp];omega,by have:=r.un;rw[Cn];omega,r.gd⟩
theorem bJ.depth{k:Nat}{A:Around}(r:bJ k A):A.depth<recursionLimit:=by have:=r.dp;omega
def gS:TA:=fun _ H Q=>Q [] H
def cR(ta:TE)(tr:TA):TA:=fun σ H Q=>ta σ H fun x H1=>tr σ H1 fun xs H2=>Q (x::xs) H2
section
variable {X:Cx}{e:Expr}{es:List Expr}{te:TE}{t:TA}{pos:Pos}
theorem bq:PA X [] gS:=fun _ _ _ _ H Q I h=>Calls.spliced_nil ⟨[],H,I,.nil,h⟩
theorem az(ha:PE X e te)(hr:PA X es t)(hs:starEach (e::es) X.env=(false,eval e X.env)::starEach es X.env:=by rfl):PA X (e::es) (cR te t):=by
 intro pos pins s σ H Q I h;rw[hs];show wpAny _ _ (spliced ((false,eval e X.env)::backTo pos (starEach es X.env))) _ _ s;refine Calls.spliced_cons (aH (ha pins s σ H _ I h) fun u s1 ⟨x,H1,I1,r1,q1⟩=>?_);exact aH (hr pos pins s1 σ H1 _ I1 q1) fun us s2 ⟨xs,H2,I2,r2,q2⟩=>⟨x::xs,H2,I2,.cons r1 r2,q2⟩
def FX(t:TA):TE:=fun σ H Q=>t σ H fun xs H1=>xs.length<=zq/\∀p,H1 p=none->Q (.ref p) (upd H1 p (.tup xs))
def FZ(t:TA):TE:=fun σ H Q=>t σ H fun xs H1=>xs.length<=zq/\∀p,H1 p=none->Q (.ref p) (upd H1 p (.lst xs))
theorem tS{x1}(h:PA X es t):PE X (.Tuple es x1 pos) (FX t):=by
 intro pins s σ H Q I hq;refine wpAny_Tuple_spliced (aH (h pos pins s σ H _ I hq) fun us s1 ⟨xs,H1,I1,r,z,q⟩=>⟨by rw[<- r.length];exact z,?_⟩);have hf:H1 s1.heap.objs.size=none:=I1.ax.fresh (zp _);refine⟨.ref s1.heap.objs.size,upd H1 s1.heap.objs.size (.tup xs),I1.laid (t':=s1.toks) (fun b u e=>zy _ e) (zp _) ?_,rfl,q _ hf⟩;exact⟨z,us,r,nZ.new _ _⟩
theorem kb(h:PA X es t):PE X (.List es pos) (FZ t):=by
 intro pins s σ H Q I hq;refine wpAny_List_spliced (aH (h pos pins s σ H _ I hq) fun us s1 ⟨xs,H1,I1,r,z,q⟩=>⟨by rw[<- r.length];exact z,?_⟩);have hf:H1 s1.heap.objs.size=none:=I1.ax.fresh (zp _);refine⟨.ref s1.heap.objs.size,upd H1 s1.heap.objs.size (.lst xs),I1.laid (t':=s1.toks) (fun b u e=>zy _ e) (zp _) ?_,rfl,q _ hf⟩;exact⟨z,us,0,r,zk _ rfl⟩
end
abbrev Sp:=List V->Hp->VK->XK->Prop
abbrev lG:=List Env->Hp->Shared->XK->Value->Shared->Prop
structure mm (P:Program) (w:World) (K:Q_) (mg:Str->Option Value) (base:Heap) (A:Around) (outer:List Env) (s:Shared) (H:Hp):Prop where
 frames:A.frames=some outer
 mod:Mod K mg base
 bs:∀b o,base.get? b=some o->s.heap.get? b=some o/\H b=none
 lF:base.objs.size<=s.heap.objs.size
 eU:s.heap.FunFrames base outer
 nh:∀b∈dZ outer,H b=none
 ax:cj P w H s.heap
 bare:AllBare s.gens
def CE(outer:List Env)(P:Program)(w:World)(H:Hp)(s:Shared)(Q:VK)(u:Value)(s':Shared):Prop :=
 ∃v H',s'.os=s.os/\AllBare s'.gens/\Un (dZ outer) [] H H' s.heap s'.heap/\cj P w H' s'.heap/\RelV v u/\Q v H'
def CR(CX:lG)(outer:List Env)(P:Program)(w:World)(H:Hp)(s:Shared)(Q:VK)(E:XK)(r:Result)(s':Shared):Prop :=
 match r with
 |.ok (.ret u)=>CE outer P w H s Q u s'
 |.ok _=>False
 |.error e=>CX outer H s E e s'
structure cf (P:Program) (w:World) (K:Q_) (mg:Str->Option Value) (base:Heap) (CX:lG) (k:Nat) (f:Addr) (fd:FuncData) (ps:List Str) (sp:Sp):Prop where
 len:∀vs H Q E,sp vs H Q E->vs.length=ps.length
 run:∀(A:Around) (outer:List Env) (s:Shared) (H:Hp) (args:Args) (us:List Value) (vs:List V) (Q:VK) (E:XK),bJ k A->mm P w K mg base A outer s H->BindsTo s fd args (ps.zip us)->Vals vs us->sp vs H Q E ->
  codeAny (model P w) A (.call (.ref f) args) (CR CX outer P w H s Q E) s
theorem mm.make{P:Program}{w:World}{K:Q_}{mg:Str->Option Value}{base:Heap}{A:Around}{outer:List Env}{s:Shared}{H:Hp}(e:mm P w K mg base A outer s H)(C:Addr)(us:List Value)(kw:List (Str×Value)) :
  mm P w K mg base (A.under (.builtin "type.__call__" ⟨.ref C::us,kw⟩)) outer s H:=⟨by first|exact e.frames|(simpa [Around.under,Code.envs,Code.isFrame,pushEnvs] using e.frames),e.mod,e.bs,e.lF,e.eU,e.nh,e.ax,e.bare⟩
section
variable {X:Cx}{pins:List (Addr×Obj)}{σ:St}{H:Hp}{s s':Shared}
theorem Inv.CM(I:Inv X pins σ H s):mm X.prog X.w X.K X.mg X.base X.A X.stack s H :=
 ⟨I.ok.frames,I.ok.mod,I.bs,zN I.ok.lF I.sz,I.stack,I.pW,I.ax,I.bare⟩
theorem Inv.after{Q:VK}{u:Value}(I:Inv X pins σ H s)(h:CE X.stack X.prog X.w H s Q u s'):EP X pins σ Q u s':=by
 obtain⟨v,H',os,bare,un,ax,r,q⟩:=h;obtain⟨hh,g,d,t,os'⟩:=s';obtain rfl:os'=s.os:=os;exact⟨v,H',I.call (h':=hh) (g':=g) (d':=d) (t':=t) (ch:=[]) un ax bare (fun b z=>absurd z (by simp)),r,q⟩
end
def Bc(sp:Sp)(eZ:List V)(E:XK)(t:TA):TE:=fun σ H Q=>t σ H fun vs H1=>sp (vs++eZ) H1 Q E
def rW(C:Addr)(m:Str)(sp:Sp)(eZ:List V)(E:XK)(ta:TE)(t:TA):TE:=fun σ H Q=>ta σ H fun x H1=>∃a dx fs,x=.ref a/\H1 a=some (.ins C dx fs)/\fs.lookup m=none /\
 t σ H1 fun vs H2=>sp (x::(vs++eZ)) H2 Q E
def HR(C:Addr)(sp:Sp)(eZ:List V)(E:XK)(t:TA):TE:=fun σ H Q=>t σ H fun vs H1=>∀x dx,H1 x=none->H1 dx=none->dx≠x ->
 sp (.ref x::(vs++eZ)) (upd (upd H1 dx (.own x)) x (.ins C dx [])) (fun v H2=>v=.non/\Q (.ref x) H2) E
def Binds(K:Q_)(fd:FuncData)(ps:List Str)(ds:List Value):Prop :=
 ∀(s:Shared) (us:List Value),K.In s.heap->(us++ds).length=ps.length->BindsTo s fd ⟨us,[]⟩ (ps.zip (us++ds))
theorem Binds.all{K:Q_}{fd:FuncData}{ps:List Str}(h:∀us:List Value,us.length=ps.length->bindArgs fd ⟨us,[]⟩=pure (ps.zip us)):Binds K fd ps []:=fun s us _ hl=>by
 rw[zJ]at hl ⊢;exact .of_eq (h us hl)
def Passes(CX:lG)(X:Cx)(E:XK):Prop:=∀(pins:List (Addr×Obj)) (σ:St) (H:Hp) (s:Shared) (e:Value) (s':Shared),Inv X pins σ H s->CX X.stack H s E e s'->X.xe e s'
section
variable {X:Cx}{CX:lG}{k:Nat}{f C:Addr}{fd:FuncData}{ps:List Str}{sp:Sp}{eZ:List V}{ds:List Value}{E:XK}{x m:Str}{p pos apos:Pos}{e o:Expr}{es:List Expr}{ta:TE}{t:TA}
theorem tm{pins:List (Addr×Obj)}{σ:St}{H:Hp}{s:Shared}{Q:VK}{us:List Value}{vs:List V}(F:cf X.prog X.w X.K X.mg X.base CX k f fd ps sp)(hr:bJ k X.A)(hb:Binds X.K fd ps ds)(hd:Vals eZ ds)(hx:Passes CX X E)
  (I:Inv X pins σ H s) (r:Vals vs us) (h:sp (vs++eZ) H Q E):wpAny (model X.prog X.w) X.A (call (.ref f) us) (EP X pins σ Q) X.xe s:=by
 have r2:Vals (vs++eZ) (us++ds):=r.append hd;have hl:(us++ds).length=ps.length:=by rw[<- r2.length];exact F.len _ _ _ _ h
 refine wpAny_call (codeAny_mono (F.run X.A X.stack s H ⟨us,[]⟩ (us++ds) (vs++eZ) Q E hr I.CM (hb s us I.dY hl) r2 h) fun r s' hq=>?_);cases r with
 |error e=>exact hx pins σ H s e s' I hq
 |ok fl =>
  cases fl with
  |ret u=>exact I.after hq
  |next=>exact False.elim hq
  |brk=>exact False.elim hq
  |cont=>exact False.elim hq
theorem qa(F:cf X.prog X.w X.K X.mg X.base CX k f fd ps sp)(hr:bJ k X.A)(hg:Gl X x)(hm:X.mg x=some (.ref f))(hk:Z0 X.K (.ref f)=true)(hb:Binds X.K fd ps ds)(hd:Vals eZ ds)(hx:Passes CX X E)
  (ha:PA X (e::es) t) (oV:(x==("__debug__":Str))=false:=by decide) (he:starEach (e::es) X.env=(false,eval e X.env)::starEach es X.env:=by rfl) (fX:(backTo pos (starEach es X.env)).any (·.1)=false:=by rfl) :
  PE X (.Call (.Name x p) (e::es) [] pos) (Bc sp eZ E t):=by
 intro pins s σ H Q I h;refine wpAny_Call_Name_kw (iN I hg hm ?_ oV);refine Z6 (h₀:=X.base) I.ok.mod.qQ hk (aH (ha pos pins s σ H _ I h) fun us s1 ⟨vs,H1,I1,r,q⟩=>⟨I1.dY,?_⟩) he fX;exact tm F hr hb hd hx I1 r q
theorem Ae{pl:Sem Bool}(he:PE X o ta)(c:iz X.K C)(hm:Meth X.K C m f)(F:cf X.prog X.w X.K X.mg X.base CX k f fd ps sp)(hr:bJ k X.A)(hb:Binds X.K fd ps ds)(hd:Vals eZ ds)(hx:Passes CX X E)(ha:PA X (e::es) t)
  (cu:starEach (e::es) X.env=(false,eval e X.env)::starEach es X.env:=by rfl) (fX:(backTo pos (starEach es X.env)).any (·.1)=false:=by rfl)
  (ht:eval (.Call (.Attribute o m apos) (e::es) [] pos) X.env=(do
   let ov<-eval o X.env
   standAt apos.atName
   let (f,first)<-holding [ov] (getMethod ov m pl)
   callWith pos f first (backTo pos (starEach (e::es) X.env)) (backToKw pos (keywordEach [] X.env))):=by rfl) :
  PE X (.Call (.Attribute o m apos) (e::es) [] pos) (rW C m sp eZ E ta t):=by
 intro pins s σ H Q I h;refine Y3 (pl:=pl) (aH (he pins s σ H _ I h) fun u s1 ⟨x,H1,I1,rx,a,dx,fs,ex,ea,l,q⟩=>?_) ht;subst ex;obtain rfl:u=Value.ref a:=rx;refine kX I1 ea c hm l ?_;refine Z6 (first:=[.ref a]) (h₀:=X.base) I.ok.mod.qQ hm.kp (aH (ha pos pins s1 σ H1 _ I1 q) fun us s2 ⟨vs,H2,I2,r,q2⟩=>⟨I2.dY,?_⟩) cu fX
 exact tm (us:=.ref a::us) (vs:=.ref a::vs) F hr hb hd hx I2 (.cons rfl r) q2
theorem Gw{pl:Sem Bool}(he:PE X o ta)(c:iz X.K C)(hm:Meth X.K C m f)(F:cf X.prog X.w X.K X.mg X.base CX k f fd ps sp)(hr:bJ k X.A)(hb:Binds X.K fd ps ds)(hd:Vals eZ ds)(hx:Passes CX X E)
  (ht:eval (.Call (.Attribute o m apos) [] [] pos) X.env=(do
   let ov<-eval o X.env
   standAt apos.atName
   let (f,first)<-holding [ov] (getMethod ov m pl)
   callWith pos f first (backTo pos (starEach [] X.env)) (backToKw pos (keywordEach [] X.env))):=by rfl) :
  PE X (.Call (.Attribute o m apos) [] [] pos) (rW C m sp eZ E ta gS):=by
 intro pins s σ H Q I h;refine Y3 (pl:=pl) (aH (he pins s σ H _ I h) fun u s1 ⟨x,H1,I1,rx,a,dx,fs,ex,ea,l,q⟩=>?_) ht;subst ex;obtain rfl:u=Value.ref a:=rx;refine kX I1 ea c hm l ?_;exact PySem.W.callWith_K0 (first:=[.ref a]) I1.dY hm.kp (tm (us:=[.ref a]) (vs:=[.ref a]) F hr hb hd hx I1 (.cons rfl .nil) q)
structure Mk (K:Q_) (C f:Addr):Prop where
 makes:X_ K C=true
 init:Z2 K (.ref C) "__init__" = some (some (.ref f))
 fn:Z_ K (.ref f)=true
 kp:Z0 K (.ref C)=true
theorem Gd{pins:List (Addr×Obj)}{σ:St}{H:Hp}{s:Shared}{Q:VK}{us:List Value}{vs:List V}(M:Mk X.K C f)(F:cf X.prog X.w X.K X.mg X.base CX k f fd ps sp)(hr:bJ (k+1) X.A)(hb:Binds X.K fd ps ds)(hd:Vals eZ ds)
  (hx:Passes CX X E) (I:Inv X pins σ H s) (r:Vals vs us)
  (h:∀x dx,H x=none->H dx=none->dx≠x->sp (.ref x::(vs++eZ)) (upd (upd H dx (.own x)) x (.ins C dx [])) (fun v H2=>v=.non/\Q (.ref x) H2) E) :
  wpAny (model X.prog X.w) X.A (call (.ref C) us) (EP X pins σ Q) X.xe s:=by
 have hq:=h (s.heap.objs.size+1) s.heap.objs.size (I.ax.fresh (yH _)) (I.ax.fresh (zp _)) (zC (xt _));have I2:=Inv.made (C:=C) I;have r2:Vals (V.ref (s.heap.objs.size+1)::(vs++eZ)) (Value.ref (s.heap.objs.size+1)::(us++ds)):=.cons rfl (r.append hd);have hl:(Value.ref (s.heap.objs.size+1)::us++ds).length=ps.length:=by
  have e:=r2.length;rw[F.len _ _ _ _ hq]at e;exact e.symm
 refine wpAny_call (GP (f:=f) I.dY M.makes M.init (beq_iff_eq.mp M.fn) (codeAny_mono (F.run _ X.stack _ _ ⟨Value.ref (s.heap.objs.size+1)::us,[]⟩ (Value.ref (s.heap.objs.size+1)::(us++ds)) _ _ E (hr.make C us [])
  (I2.CM.make C us []) (hb _ (Value.ref (s.heap.objs.size+1)::us) I2.dY hl) r2 hq) fun r s' hq'=>?_))
 cases r with
 |error e=>exact hx pins σ _ _ e s' I2 hq'
 |ok fl =>
  cases fl with
  |ret u =>
   obtain⟨v,H',I3,rv,ev,q3⟩:=I2.after hq';subst ev;exact⟨rv,⟨V.ref (s.heap.objs.size+1),H',I3,rfl,q3⟩⟩
  |next=>exact False.elim hq'
  |brk=>exact False.elim hq'
  |cont=>exact False.elim hq'
theorem Kn(M:Mk X.K C f)(F:cf X.prog X.w X.K X.mg X.base CX k f fd ps sp)(hr:bJ (k+1) X.A)(hg:Gl X x)(hm:X.mg x=some (.ref C))(hb:Binds X.K fd ps ds)(hd:Vals eZ ds)(hx:Passes CX X E)
  (ha:PA X (e::es) t) (oV:(x==("__debug__":Str))=false:=by decide) (he:starEach (e::es) X.env=(false,eval e X.env)::starEach es X.env:=by rfl) (fX:(backTo pos (starEach es X.env)).any (·.1)=false:=by rfl) :
  PE X (.Call (.Name x p) (e::es) [] pos) (HR C sp eZ E t):=by
 intro pins s σ H Q I h;refine wpAny_Call_Name_kw (iN I hg hm ?_ oV);refine Z6 (h₀:=X.base) I.ok.mod.qQ M.kp (aH (ha pos pins s σ H _ I h) fun us s1 ⟨vs,H1,I1,r,q⟩=>⟨I1.dY,?_⟩) he fX;exact Gd M F hr hb hd hx I1 r q
end
def PK(X:Cx)(Er:List Keyword)(t:TA):Prop :=
 ∀(pos:Pos) (pins:List (Addr×Obj)) (s:Shared) (σ:St) (H:Hp) (Q:List V->Hp->Prop),Inv X pins σ H s->t σ H Q->wpAny (model X.prog X.w) X.A (evalAll ((backToKw pos (keywordEach Er X.env)).map (·.2))) (AP X pins σ Q) X.xe s
section
variable {X:Cx}{CX:lG}{k:Nat}{f C:Addr}{fd:FuncData}{ps ks:List Str}{sp:Sp}{E:XK}{x m:Str}{p pos apos kpos:Pos}{e o:Expr}{es:List Expr}{Er:List Keyword}{te ta:TE}{t tk:TA}{nm:Option Str}
theorem Mw:PK X [] gS:=fun _ _ _ _ H Q I h=>wpAny_evalAll_nil ⟨[],H,I,.nil,h⟩
theorem Km(ha:PE X e te)(hr:PK X Er t):PK X (⟨nm,e,kpos⟩::Er) (cR te t):=by
 intro pos pins s σ H Q I h;show wpAny _ _ (evalAll ((do let v<-eval e X.env;standAt pos;pure v)::(backToKw pos (keywordEach Er X.env)).map (·.2))) _ _ s;refine wpAny_evalAll_cons (zz (aH (ha pins s σ H _ I h) fun u s1 ⟨x,H1,I1,r1,q1⟩=>zz (wpAny_standAt (zt ?_))));exact aH (hr pos pins s1 σ H1 _ I1 q1) fun us s2 ⟨xs,H2,I2,r2,q2⟩=>⟨x::xs,H2,I2,.cons r1 r2,q2⟩
variable {g:List Value->List Value->List Value}{gV:List V->List V->List V}
end
structure cq (N P:List Str) (sc:Scope):Prop where
 kind:sc.kind=.function
 co:sc.isCoroutine=false
 gen:sc.isGenerator=false
 nd:N.Nodup
 pre:N.take P.length=P
 par:∀x∈P,sc.names.lookup x=some .local\/sc.names.lookup x=some .cell
 MW:∀y∈sc.names,y.2≠.free
theorem rC{kindOf:Str->Option NameKind}{x:Str}:∀{binds:List (Str×Value)} {m:Str->Option Value},(∀v,(x,v) ∉ binds)->bindL kindOf binds m x=m x
 |[],_,_=>rfl
 | (n,v)::r,m,h=>by
  unfold bindL;rw[rC fun w hw=>h w (zU _ hw)];split
  ·have:x≠n:=by rintro rfl;exact h v zR
   simp[this]
  ·rfl
theorem rE{kindOf:Str->Option NameKind}{x:Str}:∀{binds:List (Str×Value)} {m:Str->Option Value},(∀v,(x,v) ∉ binds)->bindC kindOf binds m x=m x
 |[],_,_=>rfl
 | (n,v)::r,m,h=>by
  unfold bindC;rw[rE fun w hw=>h w (zU _ hw)];split
  ·rfl
  ·have:x≠n:=by rintro rfl;exact h v zR
   simp[this]
theorem rD{kindOf:Str->Option NameKind}{x:Str}{v:Value}:∀{P:List Str} {vs:List Value} {i:Nat} {m:Str->Option Value},P.Nodup->P[i]?=some x->vs[i]?=some v->kindOf x=some .local ->
  bindL kindOf (P.zip vs) m x=some v
 |[],_,_,_,_,h,_,_=>by simp at h
 |_::_,[],_,_,_,_,h,_=>by simp at h
 |p::P,w::vs,0,m,nd,h1,h2,hk=>by
  simp at h1 h2;subst h1;subst h2;show bindL kindOf ((p,w)::P.zip vs) m p=_;unfold bindL;rw[rC fun v hv=>(yT.mp nd).1 (xm hv).1,if_pos hk];simp
 |p::P,w::vs,i+1,m,nd,h1,h2,hk=>by
  show bindL kindOf ((p,w)::P.zip vs) m x=_;unfold bindL;exact rD (i:=i) (yT.mp nd).2 (by simpa using h1) (by simpa using h2) hk
theorem rF{kindOf:Str->Option NameKind}{x:Str}{v:Value}:∀{P:List Str} {vs:List Value} {i:Nat} {m:Str->Option Value},P.Nodup->P[i]?=some x->vs[i]?=some v->kindOf x≠some .local ->
  bindC kindOf (P.zip vs) m x=some v
 |[],_,_,_,_,h,_,_=>by simp at h
 |_::_,[],_,_,_,_,h,_=>by simp at h
 |p::P,w::vs,0,m,nd,h1,h2,hk=>by
  simp at h1 h2;subst h1;subst h2;show bindC kindOf ((p,w)::P.zip vs) m p=_;unfold bindC;rw[rE fun v hv=>(yT.mp nd).1 (xm hv).1,if_neg hk];simp
 |p::P,w::vs,i+1,m,nd,h1,h2,hk=>by
  show bindC kindOf ((p,w)::P.zip vs) m x=_;unfold bindC;exact rF (i:=i) (yT.mp nd).2 (by simpa using h1) (by simpa using h2) hk
def start(N:List Str)(vs:List V):St:=vs.map some++zM (N.length-vs.length) none
def eG(CX:lG)(P:Program)(w:World)(K:Q_)(mg:Str->Option Value)(base:Heap)(N:List Str)(qual:Str)(scope:Scope)(f:Addr)(cd:Value)(A:Around)(outer:List Env)(s:Shared)(H:Hp)(E:XK):Cx where
 prog:=P
 w:=w
 K:=K
 mg:=mg
 base:=base
 A:=A.deeper (envOfC qual scope s.heap.objs.size f cd)
 N:=N
 s₀:=s
 H₀:=H
 env:=envOfC qual scope s.heap.objs.size f cd
 outer:=outer
 stack:=envOfC qual scope s.heap.objs.size f cd::outer
 ex:=[]
 calm:=true
 fn:=fun _=>true
 pn:=[]
 xe:=fun e s'=>wpAny (model P w) (A.deeper (envOfC qual scope s.heap.objs.size f cd)) (leaving (envOfC qual scope s.heap.objs.size f cd) e) (fun _ s''=>CX outer H s E e s'') (fun e' s''=>CX outer H s E e' s'') s'
theorem uW{sc:Scope}{n:Nat}{x:Str}(h:sc.names.lookup x=some .cell):∃c,(cellsFrom n sc.names []).lookup x=some c:=by
 have q:=Y4 sc.names n [] (.inl h);exact xF.mp q
theorem qS{CX:lG}{P:Program}{w:World}{K:Q_}{mg:Str->Option Value}{base:Heap}{N ps:List Str}{qual:Str}{scope:Scope}{f:Addr}{cd:Value}{A:Around}{outer:List Env}{s s1:Shared}{H:Hp}{E:XK}{us:List Value}{vs:List V}
  (S:cq N ps scope) (hd:A.handled=none) (e0:mm P w K mg base A outer s H) (hl:vs.length=ps.length) (r:Vals vs us)
  (x:InCallC s s.heap.objs.size (bindL (envOfC qual scope s.heap.objs.size f cd).kindOf (ps.zip us) fun _=>none) (cellsFrom (s.heap.objs.size+1) scope.names []) (bindC (envOfC qual scope s.heap.objs.size f cd).kindOf (ps.zip us) fun _=>none) s1) :
  Inv (eG CX P w K mg base N qual scope f cd A outer s H E) [] (start N vs) H s1:=by
 have fX:ps.length<=N.length:=by have:=congrArg List.length S.pre;rw[zW]at this;omega
 obtain⟨h1,tk,rfl,hk⟩:=x.done;have noA:∀b:Addr,b ∉ (eG CX P w K mg base N qual scope f cd A outer s H E).ex:=fun b z=>absurd (show b∈([]:List Addr) from z) (by simp);refine⟨⟨e0.mod,S.kind,rfl,rfl,zp _,fun y z c h1 h2=>?_,fun y hy=>?_,fun y c _ h=>?_,fun _=>hd,Around.frames_deeper e0.frames,.inr ⟨rfl,rfl⟩,fun b z=>absurd z (noA b),e0.bs,e0.lF,fun b _ _=>noA b,fun b z=>absurd z (noA b),e0.eU,e0.nh⟩,
  rfl,e0.bare,Un.kept hk,⟨_,x.toInCall.ns,fun i y v h1 h2 h3=>?_⟩,fun y c h=>⟨_,x.cell y c h⟩,e0.ax.fresh (zp _),fun y c h=>?_,fun p hp=>absurd (show p∈([]:List (Addr×Obj)) from hp) (by simp),e0.ax.kept hk,?_⟩
 ·exact name_of_addr x.apart (PySem.mem_of_lookup h1) (PySem.mem_of_lookup h2)
 ·have hy:scope.names.lookup y=some .cell\/scope.names.lookup y=some .free:=hy
  rcases hy with hy|hy
  ·exact uW hy
  ·exact absurd rfl (S.MW _ (PySem.mem_of_lookup hy))
 ·exact wd (x.above y c (PySem.mem_of_lookup h))
 ·have hi:i<vs.length:=by
   unfold start at h2;by_cases hi:i<vs.length
   ·exact hi
   ·rw[zc (by simpa using hi)]at h2
    rw[yZ]at h2;split at h2 <;> cases h2
  have ha:vs[i]?=some v:=by
   unfold start at h2;rw[zG (by simpa using hi),zA]at h2;cases e:vs[i]? with
   |none=>rw[e]at h2;cases h2
   |some a=>rw[e]at h2;cases h2;rfl
  obtain⟨u,hu,rv⟩:=r.get ha;have hp:ps[i]?=some y:=by
   rw[<- S.pre,xG (by first|lia|omega)];exact h1
  have Qn:ps.Nodup:=by rw[<- S.pre];exact S.nd.sublist (wc _ _)
  refine⟨u,rv,?_⟩;rcases S.par y (zF hp) with k|k
  ·exact .inl ⟨k,rD Qn hp hu k⟩
  ·obtain⟨c,e⟩:=uW (n:=s.heap.objs.size+1) k
   refine .inr ⟨.inl k,c,e,?_⟩;have q:=x.cell y c e;rw[rF Qn hp hu (by show scope.names.lookup y≠_;rw[k];decide)]at q;exact q
 ·exact e0.ax.fresh (wd (x.above y c (PySem.mem_of_lookup h)))
 ·unfold start
  show _=N.length;rw[ze,zl,yt];first|lia|omega
theorem Jq{CX:lG}{P:Program}{w:World}{K:Q_}{mg:Str->Option Value}{base:Heap}{k:Nat}{f:Addr}{name qual:Str}{params:Arguments}{body:List Stmt}{scope:Scope}{dV kV doc pm cdv ct oc:Value}{an od:Option Addr}
  {iW:Array (Option Value)} {N ps:List Str} {sp:Sp} (lk:K.lookup f=some ⟨oc,od,.func (Z1 name qual params body scope dV kV doc pm an cdv ct),iW⟩) (kj:Z7 K cdv qual=true) (S:cq N ps scope)
  (len:∀vs H Q E,sp vs H Q E->vs.length=ps.length)
  (CH:∀(A:Around) (outer:List Env) (s:Shared) (H:Hp) (vs:List V) (Q:VK) (E:XK),bJ k (A.deeper (envOfC qual scope s.heap.objs.size f cdv))->sp vs H Q E ->
   ∃t,du (eG CX P w K mg base N qual scope f cdv A outer s H E) body t/\t { nx:=fun _ H'=>Q .non H',rt:=Q } (start N vs) H) :
  cf P w K mg base CX (k+1) f (Z1 name qual params body scope dV kV doc pm an cdv ct) ps sp:=by
 refine⟨len,fun A outer s H args us vs Q E hr e0 hb r hsp=>?_⟩;have hl:=len _ _ _ _ hsp;have KX:K.In s.heap:=e0.mod.qQ.keeps fun b o e=>(e0.bs b o e).1;have lim:s.heap.NoLimit:=e0.mod.nolimit.keeps fun b o e=>(e0.bs b o e).1;have CF:∀y∈ps.zip us,scope.names.lookup y.1=some .local\/(scope.names.lookup y.1=some .cell/\((cellsFrom (s.heap.objs.size+1) scope.names []).lookup y.1).isSome=true):=fun ⟨n,v⟩ hy=>by
  rcases S.par n (xm hy).1 with q|q
  ·exact .inl q
  ·exact .inr ⟨q,Y4 _ _ _ (.inl q)⟩
 refine codeAny_call_function hr.depth (KX _ _ lk) rfl S.co S.gen rfl (Y6 KX kj) (hb _ _ _ _ ?_);refine wpAny_newFunctionEnv_cells S.kind CF fun env he s1 x=>?_;subst he;refine⟨lim.keeps x.toInCall.keep,codeAny_func ?_⟩;obtain⟨t,ht,hq⟩:=CH A outer s H vs Q E (hr.deeper _) hsp;have I:Inv (eG CX P w K mg base N qual scope f cdv A outer s H E) [] (start N vs) H s1:=qS S hr.hd e0 hl r x;refine wpAny_mono (ht [] s1 (start N vs) H _ I hq) (fun fl s' hs=>?_) fun e s' hs=>hs;have fin:∀{σ':St} {H':Hp} {v:V} {u:Value},Inv (eG CX P w K mg base N qual scope f cdv A outer s H E) [] σ' H' s'->RelV v u->Q v H'->CE outer P w H s Q u s' :=
  fun {σ' H' v u} J rv q=>⟨v,H',J.os,J.bare,J.base,J.ax,rv,q⟩
 cases fl with
 |ret u =>
  obtain⟨v,σ',H',J,rv,q⟩:=hs;exact fin J rv q
 |next =>
  obtain⟨σ',H',J,q⟩:=hs;exact fin (v:=V.non) (u:=Value.none) J rfl q
 |brk =>
  obtain⟨_,_,_,q⟩:=hs;exact False.elim q
 |cont =>
  obtain⟨_,_,_,q⟩:=hs;exact False.elim q
end L2
namespace L2
open PySem PySem.Spec PyProof.Rows
section
variable {X:Cx}{x:Str}{p pos:Pos}{e:Expr}{es:List Expr}{t:TA}{id T:String}{r:List V->Hp->VK->Prop}
def vU(r:List V->Hp->VK->Prop)(t:TA):TE:=fun σ H Q=>t σ H fun vs H1=>r vs H1 Q
theorem dP(hc:cI X (.builtin id) r)(hg:Gl X x)(hm:X.mg x=none)(hv:bootBuiltins x=some (.builtin id))(ha:PA X (e::es) t)(hn:x≠"__name__":=by decide)(oV:(x==("__debug__":Str))=false:=by decide)
  (he:starEach (e::es) X.env=(false,eval e X.env)::starEach es X.env:=by rfl) (fX:(backTo pos (starEach es X.env)).any (·.1)=false:=by rfl):PE X (.Call (.Name x p) (e::es) [] pos) (vU r t):=by
 intro pins s σ H Q I h;refine wpAny_Call_Name_kw (iu I hg hm hv ?_ hn oV);exact PyProof.Rows.callWith_builtin1 (aH (ha pos pins s σ H _ I h) fun us s1 ⟨vs,H1,I1,r1,q1⟩=>hc pins s1 σ H1 vs us Q I1 r1 q1) he fX
theorem il(hc:cI X (.type T) r)(hg:Gl X x)(hm:X.mg x=none)(hv:bootBuiltins x=some (.type T))(ha:PA X (e::es) t)(hn:x≠"__name__":=by decide)(oV:(x==("__debug__":Str))=false:=by decide)
  (he:starEach (e::es) X.env=(false,eval e X.env)::starEach es X.env:=by rfl) (fX:(backTo pos (starEach es X.env)).any (·.1)=false:=by rfl):PE X (.Call (.Name x p) (e::es) [] pos) (vU r t):=by
 intro pins s σ H Q I h;refine wpAny_Call_Name_kw (iu I hg hm hv ?_ hn oV);exact q_ (aH (ha pos pins s σ H _ I h) fun us s1 ⟨vs,H1,I1,r1,q1⟩=>hc pins s1 σ H1 vs us Q I1 r1 q1) he fX
end
end L2
namespace HT
open PySem PyProof.Rows
section
open PySem.SeqAt
open PySem.AutoSeq1 (wpAny_loadPart')
open PySem.MeetsSeq PySem.MeetsSeq2 PySem.MeetsSeq3
end
section
variable {prog:Program}{w:World}{A:Around}{E:Value->Shared->Prop}{s:Shared}
theorem K9{t b:Addr}{vs ws:List Value}{Q:Value->Shared->Prop}(ht:IsTup s.heap t vs.toArray)(hb:IsTup s.heap b ws.toArray)(hv:vs≠[])
  (h1:ws=[]->Q (.ref t) s) (h2:ws≠[]->Q (.ref s.heap.objs.size) { s with heap:=s.heap.push { cls:=.type "tuple",data:=.seq (vs++ws).toArray } })
  (hsz:vs.length+ws.length<=zq):wpAny (model prog w) A (binaryOp .Add (.ref t) (.ref b)) Q E s:=by
 obtain⟨⟨cls,dd,data,sl⟩,ho,hc,n,hd⟩:=id ht;obtain⟨⟨Sz,Jw,data2,HW⟩,uA,oX,n2,hd2⟩:=id hb;simp only at hc hd oX hd2;subst hc hd oX hd2;have e:vs.toArray++ws.toArray=(vs++ws).toArray:=by simp
 by_cases hw:ws=[]
 ·exact concat_meets ⟨_,ho,rfl⟩ ⟨_,uA,rfl⟩ noFill_tuple_add seq_tuple_add PySem.F.slot_tuple_add PySem.F.entry_tuple_add (PySem.F.args_tuple_add_2 _ _)
   (tuple_addW1 t b vs.toArray ws.toArray n n2 dd Jw sl HW (by simpa using hv) (by simp[hw])) ⟨ho,uA,h1 hw⟩
 ·refine concat_meets ⟨_,ho,rfl⟩ ⟨_,uA,rfl⟩ noFill_tuple_add seq_tuple_add PySem.F.slot_tuple_add PySem.F.entry_tuple_add (PySem.F.args_tuple_add_2 _ _)
   (tuple_addW2 t b vs.toArray ws.toArray n n2 dd Jw sl HW (by simpa using hv) (by simpa using hw) (by rw[zo,zo];exact hsz)) ⟨ho,uA,?_⟩
  rw[e];exact h2 hw
def bt(n d:Nat):Option Int->Nat
 |none=>d
 |some v=>if v<0 then (v+(n:Int)).toNat else min v.toNat n
theorem LW(n d:Nat)(hd:d<=n)(o:Option Int):bt n d o<=n:=by
 cases o with
 |none=>exact hd
 |some v =>
  show (if v<0 then (v+(n:Int)).toNat else min v.toNat n)<=n;by_cases hv:v<0
  ·rw[if_pos hv];omega
  ·rw[if_neg hv];exact Nat.min_le_right _ _
theorem AI(v:Int)(n d:Nat):(if v<0 then max (v+(n:Int)) 0 else min v (n:Int))=((bt n d (some v):Nat):Int):=by
 show (if v<0 then max (v+(n:Int)) 0 else min v (n:Int))=(((if v<0 then (v+(n:Int)).toNat else min v.toNat n):Nat):Int);by_cases hv:v<0
 ·simp only[if_pos hv];omega
 ·simp only[if_neg hv];omega
theorem C6(lo hi:Option Int)(n:Nat):Builtin.Slice.sliceAdjust lo hi 1 (n:Int)=(((bt n 0 lo:Nat):Int),((bt n n hi:Nat):Int)):=by
 have h1:¬ ((1:Int)<0):=by first|lia|omega
 unfold Builtin.Slice.sliceAdjust;simp only[h1,if_false];refine Prod.ext ?_ ?_
 ·cases lo with
  |none=>rfl
  |some v=>exact AI v n 0
 ·cases hi with
  |none=>rfl
  |some v=>exact AI v n n
theorem BZ(i j:Nat):Builtin.Slice.slicePlaces (i:Int) (j:Int) 1=j-i:=by
 unfold Builtin.Slice.slicePlaces;have h1:(1:Int) > 0:=by first|lia|omega
 simp only[h1,if_true,Int.ediv_one];split <;> omega
theorem ox{v:Value}{o:Option Int}{Q:Option Int->Shared->Prop}(p:IsPart v o)(h:Q o s):wpAny (model prog w) A (Builtin.Slice.slicePartIndex v) Q E s:=by
 cases p with
 |none=>exact slicePart_none h
 |int i t=>exact slicePart_int h
theorem iS{sl:Addr}{vl vu:Value}{lo hi:Option Int}{n:Nat}{Q:Int×Int×Nat->Shared->Prop}(hs:s.heap.IsSliceOf sl vl vu .none)(pl:IsPart vl lo)(pu:IsPart vu hi)
  (h:Q (((bt n 0 lo:Nat):Int),1,bt n n hi-bt n 0 lo) s):wpAny (model prog w) A (Builtin.Slice.sliceApplied (.ref sl) (pure (n:Int))) Q E s:=by
 obtain⟨os,uy,Jh,oU⟩:=id hs;unfold Builtin.Slice.sliceApplied Builtin.Slice.sliceFields;refine zz (zz (wpAny_field uy oU (x:=vl) rfl (zz (wpAny_field uy oU (x:=vu) rfl (zz (wpAny_field uy oU (x:=.none) rfl (zt ?_)))))));refine zz (slicePart_none ?_);show wpAny _ _ (if ((1:Int)==0)=true then _ else _) _ _ s;rw[if_neg (by decide)];refine zz (ox pl (zz (ox pu (zz (zt ?_)))));show wpAny _ _ (match Builtin.Slice.sliceAdjust lo hi 1 (n:Int) with|(lo,hi)=>pure (lo,(1:Int),Builtin.Slice.slicePlaces lo hi 1)) _ _ s;rw[C6 lo hi n];show wpAny _ _ (pure (((bt n 0 lo:Nat):Int),(1:Int),Builtin.Slice.slicePlaces ((bt n 0 lo:Nat):Int) ((bt n n hi:Nat):Int) 1)) _ _ s;rw[BZ];exact zt h
theorem Gu(xs:Array Value)(i k:Nat):((List.range k).filterMap fun (m:Nat)=>xs[((i:Int)+(m:Int)*1).toNat]?).toArray=((xs.toList.drop i).take k).toArray:=by
 have e:(fun (m:Nat)=>xs[((i:Int)+(m:Int)*1).toNat]?)=fun m=>xs[i+m]?:=by
  funext m
  have:((i:Int)+(m:Int)*1).toNat=i+m:=by first|lia|omega
  rw[this]
 rw[e]
 have:=pick_run xs i k
 rw[xf]at this;have e2:((fun x=>xs[x]?) ∘ fun x=>i+x)=fun m=>xs[i+m]?:=rfl;rw[e2]at this;rw[this]
theorem mS{t sl:Addr}{items:Array Value}{vl vu:Value}{lo hi:Option Int}{Q:Value->Shared->Prop}(ht:IsTup s.heap t items)(hs:s.heap.IsSliceOf sl vl vu .none)(pl:IsPart vl lo)(pu:IsPart vu hi)
  (hw:¬ (bt items.size 0 lo=0/\bt items.size items.size hi=items.size))
  (h:Q (.ref s.heap.objs.size) { s with heap:=s.heap.push { cls:=.type "tuple",data:=.seq ((items.toList.drop (bt items.size 0 lo)).take (bt items.size items.size hi-bt items.size 0 lo)).toArray } })
  (hsz:items.size<=zq):wpAny (model prog w) A (getItem (.ref t) (.ref sl)) Q E s:=by
 have r8:sizeOk (.seq ((items.toList.drop (bt items.size 0 lo)).take (bt items.size items.size hi-bt items.size 0 lo)).toArray):=by
  show ((items.toList.drop (bt items.size 0 lo)).take (bt items.size items.size hi-bt items.size 0 lo)).toArray.size<=zq;rw[zo,zW,zX,xj];first|lia|omega
 have hj:bt items.size items.size hi<=items.size:=LW _ _ (zp _) hi;obtain⟨os,uy,Jh,oU⟩:=id hs;have ET:s.TypeIs (.ref sl) "slice":=⟨os,uy,Jh⟩;unfold getItem
 try with_reducible refine wpAny_holding ?_
 first|refine zz (zt ?_)|skip
 refine zz (wpAny_sequenceKey ht.typeIs (by decide) ?_);refine zz (wpAny_callSpecial?_slot (name:=Str.ofString "__getitem__") ht.typeIs z_
  (wpAny_call_entry z_ ht.typeIs entry_tuple_getitem ?_ (args_tuple_getitem _ _)))
 show wpAny _ _ (Builtin.Tuple.tupleItemsOf (.ref t) >>= _) _ _ s;refine zz (tupleItemsOf_ ht ?_);refine zz (wpAny_typeOf ET ?_);rw[if_pos (by decide)];refine zz (iS hs pl pu ?_);have NF:¬ ((((bt items.size 0 lo:Nat):Int)==0&&(1:Int)==1&&(bt items.size items.size hi-bt items.size 0 lo)==items.size)=true):=by
  intro q;rw[zx,zx]at q;have q1:((bt items.size 0 lo:Nat):Int)=0:=eq_of_beq q.1.1;have q2:bt items.size items.size hi-bt items.size 0 lo=items.size:=eq_of_beq q.2;exact hw ⟨by omega,by omega⟩
 show wpAny _ _ (if (((bt items.size 0 lo:Nat):Int)==0&&(1:Int)==1&&(bt items.size items.size hi-bt items.size 0 lo)==items.size)=true then _ else _) _ _ s;rw[if_neg NF,Gu]
 first
  |exact zz (m:=Builtin.Tuple.tupleExact _) (wpAny_newObj_type (zt ⟨_,rfl,zt h⟩) r8)
  |exact zz (m:=Builtin.Tuple.tupleExact _) (wpAny_newObj_type (zz (zt (zt ⟨_,rfl,zt h⟩))) r8)
  |exact zz (zz (m:=Builtin.Tuple.tupleExact _) (wpAny_newObj_type (zt (zt ⟨_,rfl,zt h⟩)) r8))
  |exact zz (zz (m:=Builtin.Tuple.tupleExact _) (wpAny_newObj_type (zt ⟨_,rfl,zt h⟩) r8))
end
end HT
namespace L2
open PySem PySem.Spec PyProof.Rows
abbrev TO:=St->Hp->(Option Int->Hp->Prop)->Prop
def PO(X:Cx)(e:Option Expr)(t:TO):Prop :=
 ∀(pins:List (Addr×Obj)) (s:Shared) (σ:St) (H:Hp) (Q:Option Int->Hp->Prop),Inv X pins σ H s->t σ H Q ->
  wpAny (model X.prog X.w) X.A (evalPart e X.env) (fun u s'=>∃o H',Inv X pins σ H' s'/\IsPart u o/\Q o H') X.xe s
def vT:TO:=fun _ H Q=>Q none H
def HN(t:TE):TO:=fun σ H Q=>t σ H fun x H1=>∃i,x=.int i/\Q (some i) H1
section
variable {X:Cx}{e:Expr}{te:TE}{lo hi:Option Expr}{tl th:TO}{pos p2:Pos}
theorem Kl:PO X none vT:=by
 intro pins s σ H Q I h;rw[evalPart_none];exact zt ⟨none,H,I,.none,h⟩
theorem Kk(h:PE X e te):PO X (some e) (HN te):=by
 intro pins s σ H Q I hw;rw[evalPart_some];refine aH (h pins s σ H _ I hw) fun u s1 ⟨x,H1,I1,r1,q1⟩=>?_;obtain⟨i,rfl,q⟩:=q1;obtain⟨t,rfl⟩:=r1;exact⟨some i,H1,I1,.int i t,q⟩
def FD(X:Cx)(r:V->Option Int->Option Int->Hp->VK->Prop):Prop :=
 ∀(pins:List (Addr×Obj)) (s:Shared) (σ:St) (H:Hp) (x:V) (v vl vu:Value) (lo hi:Option Int) (sl:Addr) (Q:VK),Inv X pins σ H s->RelV x v->s.heap.IsSliceOf sl vl vu .none->IsPart vl lo->IsPart vu hi->r x lo hi H Q ->
  ∃T id,typeLookup (.type T) "__getitem__" = pure (some (.builtin id))/\s.TypeIs v T/\wpAny (model X.prog X.w) X.A (getItem v (.ref sl)) (EP X pins σ Q) X.xe s
def Qc(r:V->Option Int->Option Int->Hp->VK->Prop)(te:TE)(tl th:TO):TE:=fun σ H Q=>te σ H fun x H1=>tl σ H1 fun l H2=>th σ H2 fun u H3=>r x l u H3 Q
theorem Gv{r:V->Option Int->Option Int->Hp->VK->Prop}(hr:FD X r)(he:PE X e te)(hl:PO X lo tl)(hu:PO X hi th):PE X (.Subscript e (.Slice lo hi none p2) pos) (Qc r te tl th):=by
 intro pins s σ H Q I h;refine Subscript_ (aH (he pins s σ H _ I h) fun v s1 ⟨x,H1,I1,r1,q1⟩=>?_);refine wpAny_Slice (aH (hl pins s1 σ H1 _ I1 q1) fun vl s2 ⟨l,H2,I2,pl,q2⟩=>aH (hu pins s2 σ H2 _ I2 q2) fun vu s3 ⟨u,H3,I3,pu,q3⟩=>?_);rw[evalPart_none];refine zt ?_;have I4:Inv X pins σ H3 { s3 with heap:=s3.heap.push { cls:=.type "slice",data:=.fields #[vl,vu,.none] } }:=I3.kept (t':=s3.toks) fun b ob q=>zy _ q;obtain⟨T,id,hT,ht,hg⟩:=hr pins { s3 with heap:=s3.heap.push { cls:=.type "slice",data:=.fields #[vl,vu,.none] } } σ H3 x v vl vu l u s3.heap.objs.size Q I4 r1 (Heap.IsSliceOf.new ..) pl pu q3;show wpAny (model X.prog X.w) X.A (subscriptTail e (.Slice lo hi none p2) v (.ref s3.heap.objs.size)) (EP X pins σ Q) X.xe { s3 with heap:=s3.heap.push { cls:=.type "slice",data:=.fields #[vl,vu,.none] } };exact tail_any (ops:=[.ref s3.heap.objs.size,v]) ht hT hg (by with_unfolding_all rfl)
def nW(xs:List V)(lo hi:Option Int):List V:=(xs.drop (HT.bt xs.length 0 lo)).take (HT.bt xs.length xs.length hi-HT.bt xs.length 0 lo)
theorem nk(xs:List V)(lo hi:Option Int):(nW xs lo hi).length<=xs.length:=by
 unfold nW;rw[zW,zX];first|lia|omega
def RF(K:Q_):V->Option Int->Option Int->Hp->VK->Prop:=fun x lo hi H Q=>∃a xs,x=.ref a/\cD K H a xs /\
 ¬ (HT.bt xs.length 0 lo=0/\HT.bt xs.length xs.length hi=xs.length)/\∀p,H p=none->Q (.ref p) (upd H p (.tup (nW xs lo hi)))
theorem LN:FD X (RF X.K):=by
 intro pins s σ H x v vl vu lo hi sl Q I rx hs pl pu h;obtain⟨a,xs,rfl,hx,hw,q⟩:=h;cases rx;obtain⟨its,r,ht,hz⟩:=I.tuple hx;have hlen:its.toArray.size=xs.length:=by rw[zo];exact r.length.symm
 refine⟨"tuple",_,PyProof.Rows.slot_tuple_getitem.lookup,ht.typeIs,?_⟩;refine HT.mS ht hs pl pu (by rw[hlen];exact hw) ?_ (by rw[hlen];exact hz);rw[hlen];refine⟨.ref s.heap.objs.size,_,I.laid (t':=s.toks) (o:=.tup (nW xs lo hi)) (fun b ob q=>zy _ q) (zp _) ?_,rfl,q _ (I.ax.fresh (zp _))⟩;exact⟨zN (nk xs lo hi) hz,_,(r.drop (HT.bt xs.length 0 lo)).take (HT.bt xs.length xs.length hi-HT.bt xs.length 0 lo),nZ.new _ _⟩
def O5(K:Q_):R2:=fun x y H Q=>∃a b xs ys,x=.ref a/\y=.ref b/\cD K H a xs/\cD K H b ys/\xs≠[]/\xs.length+ys.length<=zq /\
 (ys=[]->Q (.ref a) H)/\(ys≠[]->∀p,H p=none->Q (.ref p) (upd H p (.tup (xs++ys))))
theorem Vals.qe{xs:List V}{us:List Value}(r:Vals xs us):us=[] ↔ xs=[]:=by
 cases r with
 |nil=>simp
 |cons _ _=>simp
theorem Ks:cQ X (binaryOp .Add) (O5 X.K):=by
 intro pins s σ H x y v u Q I rx ry h;obtain⟨a,b,xs,ys,rfl,rfl,ha,hb,hx,hz,q1,q2⟩:=h;cases rx;cases ry;obtain⟨its,r1,p1,_⟩:=I.tuple ha;obtain⟨bO,r2,p2,_⟩:=I.tuple hb;refine HT.K9 p1 p2 (fun z=>hx (r1.qe.mp z)) (fun z=>⟨.ref a,H,I,rfl,q1 (r2.qe.mp z)⟩) (fun z=>?_) (by rw[<- r1.length,<- r2.length];exact hz);refine⟨.ref s.heap.objs.size,_,I.laid (t':=s.toks) (o:=.tup (xs++ys)) (fun b ob q=>zy _ q) (zp _) ?_,rfl,q2 (fun w=>z (r2.qe.mpr w)) _ (I.ax.fresh (zp _))⟩;exact⟨by rw[ze];exact hz,_,r1.append r2,nZ.new _ _⟩
end
end L2
namespace L2
open PySem PySem.Spec PyProof.Rows
def Aw(n:Nat)(i:Int):Option Nat:=if 0<=i then (if i<n then some i.toNat else none) else if -(n:Int)<=i then some (i+n).toNat else none
def pO{α:Type}(xs:List α)(i:Int):Option α:=(Aw xs.length i).bind fun j=>xs[j]?
theorem Av{n:Nat}{i:Int}{j:Nat}(h:Aw n i=some j):seqIndex? i n=some j/\j<n/\-(n:Int)<=i/\i<n:=by
 unfold Aw at h;by_cases h0:0<=i
 ·rw[if_pos h0]at h
  by_cases h1:i<n
  ·rw[if_pos h1]at h
   have e:i.toNat=j:=Option.some.inj h;exact⟨by rw[seqIndex_of h0 h1,e],by omega,by omega,h1⟩
  ·rw[if_neg h1]at h;cases h
 ·rw[if_neg h0]at h
  by_cases h1:-(n:Int)<=i
  ·rw[if_pos h1]at h
   have e:(i+n).toNat=j:=Option.some.inj h;exact⟨by rw[seqIndex_neg (by first|lia|omega) h1,e],by omega,h1,by omega⟩
  ·rw[if_neg h1]at h;cases h
theorem qv{α:Type}{xs:List α}{i:Int}{v:α}(h:pO xs i=some v):∃j,seqIndex? i xs.length=some j/\xs[j]?=some v/\j<xs.length/\-(xs.length:Int)<=i/\i<xs.length:=by
 unfold pO at h;cases e:Aw xs.length i with
 |none=>rw[e]at h;cases h
 |some j =>
  rw[e]at h;obtain⟨h1,h2,h3,h4⟩:=Av e;exact⟨j,h1,h,h2,h3,h4⟩
def AN(b:Expr):Prop:=∀o i,subscripted b false o i=operate [o,i] (getItem o i)
def AQ(X:Cx)(r:R2):Prop :=
 ∀(value slice:Expr) (pins:List (Addr×Obj)) (s:Shared) (σ:St) (H:Hp) (x y:V) (v u:Value) (Q:VK),Inv X pins σ H s->RelV x v->RelV y u->r x y H Q ->
  subscripted slice false v u=operate [v,u] (getItem v u)->wpAny (model X.prog X.w) X.A (subscriptTail value slice v u) (EP X pins σ Q) X.xe s
def nq(X:Cx)(id:String)(r:V->List V->Hp->VK->Prop):Prop :=
 ∀(pins:List (Addr×Obj)) (s:Shared) (σ:St) (H:Hp) (x:V) (xs:List V) (v:Value) (us:List Value) (Q:VK),Inv X pins σ H s->RelV x v->Vals xs us->r x xs H Q ->
  wpAny (model X.prog X.w) X.A (call (.builtin id) (v::us)) (EP X pins σ Q) X.xe s
section
variable {X:Cx}{a b:Expr}{ta tb:TE}{pos:Pos}
theorem B0{r:R2}(hr:AQ X r)(ha:PE X a ta)(hb:PE X b tb)(hs:AN b):PE X (.Subscript a b pos) (lq r ta tb):=by
 intro pins s σ H Q I h;exact Subscript_ (Hz ha hb I h fun v u s2 x y H2 I2 rx ry q=>hr a b pins s2 σ H2 x y v u Q I2 rx ry q (hs _ _))
def kE(K:Q_):R2:=fun x y H Q=>∃p xs i v,x=.ref p/\y=.int i/\aN K H p xs/\pO xs i=some v/\Q v H
def RH(K:Q_):R2:=fun x y H Q=>∃p xs i v,x=.ref p/\y=.int i/\cD K H p xs/\pO xs i=some v/\Q v H
def RI:R2:=fun x y H Q=>∃z i c,x=.str z/\y=.int i/\z.length<=zq/\pO z.cps.toList i=some c/\Q (.str ⟨#[c]⟩) H
theorem mK:AQ X (kE X.K):=by
 intro value slice pins s σ H x y v u Q I rx ry h hs;obtain⟨p,xs,i,z,rfl,rfl,hq,he,q⟩:=h;cases rx;obtain⟨t,rfl⟩:=ry;obtain⟨its,r,pl,hz⟩:=I.list hq;obtain⟨j,h1,h2,h3,h4,h5⟩:=qv he;obtain⟨w,ew,rw'⟩:=r.get h2;have hl:=r.length;have hn:=iY;have fin:EP X pins σ Q w s:=⟨z,H,I,rw',q⟩;by_cases h0:0<=i
 ·have hj:i.toNat=j:=by
   rw[seqIndex_of h0 h5]at h1;exact Option.some.inj h1
  exact item_listR pl.isList h0 (by first|lia|omega) (by rw[hj];simpa using ew) fin hs
 ·have hj:(i+(its.toArray.size:Int)).toNat=j:=by
   rw[seqIndex_neg (by first|lia|omega) h4]at h1
   rw[zo,<- hl];exact Option.some.inj h1
  exact subscriptTail_builtinR (x:=w) pl.isList.typeIs slot_list_getitem.lookup
   (wpAny_getItem_list_neg (Q:=fun r s'=>r=w/\EP X pins σ Q r s') pl.isList (by first|lia|omega) (by rw[zo] <;> omega) (by first|lia|omega) (by rw[hj];simpa using ew) ⟨rfl,fin⟩) hs
theorem Nk:AQ X (RH X.K):=by
 intro value slice pins s σ H x y v u Q I rx ry h hs;obtain⟨p,xs,i,z,rfl,rfl,hq,he,q⟩:=h;cases rx;obtain⟨t,rfl⟩:=ry;obtain⟨its,r,pl,hz⟩:=I.tuple hq;obtain⟨j,h1,h2,h3,h4,h5⟩:=qv he;obtain⟨w,ew,rw'⟩:=r.get h2;have hl:=r.length;have hn:=iY;have fin:EP X pins σ Q w s:=⟨z,H,I,rw',q⟩;exact subscriptTail_builtinR (x:=w) pl.typeIs slot_tuple_getitem.lookup
  (getItem_tuple (j:=j) (Q:=fun r s'=>r=w/\EP X pins σ Q r s') pl (by first|lia|omega) (by first|lia|omega) (by rw[zo,<- hl];exact h1) (by simpa using ew) ⟨rfl,fin⟩) hs
theorem Nl:AQ X RI:=by
 intro value slice pins s σ H x y v u Q I rx ry h hs;obtain⟨z,i,c,rfl,rfl,hz,he,q⟩:=h;obtain⟨t,rfl⟩:=rx;obtain⟨t',rfl⟩:=ry;obtain⟨j,h1,h2,h3,h4,h5⟩:=qv he;have hl:z.cps.toList.length=z.length:=by simp[Str.length]
 rw[hl]at h1 h4 h5;have hn:=iY;exact tail_any (typeIs_str s z t) slot_str_getitem.lookup (getItem_str (c:=c) (by
  have e1:decide (i < -(2 ^ 63:Int))=false:=decide_eq_false (by first|lia|omega)
  have e2:decide (i ≥ 2 ^ 63)=false:=decide_eq_false (by first|lia|omega)
  rw[e1,e2,wu]) (by rw[h1];simpa using h2) ⟨.str ⟨#[c]⟩,H,I.tok _,⟨_,rfl⟩,q⟩) hs
theorem Cm(its:List Value)(n j:Nat)(u:Value):Obj.mapSeq (·.setIfInBounds j u) { cls:=.type "list",data:=.seq its.toArray n }={ cls:=.type "list",data:=.seq (its.set j u).toArray n }:=by
 simp[Obj.mapSeq]
theorem Inv.lst{pins:List (Addr×Obj)}{σ:St}{H:Hp}{s:Shared}{p:Addr}{xs:List V}(I:Inv X pins σ H s)(h:H p=some (.lst xs)) :
  ∃(its:List Value) (n:Nat),Vals xs its/\s.heap.get? p=some { cls:=.type "list",data:=.seq its.toArray n }/\xs.length<=zq:=by
 obtain⟨z,its,n,r,e⟩:=I.ax p _ h;exact⟨its,n,r,e,z⟩
theorem Inv.Nb{pins:List (Addr×Obj)}{σ:St}{H:Hp}{s:Shared}{p:Addr}{xs ys:List V}{its its':List Value}{n n':Nat}{f:Obj->Obj}(I:Inv X pins σ H s)(h:H p=some (.lst xs))
  (ho:s.heap.get? p=some { cls:=.type "list",data:=.seq its.toArray n }) (hf:f { cls:=.type "list",data:=.seq its.toArray n }={ cls:=.type "list",data:=.seq its'.toArray n' }) (r:Vals ys its') (hz:ys.length<=zq) (t:Nat) :
  Inv X pins σ (upd H p (.lst ys)) { s with heap:=s.heap.update p f,toks:=t }:=by
 have e:(s.heap.update p f).get? p=some { cls:=.type "list",data:=.seq its'.toArray n' }:=by
  rw[yr f ho (by rw[hf] <;> rfl),hf]
 refine I.write (x:=p) (e:=p) (by rw[h];trivial) (.inl rfl) (fun b u hb q=>(zP _ _ (Ne.symm hb)).trans q) ⟨_,e⟩ ?_;exact⟨hz,its',n',r,e⟩
def O3:V->V->V->Hp->(Hp->Prop)->Prop:=fun o i v H Q=>∃p xs k j,o=.ref p/\i=.int k/\H p=some (.lst xs)/\Aw xs.length k=some j/\Q (upd H p (.lst (xs.set j v)))
theorem set_list:HF X O3:=by
 intro pins s σ H o i v ov iv u Q I ro ri rv h;obtain⟨p,xs,k,j,rfl,rfl,hp,hj,q⟩:=h;cases ro;obtain⟨t,rfl⟩:=ri;obtain⟨its,n,r,ho,hz⟩:=I.lst hp;obtain⟨h1,h2,h3,h4⟩:=Av hj;have hl:=r.length;have hn:=iY;have I':Inv X pins σ (upd H p (.lst (xs.set j v))) { s with heap:=s.heap.update p (Obj.mapSeq (·.setIfInBounds j u)) } :=
  I.Nb hp ho (Cm its n j u) (r.set rv j) (by rw[yw];exact hz) s.toks
 by_cases h0:0<=k
 ·have hk:k.toNat=j:=by
   rw[seqIndex_of h0 h4]at h1;exact Option.some.inj h1
  exact PySem.W.ki_setAt ho h0 (by first|lia|omega) (by rw[zo,<- hl];exact h4) (by rw[hk];exact⟨_,I',q⟩)
 ·have hk:(k+(its.toArray.size:Int)).toNat=j:=by
   rw[seqIndex_neg (by first|lia|omega) h3]at h1
   rw[zo,<- hl];exact Option.some.inj h1
  exact PySem.W.ki_setBack ho (by first|lia|omega) (by rw[zo,<- hl];exact h3) (by first|lia|omega) (by rw[hk];exact⟨_,I',q⟩)
theorem sZ(lo hi:Option Int)(n:Nat):(sliceBounds lo hi none n).1=((HT.bt n 0 lo:Nat):Int)/\(sliceBounds lo hi none n).2.1=((HT.bt n n hi:Nat):Int)/\(sliceBounds lo hi none n).2.2=1:=by
 refine⟨?_,?_,rfl⟩
 ·cases lo with
  |none=>simp[sliceBounds,HT.bt]
  |some i =>
   simp only[sliceBounds,HT.bt,wE,show (1:Int) > 0 by decide,if_true];by_cases h:i<0
   ·simp only[h,if_true] <;> omega
   ·simp only[h,if_false] <;> omega
 ·cases hi with
  |none=>simp[sliceBounds,HT.bt]
  |some i =>
   simp only[sliceBounds,HT.bt,wE,show (1:Int) > 0 by decide,if_true];by_cases h:i<0
   ·simp only[h,if_true] <;> omega
   ·simp only[h,if_false] <;> omega
theorem rM(its:List Value)(lo hi:Option Int):slicePick its.toArray lo hi none=((its.drop (HT.bt its.length 0 lo)).take (HT.bt its.length its.length hi-HT.bt its.length 0 lo)).toArray:=by
 obtain⟨h1,h2,h3⟩:=sZ lo hi its.toArray.size;unfold slicePick;rw[h1,h2,h3];simp only[sliceRange_one,pick_run,zo] <;> rfl
def RG(K:Q_):V->Option Int->Option Int->Hp->VK->Prop:=fun x lo hi H Q=>∃a xs,x=.ref a/\aN K H a xs/\∀p,H p=none->Q (.ref p) (upd H p (.lst (nW xs lo hi)))
theorem w6:FD X (RG X.K):=by
 intro pins s σ H x v vl vu lo hi sl Q I rx hs pl pu h;obtain⟨a,xs,rfl,hx,q⟩:=h;cases rx;obtain⟨its,r,ht,hz⟩:=I.list hx;have hlen:=r.length;refine⟨"list",_,slot_list_getitem.lookup,ht.isList.typeIs,?_⟩;refine wpAny_getItem_list_slice ht.isList hs pl pu .none (by simp) ?_ (by rw[zo] <;> omega);rw[rM,<- hlen];refine⟨.ref s.heap.objs.size,_,I.laid (t':=s.toks) (o:=.lst (nW xs lo hi)) (fun b ob q=>zy _ q) (zp _) ?_,rfl,q _ (I.ax.fresh (zp _))⟩;exact⟨zN (nk xs lo hi) hz,_,0,(r.drop (HT.bt xs.length 0 lo)).take (HT.bt xs.length xs.length hi-HT.bt xs.length 0 lo),zk _ rfl⟩
def gj:V->Bool
 |.non=>true
 |.bl _=>true
 |.int _=>true
 |.str _=>true
 |_=>false
def lC:V->V->Bool
 |.non,.non=>true
 |.bl a,.bl b=>a==b
 |.bl a,.int b=>(if a then 1 else 0)==b
 |.int a,.bl b=>a==(if b then 1 else 0)
 |.int a,.int b=>a==b
 |.str a,.str b=>a==b
 |_,_=>false
theorem E9{A:Around}{s:Shared}{y x:V}{u v:Value}(ry:RelV y u)(rx:RelV x v)(fy:gj y=true)(fx:gj x=true):SeqAt.EqAt A s u v (lC y x):=by
 cases y with
 |non =>
  cases ry;cases x with
  |non=>cases rx;exact SeqAt.EqAt.same _
  |bl b=>cases rx;exact SeqAt.EqAt.none_bool b
  |int b=>obtain⟨t,rfl⟩:=rx;exact SeqAt.EqAt.none_int b t
  |str b=>obtain⟨t,rfl⟩:=rx;exact SeqAt.EqAt.none_str b t
  |_=>exact absurd (show false=true from fx) zu
 |bl a =>
  cases ry;cases x with
  |non=>cases rx;exact SeqAt.EqAt.bool_none a
  |bl b=>cases rx;exact SeqAt.EqAt.bool_bool a b
  |int b=>obtain⟨t,rfl⟩:=rx;exact SeqAt.EqAt.bool_int a b t
  |str b=>obtain⟨t,rfl⟩:=rx;exact SeqAt.EqAt.bool_str a b t
  |_=>exact absurd (show false=true from fx) zu
 |int a =>
  obtain⟨t',rfl⟩:=ry;cases x with
  |non=>cases rx;exact SeqAt.EqAt.int_none a t'
  |bl b=>cases rx;exact SeqAt.EqAt.int_bool a t' b
  |int b=>obtain⟨t,rfl⟩:=rx;exact SeqAt.EqAt.int_int a t' b t
  |str b=>obtain⟨t,rfl⟩:=rx;exact SeqAt.EqAt.int_str a t' b t
  |_=>exact absurd (show false=true from fx) zu
 |str a =>
  obtain⟨t',rfl⟩:=ry;cases x with
  |non=>cases rx;exact SeqAt.EqAt.str_none a t'
  |bl b=>cases rx;exact SeqAt.EqAt.str_bool a t' b
  |int b=>obtain⟨t,rfl⟩:=rx;exact SeqAt.EqAt.str_int a t' b t
  |str b=>obtain⟨t,rfl⟩:=rx;exact SeqAt.EqAt.str_str a t' b t
  |_=>exact absurd (show false=true from fx) zu
 |_=>exact absurd (show false=true from fy) zu
def uL(x:V)(u:Value):Bool:=match u with
 |.none=>lC .non x
 |.bool b=>lC (.bl b) x
 |.int i _=>lC (.int i) x
 |.str z _=>lC (.str z) x
 |_=>false
theorem E8{x y:V}{u:Value}(r:RelV y u)(f:gj y=true):uL x u=lC y x:=by
 cases y with
 |non=>cases r;rfl
 |bl b=>cases r;rfl
 |int i=>obtain⟨t,rfl⟩:=r;rfl
 |str z=>obtain⟨t,rfl⟩:=r;rfl
 |_=>exact absurd (show false=true from f) zu
theorem nN{A:Around}{s:Shared}{x:V}{v:Value}(rx:RelV x v)(fx:gj x=true):∀{xs:List V} {us:List Value},Vals xs us->xs.all gj=true->∀u∈us,SeqAt.EqAt A s u v (uL x u)
 |_,_,.nil,_=>fun u hu=>by cases hu
 |y::xs,u::us,.cons r t,f=>fun u' hu=>by
  rw[zL,zx]at f;rcases zi.mp hu with rfl|hu
  ·rw[E8 r f.1];exact E9 r rx f.1 fx
  ·exact nN rx fx t f.2 u' hu
theorem i9:cI X (.builtin "len") (fun xs H Q=>∃p ys,xs=[.ref p]/\(aN X.K H p ys\/cD X.K H p ys)/\Q (.int ys.length) H):=by
 intro pins s σ H xs us Q I r h;obtain⟨p,ys,rfl,hq,q⟩:=h;obtain⟨u,rfl,rx⟩:=vals1 r;cases rx;have hn:=iY;rcases hq with hq|hq
 ·obtain⟨its,r',pl,hz⟩:=I.list hq
  have hlen:=r'.length;exact Calls.call_len_list pl.isList (by simp only[zo] <;> omega) ⟨.int ys.length,H,I.tok _,⟨s.toks+1,by rw[zo,hlen]⟩,q⟩
 ·obtain⟨its,r',pl,hz⟩:=I.tuple hq
  have hlen:=r'.length;exact len_tuple pl (by simp only[zo] <;> omega) ⟨.int ys.length,H,I.tok _,⟨s.toks+1,by rw[zo,hlen]⟩,q⟩
theorem uZ:cI X (.builtin "len") (fun xs H Q=>∃z,xs=[.str z]/\z.length<=zq/\Q (.int z.length) H):=by
 intro pins s σ H xs us Q I r h;obtain⟨z,rfl,hz,q⟩:=h;obtain⟨u,rfl,t,rfl⟩:=vals1 r;have hn:=iY;exact len_str (by first|lia|omega) ⟨.int z.length,H,I.tok _,⟨_,rfl⟩,q⟩
theorem uX:cI X (.type "list") (fun xs H Q=>∃p ys,xs=[.ref p]/\(aN X.K H p ys\/cD X.K H p ys)/\∀l,H l=none->Q (.ref l) (upd H l (.lst ys))):=by
 intro pins s σ H xs us Q I r h;obtain⟨p,ys,rfl,hq,q⟩:=h;obtain⟨u,rfl,rx⟩:=vals1 r;cases rx;have fin:∀(its:List Value),Vals ys its->ys.length<=zq->∀(h':Heap) (c':Nat),(∀b o',s.heap.get? b=some o'->h'.get? b=some o') ->
   h'.get? s.heap.objs.size=some { cls:=.type "list",dict:=none,data:=.seq its.toArray c',slots:=#[] }->EP X pins σ Q (.ref s.heap.objs.size) { s with heap:=h' }:=fun its r' hz h' c' kp e =>
  ⟨.ref s.heap.objs.size,_,I.laid (t':=s.toks) kp (zp _) (show bK X.prog X.w _ h' _ (.lst ys) from ⟨hz,its,c',r',e⟩),rfl,q _ (I.ax.fresh (zp _))⟩
 rcases hq with hq|hq
 ·obtain⟨its,r',pl,hz⟩:=I.list hq
  have hlen:=r'.length;obtain⟨o,ho,hc,n,hd⟩:=pl.isList;exact call_list_seq p (.inl rfl) ho hc hd (fun h' c' kp e=>fin its r' hz h' c' kp e) (by simp only[zo] <;> omega)
 ·obtain⟨its,r',pl,hz⟩:=I.tuple hq
  have hlen:=r'.length;obtain⟨o,ho,hc,n,hd⟩:=pl;exact call_list_seq p (.inr rfl) ho hc hd (fun h' c' kp e=>fin its r' hz h' c' kp e) (by simp only[zo] <;> omega)
theorem iC:cI X (.type "tuple") (fun xs H Q=>∃p ys,xs=[.ref p]/\((aN X.K H p ys/\∀l,H l=none->Q (.ref l) (upd H l (.tup ys)))\/(cD X.K H p ys/\Q (.ref p) H))):=by
 intro pins s σ H xs us Q I r h;obtain⟨p,ys,rfl,h⟩:=h;obtain⟨u,rfl,rx⟩:=vals1 r;cases rx;rcases h with ⟨hq,q⟩|⟨hq,q⟩
 ·obtain⟨its,r',pl,hz⟩:=I.list hq
  have hlen:=r'.length;refine call_tuple_list pl.isList (fun h' kp=>?_) (by simp only[zo] <;> omega);have I1:Inv X pins σ H { s with heap:=h' }:=I.kept (t':=s.toks) kp;have I2:Inv X pins σ (upd H h'.objs.size (.tup ys)) { s with heap:=h'.push { cls:=.type "tuple",data:=.seq its.toArray } } :=
   I1.laid (t':=s.toks) (fun b o e=>zy _ e) (zp _) (show bK X.prog X.w _ _ _ (.tup ys) from ⟨hz,its,r',nZ.new _ _⟩)
  exact⟨.ref h'.objs.size,_,I2,rfl,q _ (I1.ax.fresh (zp _))⟩
 ·obtain⟨its,r',pl,hz⟩:=I.tuple hq
  exact call_tuple_same pl ⟨.ref p,H,I,rfl,q⟩
def Lo(K:Q_)(T:String)(x:V)(H:Hp):Prop:=match x with
 |.str _=>T = "str"
 |.int _=>T = "int"
 |.ref p=>(T = "list"/\∃xs,aN K H p xs)\/(T = "tuple"/\∃o,K.lookup p=some o/\o.cls=.type "tuple"/\o.dict=none) \/
   (T = "dict"/\((∃kvs,H p=some (.dK kvs))\/∃kvs,H p=some (.dT kvs)))\/(T = "set"/\∃S n,H p=some (.set S n))
 |_=>False
theorem jZ{pins:List (Addr×Obj)}{σ:St}{H:Hp}{s:Shared}{T:String}{x:V}{v:Value}(I:Inv X pins σ H s)(r:RelV x v)(ty:Lo X.K T x H) :
  s.TypeIs v T/\∀a,v=.ref a->∃ob,s.heap.get? a=some ob/\ob.dict=none:=by
 cases x with
 |str z =>
  obtain⟨t,rfl⟩:=r;cases (show T = "str" from ty);exact⟨typeIs_str s z t,fun _ e=>nomatch e⟩
 |int i =>
  obtain⟨t,rfl⟩:=r;cases (show T = "int" from ty);exact⟨typeIs_int s i t,fun _ e=>nomatch e⟩
 |ref p =>
  cases r;rcases ty with ⟨rfl,xs,hq⟩|⟨rfl,o,hk,hc,hd⟩|⟨rfl,hk⟩|⟨rfl,S,n,hk⟩
  ·obtain⟨its,_,pl,_⟩:=I.list hq
   refine⟨pl.isList.typeIs,fun a e=>?_⟩;cases e;obtain⟨o,n,e,c,hd,_⟩:=pl;exact⟨o,e,hd⟩
  ·refine⟨⟨o,I.dY p o hk,hc⟩,fun a e=>?_⟩
   cases e;exact⟨o,I.dY _ o hk,hd⟩
  ·have z:∃o,s.heap.get? p=some o/\o.ExactDict:=by
    rcases hk with ⟨kvs,hk⟩|⟨kvs,hk⟩
    ·obtain⟨_,_,_,_,o,_,_,e,ex,_⟩:=I.ax p _ hk
     exact⟨o,e,ex⟩
    ·obtain⟨_,_,_,_,o,_,_,e,ex,_⟩:=I.ax p _ hk
     exact⟨o,e,ex⟩
   obtain⟨o,e,ex⟩:=z;refine⟨⟨o,e,ex.1⟩,fun a e2=>?_⟩;cases e2;exact⟨o,e,ex.2.1⟩
  ·obtain⟨o,_,_,_,e,ex,_⟩:=I.ax p _ hk
   refine⟨⟨o,e,ex.1⟩,fun a e2=>?_⟩;cases e2;exact⟨o,e,ex.2.1⟩
 |_=>exact False.elim ty
def RA(K:Q_)(T:String)(r:V->List V->Hp->VK->Prop)(to:TE):TE:=fun σ H Q=>to σ H fun x H1=>Lo K T x H1/\r x [] H1 Q
def UL(K:Q_)(T:String)(r:V->List V->Hp->VK->Prop)(to:TE)(t:TA):TE:=fun σ H Q=>to σ H fun x H1=>Lo K T x H1/\t σ H1 fun xs H2=>r x xs H2 Q
variable {o e:Expr}{es:List Expr}{to:TE}{t:TA}{name:Str}{apos cpos:Pos}{T id:String}{r:V->List V->Hp->VK->Prop}
theorem MF(pa:PlainAttrs T)(slot:Slot T name id)(ED:typeOf (.builtin id)=pure (.type "method_descriptor"))(hm:nq X id r)(ho:PE X o to)
  (oY:attributeBase o name X.env (eval o X.env)=eval o X.env:=by rfl) (kS:(apos.endLine==cpos.line)=true:=by rfl):PE X (.Call (.Attribute o name apos) [] [] cpos) (RA X.K T r to):=by
 intro pins s σ H Q I h;refine wpAny_Call_method0_late oY kS (aH (ho pins s σ H _ I h) fun v s1 ⟨x,H1,I1,r1,ty,q1⟩=>?_);obtain⟨h1,h2⟩:=jZ I1 r1 ty;exact⟨T,id,pa,slot,ED,h1,h2,Calls.callWith_builtin rfl (PySem.evalArgs_none (hm pins s1 σ H1 x [] v [] Q I1 r1 .nil q1))⟩
theorem Ii(pa:PlainAttrs T)(slot:Slot T name id)(ED:typeOf (.builtin id)=pure (.type "method_descriptor"))(hm:nq X id r)(ho:PE X o to)(ha:PA X (e::es) t)
  (oY:attributeBase o name X.env (eval o X.env)=eval o X.env:=by rfl)
  (G7:((backTo cpos (starEach (e::es) X.env)).all (fun x=>!x.1)&&(backToKw cpos (keywordEach [] X.env)).all (fun x=>x.1.isSome)
  &&decide ((e::es).length+([]:List Keyword).length+(if ([]:List Keyword).isEmpty then 0 else 1)<30))=true:=by rfl)
  (kS:(apos.endLine==cpos.line)=true:=by rfl) (hs:starEach (e::es) X.env=(false,eval e X.env)::starEach es X.env:=by rfl) (ux:(backTo cpos (starEach es X.env)).any (·.1)=false:=by rfl) :
  PE X (.Call (.Attribute o name apos) (e::es) [] cpos) (UL X.K T r to t):=by
 intro pins s σ H Q I h;refine wpAny_Call_method_late oY G7 kS rfl (aH (ho pins s σ H _ I h) fun v s1 ⟨x,H1,I1,r1,ty,q1⟩=>?_);obtain⟨h1,h2⟩:=jZ I1 r1 ty;refine⟨T,id,pa,slot,ED,h1,h2,?_⟩;have hA:=ha cpos pins s1 σ H1 _ I1 q1;rw[hs]at hA ⊢;refine Calls.callWith_builtin (by show (false||(backTo cpos (starEach es X.env)).any (·.1))=false;rw[ux] <;> rfl) (Calls.evalArgs_plain ?_);exact aH hA fun us s2 ⟨vs,H2,I2,r2,q2⟩=>hm pins s2 σ H2 x vs v us Q I2 r1 r2 q2
end
end L2
namespace L2
open PySem PySem.Spec PyProof.Rows
def Rh(X:Cx)(id:String)(r:V->List V->Hp->VK->Prop):Prop :=
 ∀(pins:List (Addr×Obj)) (s:Shared) (σ:St) (H:Hp) (x:V) (xs:List V) (v:Value) (us:List Value) (Q:VK),Inv X pins σ H s->RelV x v->Vals xs us->r x xs H Q ->
  wpAny (model X.prog X.w) X.A (call (.builtin id) (v::us)) (EP X pins σ Q) X.xe s
theorem Vals.one:∀{x:V} {us:List Value},Vals [x] us->∃u,us=[u]/\RelV x u
 |_,_,.cons r .nil=>⟨_,rfl,r⟩
theorem Vals.dropLast{xs:List V}{us:List Value}(h:Vals xs us):Vals xs.dropLast us.dropLast:=by
 induction h with
 |nil=>exact .nil
 |cons r t ih =>
  cases t with
  |nil=>exact .nil
  |cons q t'=>exact .cons r ih
theorem Vals.reverse{xs:List V}{us:List Value}(h:Vals xs us):Vals xs.reverse us.reverse:=by
 induction h with
 |nil=>exact .nil
 |cons r t ih=>rw[yn,yn];exact Vals.append ih (.cons r .nil)
theorem CL{α:Type}(l:List α):l.eraseIdx (l.length-1)=l.dropLast:=by
 induction l with
 |nil=>rfl
 |cons a r ih =>
  cases r with
  |nil=>rfl
  |cons b r =>
   have e:(a::b::r).length-1=((b::r).length-1)+1:=by
    have h1:(a::b::r).length=r.length+2:=rfl;have h2:(b::r).length=r.length+1:=rfl;first|lia|omega
   rw[e,List.eraseIdx_cons_succ,ih]
   all_goals rfl
section
variable {X:Cx}{pins:List (Addr×Obj)}{σ:St}{H:Hp}{s:Shared}{l b:Addr}{xs ys zs:List V}
theorem Inv.qi{its its':List Value}{n:Nat}{f:Array Value->Array Value}{t':Nat}(I:Inv X pins σ H s)(hH:H l=some (.lst xs))
  (e:s.heap.get? l=some { cls:=.type "list",data:=.seq its.toArray n }) (hf:f its.toArray=its'.toArray) (hv:Vals ys its') (hz:ys.length<=zq) :
  Inv X pins σ (upd H l (.lst ys)) { s with heap:=s.heap.update l (Obj.mapSeq f),toks:=t' }:=by
 have q:=PySem.IsL.update e f;rw[hf]at q;refine I.write (x:=l) (e:=l) (by rw[hH];exact trivial) (.inl rfl) (fun b' u hb hu=>(zP s.heap (Obj.mapSeq f) (Ne.symm hb)).trans hu) ⟨_,q⟩ ?_;exact⟨hz,its',_,hv,q⟩
theorem Inv.RY{its:List Value}{t':Nat}(I:Inv X pins σ H s)(hv:Vals ys its)(hz:ys.length<=zq) :
  Inv X pins σ (upd H s.heap.objs.size (.lst ys)) { s with heap:=s.heap.push { cls:=.type "list",data:=.seq its.toArray },toks:=t' } :=
 I.laid (fun _ _ q=>zy _ q) (zp _) ⟨hz,its,0,hv,zk _ rfl⟩
theorem Inv.fresh(I:Inv X pins σ H s):H s.heap.objs.size=none:=I.ax.fresh (zp _)
theorem Inv.nO(I:Inv X pins σ H s)(hH:H l=some (.lst xs)):xs.length<=zq/\∃(its:List Value) (n:Nat),Vals xs its/\xs.length=its.length/\s.heap.get? l=some { cls:=.type "list",data:=.seq its.toArray n }:=by
 obtain⟨z,its,n,r,e⟩:=I.ax l _ hH;exact⟨z,its,n,r,r.length,e⟩
theorem t6{n:Nat}(h:n<=zq):Builtin.List.listTooLong n=false:=by
 unfold Builtin.List.listTooLong;exact decide_eq_false (by first|lia|omega)
end
section
variable {X:Cx}
def Ke:V->List V->Hp->VK->Prop:=fun x vs H Q=>∃l xs y,x=.ref l/\vs=[y]/\H l=some (.lst xs)/\xs.length<zq/\Q .non (upd H l (.lst (xs++[y])))
theorem lU:Rh X "list.append" Ke:=by
 intro pins s σ H x vs v us Q I rx rv h;obtain⟨l,xs,y,rfl,rfl,hH,hz,q⟩:=h;cases rx;obtain⟨u,rfl,ru⟩:=rv.one;obtain⟨z,its,n,r,hl,e⟩:=I.nO hH;refine call_meets F.slot_list_append ⟨_,e,rfl⟩ F.entry_list_append (F.args_list_append_2 _ _) (PySem.list_append l its.toArray n u (by rw[zo];omega)) ⟨e,?_⟩;refine⟨.non,_,I.qi (its':=its++[u]) hH e (by simp) (r.append (.cons ru .nil)) ?_,rfl,q⟩;rw[ze,List.length_singleton];first|lia|omega
def Kd:V->List V->Hp->VK->Prop:=fun x vs H Q=>∃l b xs zs,x=.ref l/\vs=[.ref b]/\H l=some (.lst xs)/\H b=some (.lst zs)/\xs.length+zs.length<=zq/\Q .non (upd H l (.lst (xs++zs)))
theorem Ed:Rh X "list.extend" Kd:=by
 intro pins s σ H x vs v us Q I rx rv h;obtain⟨l,b,xs,zs,rfl,rfl,hH,hB,hz,q⟩:=h;cases rx;obtain⟨u,rfl,ru⟩:=rv.one;cases ru;obtain⟨z,its,n,r,hl,e⟩:=I.nO hH;obtain⟨z2,bO,n2,r2,qW,e2⟩:=I.nO hB;have hsz:its.toArray.size+bO.toArray.size<=zq:=by rw[zo,zo];omega
 have CD:¬ (!its.toArray.isEmpty&&Builtin.List.listTooLong (its.toArray.size+bO.toArray.size))=true:=by
  rw[t6 hsz,wP];exact zu
 refine call_meets F.slot_list_extend ⟨_,e,rfl⟩ F.entry_list_extend (F.args_list_extend_2 _ _)
  (AutoSeq1.list_extend_list_list_0 l its.toArray n b bO.toArray n2 CD (by rw[zo];omega) (by first|lia|omega)) ⟨e,e2,?_⟩
 refine⟨.non,_,I.qi (its':=its++bO) hH e (by simp) (r.append r2) ?_,rfl,q⟩;rw[ze];first|lia|omega
def RJ:R2:=fun x y H Q=>∃l b xs zs,x=.ref l/\y=.ref b/\H l=some (.lst xs)/\H b=some (.lst zs)/\xs.length+zs.length<=zq/\∀p,H p=none->Q (.ref p) (upd H p (.lst (xs++zs)))
theorem MN:cQ X (binaryOp .Add) RJ:=by
 intro pins s σ H x y v u Q I rx ry h;obtain⟨l,b,xs,zs,rfl,rfl,hH,hB,hz,q⟩:=h;cases rx;cases ry;obtain⟨z,its,n,r,hl,e⟩:=I.nO hH;obtain⟨z2,bO,n2,r2,qW,e2⟩:=I.nO hB;refine PySem.P.add_list e e2 ?_ (by rw[zo,zo];omega);have ea:its.toArray++bO.toArray=(its++bO).toArray:=by simp
 rw[ea];exact⟨.ref _,_,I.RY (t':=s.toks) (r.append r2) (by rw[ze];omega),rfl,q _ I.fresh⟩
end
section
variable {prog:Program}{w:World}{A:Around}{E:Value->Shared->Prop}{s:Shared}
set_option maxRecDepth 100000 in
end
section
variable {X:Cx}
end
end L2
namespace L2
open PySem PySem.Spec PyProof.Rows
section
variable {κ:Type}[DecidableEq κ]
def fM(kvs:List (κ×V))(k:κ):Option V:=(kvs.find? fun kv=>decide (kv.1=k)).map (·.2)
def putK(kvs:List (κ×V))(k:κ)(v:V):List (κ×V) :=
 if (kvs.any fun kv=>decide (kv.1=k))=true then kvs.map (fun kv=>if kv.1=k then (kv.1,v) else kv) else kvs++[(k,v)]
theorem kr{p:κ×V}{r:List (κ×V)}{k:κ}(e:p.1=k):fM (p::r) k=some p.2:=by simp[fM,yd,e]
theorem ku{p:κ×V}{r:List (κ×V)}{k:κ}(e:¬ p.1=k):fM (p::r) k=fM r k:=by simp[fM,yd,e]
theorem sN(k:κ):∀kvs:List (κ×V),(kvs.any fun kv=>decide (kv.1=k))=(fM kvs k).isSome
 |[]=>rfl
 |p::r=>by
  rw[yS];by_cases e:p.1=k
  ·simp only[kr e,decide_eq_true e,Bool.true_or,Option.isSome_some]
  ·rw[ku e,decide_eq_false e,wS];exact sN k r
theorem jU(kvs:List (κ×V))(k:κ)(v:V):(putK kvs k v).length<=kvs.length+1:=by
 unfold putK;split
 ·rw[zl];omega
 ·rw[ze,zg,yU];omega
theorem eW.iw{o:Option V}{u:Option Value}(r:eW o u):o.isSome=u.isSome:=by
 cases o with
 |none=>cases u with
  |none=>rfl
  |some _=>exact(show False from r).elim
 |some _=>cases u with
  |none=>exact(show False from r).elim
  |some _=>rfl
theorem KV.val{kvs:List (κ×V)}{vs:List (κ×Value)}(r:KV kvs vs)(k:κ):eW (fM kvs k) (valueAt vs k):=by
 unfold KV at r;induction r with
 |nil=>exact True.intro
 |@cons p q ps qs h t ih =>
  obtain⟨h1,h2⟩:=h;by_cases e:p.1=k
  ·have e':q.1=k:=h1.symm.trans e
   have b:valueAt (q::qs) k=some q.2:=by simp[valueAt,yd,e']
   rw[kr e,b];exact h2
  ·have e':¬ q.1=k:=fun z=>e (h1.trans z)
   have b:valueAt (q::qs) k=valueAt qs k:=by simp[valueAt,yd,e']
   rw[ku e,b];exact ih
theorem KV.any{kvs:List (κ×V)}{vs:List (κ×Value)}(r:KV kvs vs)(k:κ):(kvs.any fun kv=>decide (kv.1=k))=vs.any fun kv=>decide (kv.1=k):=by
 unfold KV at r;induction r with
 |nil=>rfl
 |cons h t ih=>rw[yS,yS,ih,h.1]
theorem KV.tE{kvs:List (κ×V)}{vs:List (κ×Value)}(r:KV kvs vs)(k:κ){y:V}{u:Value}(ry:RelV y u) :
  KV (kvs.map fun kv=>if kv.1=k then (kv.1,y) else kv) (vs.map fun kv=>if kv.1=k then (kv.1,u) else kv):=by
 unfold KV at r ⊢;induction r with
 |nil=>exact .nil
 |@cons p q ps qs h t ih =>
  rw[zK,zK];refine .cons ?_ ih;obtain⟨h1,h2⟩:=h;by_cases e:p.1=k
  ·rw[if_pos e,if_pos (h1.symm.trans e)];exact⟨h1,ry⟩
  ·rw[if_neg e,if_neg (fun z=>e (h1.trans z))];exact⟨h1,h2⟩
theorem KV.put{kvs:List (κ×V)}{vs:List (κ×Value)}(r:KV kvs vs)(k:κ){y:V}{u:Value}(ry:RelV y u):KV (putK kvs k y) (stored vs k u):=by
 unfold putK stored;rw[r.any k];by_cases e:(vs.any fun kv=>decide (kv.1=k))=true
 ·rw[if_pos e,if_pos e];exact r.tE k ry
 ·rw[if_neg e,if_neg e];exact Paired.snoc r ⟨rfl,ry⟩
theorem KV.length{kvs:List (κ×V)}{vs:List (κ×Value)}(r:KV kvs vs):kvs.length=vs.length:=Paired.length r
end
theorem mJ{P:Program}{w:World}{k:Key}{u:Value}(r:RelV (kV k) u):(bS P w).is k u=true:=by
 cases k with
 |inl i=>obtain⟨t,e⟩:=(show ∃t,u=Value.int i t from r);subst e;exact vI P w i t
 |inr x=>obtain⟨t,e⟩:=(show ∃t,u=Value.str x t from r);subst e;exact vH P w x t
theorem qR{P:Program}{w:World}:∀{ks:List Key} {us:List Value},Vals (ks.map kV) us->ItemsAre (bS P w) ks us
 |[],_,r=>by rw[yJ]at r;cases r;exact .nil
 |k::ks,_,r=>by
  rw[zK]at r;cases r with
  |cons h t=>exact .cons (mJ h) (qR t)
abbrev KT(H:Hp):List (List Key×V)->List (List Key×Addr×Value)->Prop:=Paired fun p q=>p.1=q.1/\H q.2.1=some (.tup (p.1.map kV))/\RelV p.2 q.2.2
theorem KT.val{H:Hp}{kvs:List (List Key×V)}{xs:List (List Key×Addr×Value)}(r:KT H kvs xs)(k:List Key):eW (fM kvs k) ((atKey xs k).map (·.2)):=by
 induction r with
 |nil=>exact True.intro
 |@cons p q ps qs h t ih =>
  obtain⟨h1,_,h2⟩:=h;by_cases e:p.1=k
  ·have e':q.1=k:=h1.symm.trans e
   have b:atKey (q::qs) k=some q.2:=by simp[atKey,yd,e']
   rw[kr e,b];exact h2
  ·have e':¬ q.1=k:=fun z=>e (h1.trans z)
   have b:atKey (q::qs) k=atKey qs k:=by simp[atKey,yd,e']
   rw[ku e,b];exact ih
theorem KT.tE{H:Hp}{kvs:List (List Key×V)}{xs:List (List Key×Addr×Value)}(r:KT H kvs xs)(k:List Key){y:V}{u:Value}(ry:RelV y u) :
  KT H (kvs.map fun kv=>if kv.1=k then (kv.1,y) else kv) (xs.map (putAt k u)):=by
 induction r with
 |nil=>exact .nil
 |@cons p q ps qs h t ih =>
  rw[zK,zK];refine .cons ?_ ih;obtain⟨h1,h2,h3⟩:=h;unfold putAt;by_cases e:p.1=k
  ·rw[if_pos e,if_pos (h1.symm.trans e)];exact⟨h1,h2,ry⟩
  ·rw[if_neg e,if_neg (fun z=>e (h1.trans z))];exact⟨h1,h2,h3⟩
theorem KT.put{H:Hp}{kvs:List (List Key×V)}{xs:List (List Key×Addr×Value)}(r:KT H kvs xs)(k:List Key){b:Addr}{y:V}{u:Value}(hb:H b=some (.tup (k.map kV)))(ry:RelV y u) :
  KT H (putK kvs k y) (storedH xs k b u):=by
 have e:(kvs.any fun kv=>decide (kv.1=k))=(atKey xs k).isSome:=by
  rw[sN,(r.val k).iw,xC]
 unfold putK storedH;rw[e];by_cases q:(atKey xs k).isSome=true
 ·rw[if_pos q,if_pos q];exact r.tE k ry
 ·rw[if_neg q,if_neg q];exact Paired.snoc r ⟨rfl,hb,ry⟩
theorem KT.keeps{H H':Hp}{kvs:List (List Key×V)}{xs:List (List Key×Addr×Value)}(r:KT H kvs xs)(ht:∀b ys,H b=some (.tup ys)->H' b=some (.tup ys)):KT H' kvs xs :=
 Paired.qh r fun _ _ z=>⟨z.1,ht _ _ z.2.1,z.2.2⟩
section
variable {P:Program}{w:World}{H:Hp}{h:Heap}{a:Addr}
theorem Ie{u:HO}(ok:cj P w H h)(e:Rd H a u):bK P w H h a u:=e.ok ok
theorem jB{kvs:List (Key×V)}(ok:cj P w H h)(e:Rd H a (.dK kvs)):kvs.length<=zq/\(a==sysModules)=false/\∃vs,KV kvs vs/\h.DictOf (bS P w) a vs :=
 show bK P w H h a (.dK kvs) from Ie ok e
theorem Jv{kvs:List (Key×V)}(ok:cj P w H h)(e:H a=some (.dK kvs)):kvs.length<=zq/\(a==sysModules)=false/\∃vs,KV kvs vs/\h.DictOf (bS P w) a vs:=jB ok (.inl e)
theorem key_of{ks:List Key}(ok:cj P w H h)(e:H a=some (.tup (ks.map kV))):(tupleKind (bS P w)).is h ks a:=by
 obtain⟨_,its,r,⟨o,h1,h2,n,h3⟩,_⟩:=(show bK P w H h a (.tup (ks.map kV)) from ok a _ e);exact⟨o,its.toArray,n,h1,h2,h3,by simpa using qR r⟩
theorem pB{kvs:List (List Key×V)}(ok:cj P w H h)(e:Rd H a (.dT kvs)):kvs.length<=zq/\(a==sysModules)=false /\
  ∃xs,KT H kvs xs/\h.DictOfH (tupleKind (bS P w)) a xs:=by
 obtain⟨z,y,xs,r,o,es,ep,h1,h2,h3,h4,h5⟩:=(show bK P w H h a (.dT kvs) from Ie ok e);refine⟨z,y,xs,r,o,es,ep,h1,h2,h3,h4,fun x hx=>?_,h5⟩;have all:∀{l:List (List Key×V)} {m:List (List Key×Addr×Value)},KT H l m->∀x∈m,(tupleKind (bS P w)).is h x.1 x.2.1:=by
  intro l m q;induction q with
  |nil=>intro x hx;exact nomatch hx
  |@cons p q ps qs hq t ih =>
   intro x hx;rcases zi.mp hx with e|hx
   ·subst e
    exact key_of ok (by rw[<- hq.1];exact hq.2.1)
   ·exact ih x hx
 exact all r x hx
theorem PH{kvs:List (List Key×V)}(ok:cj P w H h)(e:H a=some (.dT kvs)):kvs.length<=zq/\(a==sysModules)=false /\
  ∃xs,KT H kvs xs/\h.DictOfH (tupleKind (bS P w)) a xs:=pB ok (.inl e)
end
def jc(H:Hp)(a:Addr)(y:V)(r:Option V):Prop :=
 (∃kvs k,Rd H a (.dK kvs)/\y=kV k/\r=fM kvs k)\/∃kvs k b,Rd H a (.dT kvs)/\y=.ref b/\H b=some (.tup (k.map kV))/\r=fM kvs k
def Dj(H:Hp)(a:Addr)(y v:V)(H':Hp):Prop :=
 (∃kvs k,H a=some (.dK kvs)/\y=kV k/\kvs.length<zq/\H'=upd H a (.dK (putK kvs k v))) \/
 ∃kvs k b,H a=some (.dT kvs)/\y=.ref b/\H b=some (.tup (k.map kV))/\kvs.length<zq/\H'=upd H a (.dT (putK kvs k v))
theorem jc.k{H:Hp}{a:Addr}{kvs:List (Key×V)}{k:Key}(e:H a=some (.dK kvs)):jc H a (kV k) (fM kvs k):=.inl ⟨kvs,k,.inl e,rfl,rfl⟩
theorem Dj.k{H:Hp}{a:Addr}{kvs:List (Key×V)}{k:Key}{v:V}(e:H a=some (.dK kvs))(hl:kvs.length<zq):Dj H a (kV k) v (upd H a (.dK (putK kvs k v))):=.inl ⟨kvs,k,e,rfl,hl,rfl⟩
section
variable {X:Cx}{pins:List (Addr×Obj)}{σ:St}{H:Hp}{s:Shared}{a:Addr}{y v:V}{u r:Value}{o:Option V}{A:Around}{E:Value->Shared->Prop}
theorem Inv.big(I:Inv X pins σ H s):sysModules<s.heap.objs.size:=by
 have h:mainGlobals<s.heap.objs.size:=(I.mod.glob.keeps I.bk).lt;exact Nat.lt_trans (by decide) h
theorem Fi{Q:Value->Shared->Prop}(hu:A.units+1<cLine)(I:Inv X pins σ H s)(g:jc H a y (some v))(ry:RelV y u)(h:∀w' s',Inv X pins σ H s'->RelV v w'->Q w' s') :
  wpAny (model X.prog X.w) A (getItem (.ref a) u) Q E s:=by
 rcases g with ⟨kvs,k,e,ey,l⟩|⟨kvs,k,b,e,ey,eb,l⟩
 ·subst ey
  obtain⟨z,hd,vs,rel,dd⟩:=jB I.ax e;obtain⟨w',hw,rw'⟩:=eW.some_of (v:=v) (o:=valueAt vs k) (by rw[l];exact rel.val k);exact wpAny_getItem_of (mJ ry) dd.mapOf hw (h w' _ (I.tok _) rw')
 ·subst ey
  cases (show u=Value.ref b from ry);obtain⟨z,hd,xs,rel,dd⟩:=pB I.ax e;obtain⟨w',hw,rw'⟩:=eW.some_of (v:=v) (o:=(atKey xs k).map (·.2)) (by rw[l];exact rel.val k);obtain⟨p,hp,IZ⟩:=zv.mp hw;refine wpAny_getItem_heap (tupleKind_room_in1 hu) (key_of I.ax eb) dd hp ?_;rw[IZ];exact h w' _ (I.tok _) rw'
theorem Sy{Q:Value->Shared->Prop}(hu:A.units+1<cLine)(I:Inv X pins σ H s)(g:jc H a y o)(ry:RelV y u)(h:∀s',Inv X pins σ H s'->Q (.bool o.isSome) s') :
  wpAny (model X.prog X.w) A (compareOp .In u (.ref a)) Q E s:=by
 rcases g with ⟨kvs,k,e,ey,l⟩|⟨kvs,k,b,e,ey,eb,l⟩
 ·subst ey
  obtain⟨z,hd,vs,rel,dd⟩:=jB I.ax e;refine wpAny_in_of (mJ ry) hd dd.mapOf ?_;rw[<- (rel.val k).iw,<- l];exact h _ (I.tok _)
 ·subst ey
  cases (show u=Value.ref b from ry);obtain⟨z,hd,xs,rel,dd⟩:=pB I.ax e;refine wpAny_in_heap (tupleKind_room_in1 hu) (key_of I.ax eb) hd dd ?_;have q:=(rel.val k).iw;rw[xC]at q;rw[<- q,<- l];exact h _ (I.tok _)
theorem K0{Q:Value->Shared->Prop}(hu:A.units+1<cLine)(I:Inv X pins σ H s)(g:jc H a y o)(ry:RelV y u)(h:∀s',Inv X pins σ H s'->Q (.bool (!o.isSome)) s') :
  wpAny (model X.prog X.w) A (compareOp .NotIn u (.ref a)) Q E s:=by
 rcases g with ⟨kvs,k,e,ey,l⟩|⟨kvs,k,b,e,ey,eb,l⟩
 ·subst ey
  obtain⟨z,hd,vs,rel,dd⟩:=jB I.ax e;refine wpAny_notIn_of (mJ ry) hd dd.mapOf ?_;rw[<- (rel.val k).iw,<- l];exact h _ (I.tok _)
 ·subst ey
  cases (show u=Value.ref b from ry);obtain⟨z,hd,xs,rel,dd⟩:=pB I.ax e;refine wpAny_notIn_heap (tupleKind_room_in1 hu) (key_of I.ax eb) hd dd ?_;have q:=(rel.val k).iw;rw[xC]at q;rw[<- q,<- l];exact h _ (I.tok _)
theorem qr{h':Heap}{t':Nat}{ob:HO}(I:Inv X pins σ H s)(mu:FH (H a))(hs:Heap.SameBut a s.heap h')(he:∃q,h'.get? a=some q)(new:bK X.prog X.w (upd H a ob) h' a ob) :
  Inv X pins σ (upd H a ob) { s with heap:=h',toks:=t' } :=
 I.write (x:=a) (e:=a) mu (.inl rfl) (fun b q hb z=>(hs.2 b hb).trans z) he new
theorem Fg{P:Program}{w:World}{H':Hp}{h':Heap}{kvs:List (Key×V)}{vs:List (Key×Value)}(z:kvs.length<=zq)(hd:(a==sysModules)=false)(rel:KV kvs vs)(dd:h'.DictOf (bS P w) a vs) :
  bK P w H' h' a (.dK kvs):=⟨z,hd,vs,rel,dd⟩
theorem Fh{H':Hp}{Q:Unit->Shared->Prop}(hu:A.units+1<cLine)(I:Inv X pins σ H s)(g:Dj H a y v H')(ry:RelV y u)(rv:RelV v r)(h:∀s',Inv X pins σ H' s'->Q () s') :
  wpAny (model X.prog X.w) A (setItem (.ref a) u r) Q E s:=by
 rcases g with ⟨kvs,k,e,ey,l,eH⟩|⟨kvs,k,b,e,ey,eb,l,eH⟩
 ·subst ey eH
  obtain⟨z,hd,vs,rel,dd⟩:=Jv I.ax e;have hz:vs.length<=zq:=by rw[<- rel.length];exact z
  have hl:(putK kvs k v).length<=zq:=by have:=jU kvs k v;omega
  refine wpAny_setItem_pairs (hsz:=hz) (mJ ry) dd fun h' dd' hs=>h _ ?_;have he:∃q,h'.get? a=some q:=let ⟨q,_,_,hq,_⟩:=dd';⟨q,hq⟩;exact qr I (by rw[e];exact True.intro) hs he (Fg hl hd (rel.put k rv) dd')
 ·subst ey eH
  cases (show u=Value.ref b from ry);obtain⟨z,hd,xs,rel,dd⟩:=PH I.ax e;have hz:xs.length<=zq:=by rw[<- Paired.length rel];exact z
  have hl:(putK kvs k v).length<=zq:=by have:=jU kvs k v;omega
  refine wpAny_setItem_heap (hsz:=hz) (tupleKind_room_in1 hu) (key_of I.ax eb) dd fun h' dd' hs=>h _ ?_;obtain⟨q,es,ep,hq,h2,h3,h4,_,h5⟩:=dd';refine qr I (by rw[e];exact True.intro) hs ⟨q,hq⟩ ⟨hl,hd,_,(rel.put k eb rv).keeps fun c ys ec=>?_,q,es,ep,hq,h2,h3,h4,h5⟩;rw[aA (Cf ec e (fun z=>nomatch z))];exact ec
end
section
variable {X:Cx}{pins:List (Addr×Obj)}{σ:St}{H:Hp}{s:Shared}{a:Addr}{kvs:List (Key×V)}{k:Key}{u:Value}{A:Around}{E:Value->Shared->Prop}
theorem PL{Q:Value->Shared->Prop}(I:Inv X pins σ H s)(e:Rd H a (.dK kvs))(h:∀t s',Inv X pins σ H s'->Q (.int kvs.length t) s'):wpAny (model X.prog X.w) A (call (.builtin "len") [.ref a]) Q E s:=by
 obtain⟨z,hd,vs,rel,dd⟩:=jB I.ax e;refine call_len_dict hd dd (by rw[<- rel.length];rw[sizeLine_eq]at z;omega) ?_;rw[<- rel.length];exact h _ _ (I.tok _)
end
theorem vM{X:Cx}{pins:List (Addr×Obj)}{σ:St}{H:Hp}{s:Shared}{a:Addr}{y:V}{o:Option V}(I:Inv X pins σ H s)(g:jc H a y o):s.TypeIs (.ref a) "dict":=by
 rcases g with ⟨kvs,k,e,_,_⟩|⟨kvs,k,b,e,_,_,_⟩
 ·obtain⟨_,_,vs,_,dd⟩:=jB I.ax e
  exact dd.typeIs
 ·obtain⟨_,_,xs,_,dd⟩:=pB I.ax e
  exact dd.typeIs
section
variable {X:Cx}{o i e value:Expr}{pos pos' Rz:Pos}{td ty tv:TE}
end
theorem uP{P:Program}{w:World}{H:Hp}(h:Heap)(hb:sysModules<h.objs.size):bK P w H (h.push { cls:=.type "dict",data:=.dict #[] }) h.objs.size (.dK []) :=
 ⟨zZ _,beq_eq_false_iff_ne.mpr (Ne.symm (zC hb)),[],.nil,Heap.DictOf.new h⟩
def Dz:TE:=fun _ H Q=>∀p,H p=none->Q (.ref p) (upd H p (.dK []))
section
variable {X:Cx}{pos:Pos}
theorem Gz:PE X (.Dict [] [] pos) Dz:=fun pins s σ H Q I h =>
 wpAny_Dict_empty ⟨.ref s.heap.objs.size,_,I.laid (a:=s.heap.objs.size) (o:=.dK []) (t':=s.toks) (fun _ _ q=>zy _ q) (zp _) (uP s.heap I.big),rfl,h _ (I.ax.fresh (zp _))⟩
end
def lO:List (TE×TE)->St->Hp->(List (V×V)->Hp->Prop)->Prop
 |[],_,H,Q=>Q [] H
 | (tk,tv)::r,σ,H,Q=>tk σ H fun x H1=>tv σ H1 fun y H2=>lO r σ H2 fun ps H3=>Q ((x,y)::ps) H3
abbrev VV:List (V×V)->List (Value×Value)->Prop:=Paired fun p q=>RelV p.1 q.1/\RelV p.2 q.2
def FF(X:Cx)(pos:Pos)(keys:List (Option Expr))(values:List Expr)(ig:List (TE×TE)):Prop :=
 ∀(pins:List (Addr×Obj)) (s:Shared) (σ:St) (H:Hp) (Q:List (V×V)->Hp->Prop),Inv X pins σ H s->lO ig σ H Q ->
  wpAny (model X.prog X.w) X.A (evalPairs (pairTrees keys values X.env pos)) (fun vs s'=>∃ps H',Inv X pins σ H' s'/\VV ps vs/\Q ps H') X.xe s
theorem Kj{X:Cx}{pos:Pos}:FF X pos [] [] []:=fun pins s σ H Q I h=>pairTrees_nil_walk ⟨[],H,I,.nil,h⟩
theorem Gs{X:Cx}{pos:Pos}{k v:Expr}{ks:List (Option Expr)}{vs:List Expr}{tk tv:TE}{ig:List (TE×TE)}(hk:PE X k tk)(hv:PE X v tv)(hr:FF X pos ks vs ig) :
  FF X pos (some k::ks) (v::vs) ((tk,tv)::ig):=fun pins s σ H Q I h =>
 pairTrees_cons_walk (aH (hk pins s σ H _ I h) fun u s1 ⟨x,H1,I1,rx,q1⟩=>aH (hv pins s1 σ H1 _ I1 q1) fun w2 s2 ⟨y,H2,I2,ry,q2⟩ =>
  aH (hr pins s2 σ H2 _ I2 q2) fun ws s3 ⟨ps,H3,I3,rel,q3⟩=>⟨(x,y)::ps,H3,I3,.cons ⟨rx,ry⟩ rel,q3⟩)
def ir(kvs more:List (Key×V)):List (Key×V):=more.foldl (fun acc kv=>putK acc kv.1 kv.2) kvs
theorem KV.merge:∀{more:List (Key×V)} {rs:List (Key×Value)} {kvs:List (Key×V)} {vs:List (Key×Value)},KV more rs->KV kvs vs->KV (ir kvs more) (merged vs rs):=by
 intro more rs kvs vs r;unfold KV at r;induction r generalizing kvs vs with
 |nil=>intro q;exact q
 |@cons p q ps qs h t ih =>
  intro r0;have e:KV (putK kvs p.1 p.2) (stored vs q.1 q.2):=by
   have:=r0.put p.1 h.2
   rw[<- h.1];exact this
  exact ih e
theorem ly:∀(more kvs:List (Key×V)),(ir kvs more).length<=kvs.length+more.length
 |[],kvs=>by show kvs.length<=kvs.length+0;omega
 |p::r,kvs=>by
  have h1:=ly r (putK kvs p.1 p.2);have h2:=jU kvs p.1 p.2;show (ir (putK kvs p.1 p.2) r).length<=_;rw[zg];omega
theorem pJ{P:Program}{w:World}:∀{kvs:List (Key×V)} {ws:List (Value×Value)},VV (kvs.map fun kv=>(kV kv.1,kv.2)) ws->∃rs,Carries (bS P w) ws rs/\KV kvs rs
 |[],_,r=>by rw[yJ]at r;cases r;exact⟨[],True.intro,.nil⟩
 |p::kvs,_,r=>by
  rw[zK]at r;cases r with
  |@cons a b as bs h t =>
   obtain⟨rs,c,q⟩:=pJ (P:=P) (w:=w) t;obtain⟨b1,b2⟩:=b;exact⟨(p.1,b2)::rs,⟨mJ h.1,rfl,c⟩,.cons ⟨rfl,h.2⟩ q⟩
def HU(ig:List (TE×TE)):TE:=fun σ H Q=>∀p,H p=none->lO ig σ (upd H p (.dK [])) fun ps H2=>H2 p=some (.dK [])/\∃kvs:List (Key×V),ps=kvs.map (fun kv=>(kV kv.1,kv.2))/\kvs.length<=15/\Q (.ref p) (upd H2 p (.dK (ir [] kvs)))
theorem Ko{X:Cx}{pos:Pos}{keys:List (Option Expr)}{values:List Expr}{ig:List (TE×TE)}(h:FF X pos keys values ig)(Hb:keys.all (·.isSome)=true)(hl:keys.length=values.length)(h0:keys≠[])
  (Wo:keys.length<=15):PE X (.Dict keys values pos) (HU ig):=by
 intro pins s σ H Q I q;have hn:=I.ax.fresh (zp s.heap.objs.size);have I1:=I.laid (a:=s.heap.objs.size) (o:=.dK []) (h':=s.heap.push { cls:=.type "dict",data:=.dict #[] }) (t':=s.toks) (fun _ _ q=>zy _ q) (zp _) (uP s.heap I.big);refine wpAny_Dict_walk (knd:=bS X.prog X.w) Hb hl h0 Wo (aH (h pins _ σ _ _ I1 (q _ hn)) fun ws s2 ⟨ps,H2,I2,rel,e,kvs,ep,lk,q2⟩=>?_);subst ep;obtain⟨rs,c,rk⟩:=pJ (P:=X.prog) (w:=X.w) rel;obtain⟨z,hd,Yv,r0,dd⟩:=Jv I2.ax e;cases r0;refine⟨rs,c,dd,fun h' dd' hs=>⟨.ref s.heap.objs.size,_,?_,rfl,q2⟩⟩;have hz:(ir [] kvs).length<=zq:=by
  have h1:=ly kvs [];rw[yU]at h1;rw[sizeLine_eq];omega
 have he:∃q,h'.get? s.heap.objs.size=some q:=let ⟨q,_,_,hq,_⟩:=dd';⟨q,hq⟩;exact qr I2 (by rw[e];exact True.intro) hs he (Fg hz hd (rk.merge .nil) dd')
section
variable {X:Cx}{pins:List (Addr×Obj)}{σ:St}{H:Hp}{s:Shared}{a:Addr}{y d:V}{u r:Value}{o:Option V}{A:Around}{E:Value->Shared->Prop}
end
section
variable {X:Cx}{o e f:Expr}{apos cpos:Pos}{td ty tx:TE}
end
section
variable {X:Cx}{pins:List (Addr×Obj)}{σ:St}{H:Hp}{s:Shared}{a:Addr}{kvs:List (Key×V)}{A:Around}{E:Value->Shared->Prop}
end
section
variable {X:Cx}{pins:List (Addr×Obj)}{σ:St}{H:Hp}{s:Shared}{a:Addr}{y:V}{u:Value}{A:Around}{E:Value->Shared->Prop}
end
end L2
namespace Rn
open PySem PySem.W PySem.Calls PyProof.Rows
theorem oP{P:Params}{h:Heap}:∀(ns:List Int) (vs:List Value),WellAll P h vs (ns.map WData.int)->IntsAre vs ns:=by
 intro ns;induction ns with
 |nil =>
  intro vs w;rw[yJ]at w;cases w;exact .nil
 |cons n ns ih =>
  intro vs w;rw[zK]at w;cases w with
  |cons a b =>
   cases a;exact .cons _ _ (ih _ b)
theorem DG{l:OpenLaw}{n:Nat}(hn:l.most=some n){P:Params}{h:Heap}{args:List WData}{vals:List Value}
  (CC:l.row.toRowW.claim.pre args=true) (Nv:WellAll P h vals args) :
  ∃a vs ns,vals=[Value.ref a]/\args=[WData.list (ns.map WData.int)]/\h.get? a=some { cls:=.type "list",data:=.seq vs.toArray }/\IntsAre vs ns/\ns.length<=n:=by
 have VF:WShape.hasAll [] args [.list .int]=true:=(pre_splitW CC).1;have hc:l.pre.holds [] { args:=args }=true:=(pre_splitW CC).2;obtain⟨d,r,rfl,h1,h2⟩:=hasAllW_cons VF;obtain rfl:=hasAllW_nil h2;obtain⟨xs,rfl,h3⟩:=hasW_list h1;obtain⟨ns,rfl⟩:=items_int h3;have hlen:ns.length<=n:=by
  unfold OpenLaw.pre at hc;have h4:(WTm.not (.lt (.lit (.int (n:Int))) (.len (.arg 0)))).holds [] { args:=[.list (ns.map .int)] }=true:=by
   have h4:=(holds_andW hc).1;rw[hn]at h4;exact h4
  have h5:=condW_of h4 (w_not (w_lt w_lit (w_len_list (w_arg rfl))));rw[zl]at h5;refine wF fun q=>?_;have q':(n:Int)<((ns.length:Nat):Int):=by first|lia|omega
  first
   | (rw[decide_eq_true q']at h5;exact absurd h5 (by decide))
   | (simp at h5;omega)
 cases Nv with
 |cons w1 w2 =>
  cases w2;cases w1 with
  |list ho Hb=>exact⟨_,_,ns,rfl,rfl,ho,oP ns _ Hb,hlen⟩
theorem DV(l:OpenLaw)(args:List WData):l.row.toRowW.claim.post args (.bool true) args=true :=
 postW_of (r:=l.row.toRowW) (X:=(true==true))
  (show WShape.has [] (.bool true) .bool=true by first|rfl|decide|simp[WShape.has,WShape.arms,WShape.armsAll])
  (show (WTm.eq .res (.lit (.bool true))).value [] { args:=args,res:=some (.bool true),after:=args }=some (.bool (true==true)) from w_eq_bool (w_res rfl) w_lit) rfl
theorem vP{l:OpenLaw}{n:Nat}{q:Program}{loose:List Str}{XP:(Str->Option Value)->Heap->Prop}{YP:World->Heap->Prop}{d:DefRec}
  (hn:l.most=some n) (NL:d.params.defaults=[])
  (call:∀(w:World) (s₀ s₁:Shared) (mg mb:Str->Option Value) (fa:Addr) (o:Obj) (pm cd doc:Value) (a:Addr) (vs:List Value) (ns:List Int),
   Ground q loose [] XP w s₀ mg mb s₁.heap->YP w s₁.heap ->
   s₁.heap.get? fa=some o->o.data=.func (docDef d.name d.params d.body d.scope pm cd doc)->s₁.heap.CodeRec cd d.name->mg d.name=some (.ref fa) ->
   s₁.heap.get? a=some { cls:=.type "list",data:=.seq vs.toArray }->IntsAre vs ns->ns.length<=n->s₁.gens=#[] ->
   codeAny (model l.prog w) callerA (.call (.ref fa) ⟨[.ref a],[]⟩) (fun r s'=>r=.ok (.ret (.bool true))/\OldK s₁.heap s'.heap/\s'.os=s₁.os/\AllBare s'.gens) s₁) :
  WalkO q loose XP YP l.row.toRowW d [] (fun f vs=>PySem.call f vs):=by
 intro w s₀ s₁ mg mb G Y fa o pm cd doc dV kV ho hd kj hD qV hg args vals as CC Yr YD Nv YF;obtain rfl:dV=.none:=Dflts.none hD NL;obtain rfl:kV=.none:=Dflts.noKw hD;obtain⟨a,vs,ns,rfl,rfl,G3,hints,hlen⟩:=DG hn CC Nv;refine enter_call (codeAny_mono (call w s₀ s₁ mg mb fa o pm cd doc a vs ns G Y ho (fd_plain hd) kj qV G3 hints hlen hg) fun r s' hq=>?_);obtain⟨rfl,h2,h3,h4⟩:=hq;exact⟨.inl ⟨.bool true,.bool true,[],rfl,fun _=>rfl,.bool true,DV l _,fun _=>⟨List.Pairwise.nil,fun _ hm=>(nomatch hm)⟩⟩,h2,h3,h4⟩
section
variable {prog:Program}{w:World}{A:Around}{E:Value->Shared->Prop}{s:Shared}{K:Frag}
end
end Rn
namespace L2
open PySem PySem.Spec PyProof.Rows
theorem qE:∀{vs:List Value} {ns:List Int},IntsAre vs ns->Vals (ns.map V.int) vs
 |_,_,.nil=>.nil
 |_,_,.cons n t h=>.cons ⟨t,rfl⟩ (qE h)
def Dh(H:Hp):Prop:=∀b,H b=none\/∃o xs,H b=some (.frz o (.lst xs))
theorem GR{P:Program}{w:World}{K:Q_}{mg mb:Str->Option Value}{CX:lG}{k:Nat}{fa a:Addr}{fd:FuncData}{x:Str}{sp:Sp}{s₁:Shared}{vs:List Value}{ns:List Int}
  (KX:K.In s₁.heap) (Ja:s₁.heap.Ns mainGlobals mg) (hb:s₁.heap.Ns builtinsNs mb) (hbb:∀x:Str,x≠"__name__"->mb x=bootBuiltins x) (Si:s₁.heap.NoLimit) (hg:s₁.gens=#[])
  (ha:s₁.heap.get? a=some { cls:=.type "list",data:=.seq vs.toArray }) (hi:IntsAre vs ns) (hl:ns.length<=zq) (hr:bJ k callerA)
  (F:∀base:Heap,K.In base->base.Ns mainGlobals mg->cf P w K mg base CX k fa fd [x] sp) (hbind:∀(s:Shared) (u:Value),BindsTo s fd ⟨[u],[]⟩ [(x,u)])
  (hsp:∀H:Hp,Dh H->aN K H a (ns.map V.int)->sp [.ref a] H (fun v _=>v=.bl true) fun _ _ _=>False)
  (hCX:∀H e s',CX [] H s₁ (fun _ _ _=>False) e s'->False) :
  codeAny (model P w) callerA (.call (.ref fa) ⟨[.ref a],[]⟩) (fun r s'=>r=.ok (.ret (.bool true))/\OldK s₁.heap s'.heap/\s'.os=s₁.os/\AllBare s'.gens) s₁:=by
 have rv:=qE hi;have R5:=hi.length;have core:∀H:Hp,Dh H->aN K H a (ns.map V.int)->cj P w H s₁.heap->(∀b,H b≠none->b=a)->(H a≠none->K.lookup a=none) ->
   codeAny (model P w) callerA (.call (.ref fa) ⟨[.ref a],[]⟩) (fun r s'=>r=.ok (.ret (.bool true))/\OldK s₁.heap s'.heap/\s'.os=s₁.os/\AllBare s'.gens) s₁:=by
  intro H hO hS ax hA hK;have ko:∀{b:Addr} {o:Obj},s₁.heap.get? b=some o->H b=none->(kT s₁.heap H).get? b=some o:=fun e n=>G6 e n;have noA:∀{b:Addr} {o:Obj} {es:Array DictEntry} {ep:Nat},s₁.heap.get? b=some o->o.data=.dict es ep->H b=none:=fun {b o es ep} e d=>by
   cases q:H b with
   |none=>rfl
   |some u =>
    have e':b=a:=hA b (by rw[q];simp);subst e';rw[ha]at e;cases e;have d':Data.seq vs.toArray _=Data.dict es ep:=d;cases d'
  have nsK:∀{b:Addr} {m:Str->Option Value},s₁.heap.Ns b m->(kT s₁.heap H).Ns b m:=fun {b m} ⟨o,es,ep,e,d,r⟩=>⟨o,es,ep,ko e (noA e d),d,r⟩;have QU:K.In (kT s₁.heap H):=fun b o e=>ko (KX b o e) (by
   cases q:H b with
   |none=>rfl
   |some u =>
    have e':b=a:=hA b (by rw[q];simp);subst e';rw[hK (by rw[q];simp)]at e;cases e)
  have hM:Mod K mg (kT s₁.heap H):=⟨QU,nsK Ja,⟨mb,nsK hb,hbb⟩,let ⟨mc,h1,h2⟩:=Si;⟨mc,nsK h1,h2⟩⟩;have e0:mm P w K mg (kT s₁.heap H) callerA [] s₁ H:=⟨rfl,hM,fun b o e=>Kt e,yE (EK _ _),trivial,fun b hb=>absurd (show b∈([]:List Addr) from hb) (by simp),ax,.of_eq hg⟩;refine codeAny_mono ((F _ QU (nsK Ja)).run callerA [] s₁ H ⟨[.ref a],[]⟩ [.ref a] [.ref a] _ _ hr e0 (hbind s₁ (.ref a)) (.cons rfl .nil) (hsp H hO hS)) fun r s' h=>?_;cases r with
  |error e=>exact(hCX H e s' h).elim
  |ok fl =>
   cases fl with
   |next=>exact False.elim h
   |brk=>exact False.elim h
   |cont=>exact False.elim h
   |ret u =>
    obtain⟨v,H',os,bare,un,hok',r',q⟩:=h;have q':v=.bl true:=q;subst q';obtain rfl:u=Value.bool true:=r';refine⟨rfl,OldK.of_keep fun b o e=>?_,os,bare⟩;cases q:H b with
    |none=>exact un.keep b o e q (by intro z;exact absurd (show b∈([]:List Addr) from z) (by simp)) (by simp)
    |some u =>
     rcases hO b with z|⟨ob,xs,z⟩
     ·rw[q]at z;cases z
     ·have z2:=un.gX b ob _ z
      obtain⟨e1,_⟩:=ax b _ z;obtain⟨e2,_⟩:=hok' b _ z2;rw[e]at e1;cases e1;exact e2
 cases hk:K.lookup a with
 |some o =>
  have e:=KX a o hk;rw[ha]at e;cases e;refine core (fun _=>none) (fun _=>.inl rfl) (.inr ⟨_,vs.toArray,_,hk,rfl,rfl,rfl,by rw[zo,R5];exact hl,by simpa using rv⟩) (fun b u z=>by have z':(none:Option HO)=some u:=z;cases z') (fun b z=>absurd rfl z) fun z=>absurd rfl z
 |none =>
  refine core (fun b=>if b=a then some (.frz { cls:=.type "list",data:=.seq vs.toArray } (.lst (ns.map V.int))) else none) (fun b=>?_) (.inl (.inr ⟨{ cls:=.type "list",data:=.seq vs.toArray },if_pos rfl⟩)) (fun b u z=>?_) (fun b z=>?_) fun _=>hk
  ·by_cases hb:b=a
   ·exact .inr ⟨_,_,if_pos hb⟩
   ·exact .inl (if_neg hb)
  ·by_cases hb:b=a
   ·have z':=(if_pos hb).symm.trans z
    cases z';subst hb;exact⟨ha,by rw[zl];exact hl,vs,_,rv,ha⟩
   ·have z':=(if_neg hb).symm.trans z
    cases z'
  ·by_cases hb:b=a
   ·exact hb
   ·exact absurd (if_neg hb) z
end L2
namespace L2
open PySem PySem.Spec PyProof.Rows
end L2
namespace L2
open PySem PySem.Spec PyProof.Rows
def bC(s:Stmt):Arguments:=match s with
 |.FunctionDef _ a _ _ _ _ _ _ _ _=>a
 |_=>{ posonlyargs:=[],args:=[],vararg:=none,kwonlyargs:=[],kw_defaults:=[],kwarg:=none,defaults:=[] }
def aM(s:Stmt):List Stmt:=match s with
 |.FunctionDef _ _ b _ _ _ _ _ _ _=>b
 |_=>[]
def aq(s:Stmt):Scope:=match s with
 |.FunctionDef _ _ _ _ _ _ sc _ _ _=>sc
 |_=>{ kind:=.function,names:=[],isGenerator:=false,isCoroutine:=false }
abbrev jP:lG:=fun _ _ _ _ _ _=>False
abbrev E0:XK:=fun _ _ _=>False
theorem oF{X:Cx}:Passes jP X E0:=fun _ _ _ _ _ _ _ h=>h.elim
structure eL (K:Q_) (x qual:Str) (st:Stmt) (f:Addr) (fd:FuncData):Prop where
 ex:∃(oc:Value) (od:Option Addr) (kV doc pm:Value) (an:Option Addr) (cdv ct:Value) (iW:Array (Option Value)),
  fd=Z1 x qual (bC st) (aM st) (aq st) .none kV doc pm an cdv ct/\K.lookup f=some ⟨oc,od,.func fd,iW⟩/\Z7 K cdv qual=true
 kp:Z0 K (.ref f)=true
section
variable {P:Program}{w:World}{K:Q_}{mg:Str->Option Value}{base:Heap}
theorem eL.ok{x qual:Str}{st:Stmt}{f:Addr}{fd:FuncData}{N ps:List Str}{k:Nat}{sp:Sp}(F:eL K x qual st f fd)(S:cq N ps (aq st))(len:∀vs H Q E,sp vs H Q E->vs.length=ps.length)
  (CH:∀(cdv:Value) (A:Around) (outer:List Env) (s:Shared) (H:Hp) (vs:List V) (Q:VK) (E:XK),bJ k (A.deeper (envOfC qual (aq st) s.heap.objs.size f cdv))->sp vs H Q E ->
   ∃t,du (eG jP P w K mg base N qual (aq st) f cdv A outer s H E).dX (aM st) t/\t { nx:=fun _ H'=>Q .non H',rt:=Q } (start N vs) H):cf P w K mg base jP (k+1) f fd ps sp:=by
 obtain⟨oc,od,kV,doc,pm,an,cdv,ct,iW,rfl,lk,kj⟩:=F.ex;refine Jq lk kj S len fun A outer s H vs Q E hr hsp=>?_;obtain⟨t,h,q⟩:=CH cdv A outer s H vs Q E hr hsp;exact⟨t,h.dX,q⟩
theorem eL.binds{x qual:Str}{st:Stmt}{f:Addr}{fd:FuncData}{ps:List Str}(F:eL K x qual st f fd)
  (h:∀(kV doc pm:Value) (an:Option Addr) (cdv ct:Value) (us:List Value),us.length=ps.length->bindArgs (Z1 x qual (bC st) (aM st) (aq st) .none kV doc pm an cdv ct) ⟨us,[]⟩=pure (ps.zip us)):Binds K fd ps []:=by
 obtain⟨oc,od,kV,doc,pm,an,cdv,ct,iW,rfl,lk,kj⟩:=F.ex;exact .all (h kV doc pm an cdv ct)
theorem pA{x qual:Str}{st:Stmt}{f:Addr}{oc:Value}{od an:Option Addr}{iW:Array (Option Value)}{kV doc pm cdv ct:Value}(l:K.lookup f=some ⟨oc,od,.func (Z1 x qual (bC st) (aM st) (aq st) .none kV doc pm an cdv ct),iW⟩)
  (c:Z7 K cdv qual=true) (k:Z0 K (.ref f)=true):eL K x qual st f (Z1 x qual (bC st) (aM st) (aq st) .none kV doc pm an cdv ct):=⟨⟨oc,od,kV,doc,pm,an,cdv,ct,iW,rfl,l,c⟩,k⟩
end
section
variable {X:Cx}
end
end L2
set_option maxHeartbeats 4000000
namespace L3
open PySem
noncomputable abbrev Ky:=Sum Int Str
inductive D where
 |non|bl (b:Bool)|int (i:Int)|str (x:Str)|tup (ds:List D)|fl (ds:List D)|ob (i:Nat)
inductive MO where
 |lst (ds:List D)
 |aW (kvs:List (Ky×D))
 |ins (C:Nat) (fs:List (Str×D))
noncomputable abbrev MH:=List MO
inductive Out (α:Type) where
 |ok (a:α)
 |ex (c:Str) (ds:List D)
noncomputable def Mo(α:Type):=MH->Option (Out α×MH)
noncomputable def Mo.ret{α:Type}(a:α):Mo α:=fun M=>some (.ok a,M)
noncomputable def Mo.bind{α β:Type}(m:Mo α)(k:α->Mo β):Mo β:=fun M=>match m M with
 |none=>none
 |some (.ok a,M')=>k a M'
 |some (.ex c ds,M')=>some (.ex c ds,M')
noncomputable def Mo.stop{α:Type}:Mo α:=fun _=>none
noncomputable instance:Monad Mo where
 pure:=Mo.ret
 bind:=Mo.bind
theorem TC{α:Type}(a:α)(M:MH):(pure a:Mo α) M=some (.ok a,M):=rfl
theorem run_bind{α β:Type}(m:Mo α)(k:α->Mo β)(M:MH):(m >>= k) M=match m M with
 |none=>none
 |some (.ok a,M')=>k a M'
 |some (.ex c ds,M')=>some (.ex c ds,M'):=rfl
inductive PV {α β:Type} (m:Mo α) (k:α->Mo β) (M M':MH) (b:β):Prop
 |mk (a:α) (M1:MH) (e:m M=some (.ok a,M1)) (h:k a M1=some (.ok b,M'))
theorem ae{α β:Type}{m:Mo α}{k:α->Mo β}{M M':MH}{b:β}(h:(m >>= k) M=some (.ok b,M')):PV m k M M' b:=by
 rw[run_bind]at h;split at h
 ·cases h
 ·rename_i a M1 e
  exact⟨a,M1,e,h⟩
 ·cases h
theorem qb{α β:Type}{m:Mo α}{k:α->Mo β}{M M1:MH}{a:α}(h:m M=some (.ok a,M1)):(m >>= k) M=k a M1:=by
 rw[run_bind,h]
noncomputable abbrev Ev:=List (Option D)
noncomputable def getM(i:Nat):Mo MO:=fun M=>match M[i]? with
 |some o=>some (.ok o,M)
 |none=>none
noncomputable def bz(o:MO):Mo D:=fun M=>some (.ok (.ob M.length),M++[o])
noncomputable def cY(i:Nat)(o:MO):Mo Unit:=fun M=>if i<M.length then some (.ok (),M.set i o) else none
noncomputable def need(p:Prop)[Decidable p]:Mo Unit:=if p then pure () else Mo.stop
noncomputable def lift{α:Type}(o:Option α):Mo α:=match o with
 |some a=>pure a
 |none=>Mo.stop
noncomputable def getL(i:Nat):Mo (List D):=fun M=>match M[i]? with
 |some (.lst ds)=>some (.ok ds,M)
 |_=>none
noncomputable def getD(i:Nat):Mo (List (Ky×D)):=fun M=>match M[i]? with
 |some (.aW ds)=>some (.ok ds,M)
 |_=>none
noncomputable def putD(f:Str)(v:D):List (Str×D)->List (Str×D)
 |[]=>[(f,v)]
 | (g,x)::r=>if g=f then (g,v)::r else (g,x)::putD f v r
noncomputable def i7(i:Nat):Mo (Nat×List (Str×D)):=fun M=>match M[i]? with
 |some (.ins C fs)=>some (.ok (C,fs),M)
 |_=>none
noncomputable def uE(C:Nat)(f:Str):D->Mo D
 |.ob k=>do let p<-i7 k;need (p.1=C);lift (p.2.lookup f)
 |_=>Mo.stop
noncomputable def setF(C:Nat)(f:Str)(v:D):D->Mo Unit
 |.ob k=>do let p<-i7 k;need (p.1=C/\p.2.length<100);cY k (.ins C (putD f v p.2))
 |_=>Mo.stop
noncomputable def ssE:D->Mo D
 |.ob k=>do let ds<-getL k;need (ds.isEmpty=true);bz (.lst [])
 |_=>Mo.stop
noncomputable def srE:D->Mo D
 |.ob k=>do let kvs<-getD k;need (kvs.isEmpty=true);bz (.lst [])
 |_=>Mo.stop
noncomputable def mnE(y:D):D->Mo D
 |.ob k=>do let ds<-getL k;need (ds.isEmpty=true);pure y
 |_=>Mo.stop
noncomputable def gM(C:Nat)(m:Str):D->Mo Unit
 |.ob k=>do let p<-i7 k;need (p.1=C/\(p.2.lookup m).isNone=true)
 |_=>Mo.stop
noncomputable def ki:D->Option Ky
 |.int i=>some (.inl i)
 |.str x=>some (.inr x)
 |_=>none
noncomputable def bE:D->Bool
 |.non=>true|.bl _=>true|.int _=>true|.str _=>true|_=>false
noncomputable def eY:D->D->Bool
 |.non,.non=>true
 |.bl a,.bl b=>a==b
 |.bl a,.int b=>(if a then 1 else 0)==b
 |.int a,.bl b=>a==(if b then 1 else 0)
 |.int a,.int b=>a==b
 |.str a,.str b=>a==b
 |_,_=>false
noncomputable def gk(f:D->D->Option Bool):List D->List D->Option Bool
 |[],[]=>some true
 |[],_::_=>some false
 |_::_,[]=>some false
 |x::xs,y::ys=>match f x y with
  |none=>none
  |some b=>match gk f xs ys with
   |none=>none
   |some c=>some (b&&c)
noncomputable def bT(M:MH):Nat->D->D->Option Bool
 |0,_,_=>none
 |n+1,x,y=>match x,y with
  |.tup xs,.tup ys=>gk (bT M n) xs ys
  |.ob i,.ob j=>(match M[i]?,M[j]? with
   |some (.lst xs),some (.lst ys)=>if xs.length=ys.length then gk (bT M n) xs ys else some false
   |_,_=>none)
  |.tup _,y=>if bE y=true then some false else none
  |x,.tup _=>if bE x=true then some false else none
  |x,y=>if (bE x&&bE y)=true then some (eY x y) else none
noncomputable def nV(x y:D):Mo Bool:=fun M=>match bT M 20 x y with
 |some b=>some (.ok b,M)
 |none=>none
noncomputable def i4(M:MH)(x:D):List D->Option Bool
 |[]=>some false
 |d::ds=>match bT M 8 d x with
  |none=>none
  |some b=>match i4 M x ds with
   |none=>none
   |some c=>some (b||c)
noncomputable def kO(x:D)(ds:List D):Mo Bool:=fun M=>match i4 M x ds with
 |some b=>some (.ok b,M)
 |none=>none
noncomputable def dh(kvs:List (Ky×D))(k:Ky):Option D:=(kvs.find? fun kv=>decide (kv.1=k)).map (·.2)
noncomputable def iI(kvs:List (Ky×D))(k:Ky)(v:D):List (Ky×D) :=
 if (kvs.any fun kv=>decide (kv.1=k))=true then kvs.map (fun kv=>if kv.1=k then (kv.1,v) else kv) else kvs++[(k,v)]
noncomputable def dK:Ky->D
 |.inl i=>.int i
 |.inr x=>.str x
noncomputable def sgn(c:Nat):D:=.str ⟨#[c]⟩
noncomputable def oN(n:Nat)(i:Int):Option Nat:=if 0<=i then (if i<n then some i.toNat else none) else if -(n:Int)<=i then some (i+n).toNat else none
noncomputable def ee{α:Type}(xs:List α)(i:Int):Option α:=(oN xs.length i).bind fun j=>xs[j]?
noncomputable def dD(n d:Nat):Option Int->Nat
 |none=>d
 |some v=>if v<0 then (v+(n:Int)).toNat else min v.toNat n
noncomputable def cutD{α:Type}(xs:List α)(lo hi:Option Int):List α:=(xs.drop (dD xs.length 0 lo)).take (dD xs.length xs.length hi-dD xs.length 0 lo)
noncomputable def DD(j i:Str):Bool:=!(Builtin.Str.occurrences j i 0 j.length 1).isEmpty
noncomputable def Bt(a:Str)(n:Nat):Str:=⟨(zM n a.cps).foldl (·++·) #[]⟩
noncomputable def eT(op:Operator)(x y:D):Mo D:=match op,x,y with
 |.Add,.int i,.int j=>pure (.int (i+j))
 |.Add,.str a,.str b=>do need (a.length+b.length<=zq);pure (.str (a++b))
 |.Add,.ob i,.ob j=>do
  let xs<-getL i
  let ys<-getL j
  need (xs.length+ys.length<=zq)
  bz (.lst (xs++ys))
 |.Add,.tup xs,.tup ys=>do need (xs.length+ys.length<=zq);pure (.tup (xs++ys))
 |.Sub,.int i,.int j=>pure (.int (i-j))
 |.Mult,.int i,.int j=>do need ((-(2 ^ 64)<i/\i<2 ^ 64)\/(-(2 ^ 64)<j/\j<2 ^ 64));pure (.int (i*j))
 |.FloorDiv,.int i,.int j=>do need (0<j/\j<1073741824);pure (.int (i / j))
 |.Mod,.int i,.int j=>do need (0<j);pure (.int (i % j))
 |.Pow,.int i,.int j=>do need (0<=j/\j<=1000000/\i.natAbs<2 ^ 64);pure (.int (i ^ j.toNat))
 |.Mult,.str a,.int j=>do need (2<=j/\j<1000/\0<a.length/\a.length<1000);pure (.str (Bt a j.toNat))
 |_,_,_=>Mo.stop
noncomputable def inD(x y:D):Mo Bool:=match y with
 |.str j=>(match x with
  |.str i=>pure (DD j i)
  |_=>Mo.stop)
 |.tup ds=>kO x ds
 |.fl ds=>kO x ds
 |.ob i=>do
  let o<-getM i
  (match o with
  |.lst ds=>kO x ds
  |.aW kvs=>do let k<-lift (ki x);pure (dh kvs k).isSome
  |.ins _ _=>Mo.stop
  )
 |_=>Mo.stop
noncomputable def Qq(x y:D):Option Bool:=match x,y with
 |.int i,.int j=>some (decide (i<j))
 |.str a,.str b=>some (decide (a.cps.toList<b.cps.toList))
 |_,_=>none
noncomputable def Qr(x y:D):Option Bool:=match x,y with
 |.int i,.int j=>some (decide (i<=j))
 |.str a,.str b=>some (!decide (b.cps.toList<a.cps.toList))
 |_,_=>none
noncomputable def gL:D->Bool
 |.non=>true
 |_=>false
noncomputable def cb(op:CmpOp)(x y:D):Mo Bool:=match op with
 |.Eq=>nV x y
 |.NotEq=>do let b<-nV x y;pure (!b)
 |.Lt=>lift (Qq x y)
 |.LtE=>lift (Qr x y)
 |.Gt=>(match x,y with
  |.int i,.int j=>pure (decide (j<i))
  |_,_=>Mo.stop)
 |.GtE=>(match x,y with
  |.int i,.int j=>pure (decide (j<=i))
  |_,_=>Mo.stop)
 |.In=>inD x y
 |.NotIn=>do let b<-inD x y;pure (!b)
 |.Is=>do need (gL y=true);pure (gL x)
 |.IsNot=>do need (gL y=true);pure (!gL x)
noncomputable def hV(x y:D):Mo D:=match x,y with
 |.tup ds,.int i=>lift (ee ds i)
 |.fl ds,.int i=>lift (ee ds i)
 |.str s,.int i=>do need (s.length<=zq);let c<-lift (ee s.cps.toList i);pure (sgn c)
 |.ob k,y=>do
  let o<-getM k
  (match o with
  |.lst ds=>(match y with
   |.int i=>lift (ee ds i)
   |_=>Mo.stop)
  |.aW kvs=>do let q<-lift (ki y);lift (dh kvs q)
  |.ins _ _=>Mo.stop
  )
 |_,_=>Mo.stop
noncomputable def setIx(x y v:D):Mo Unit:=match x with
 |.ob k=>do
  let o<-getM k
  (match o with
  |.lst ds=>(match y with
   |.int i=>do let j<-lift (oN ds.length i);cY k (.lst (ds.set j v))
   |_=>Mo.stop)
  |.aW kvs=>do let q<-lift (ki y);need (kvs.length<zq);cY k (.aW (iI kvs q v))
  |.ins _ _=>Mo.stop
  )
 |_=>Mo.stop
noncomputable def fR(x:D)(lo hi:Option Int):Mo D:=match x with
 |.str s=>do need (s.length<=zq);pure (.str ⟨(cutD s.cps.toList lo hi).toArray⟩)
 |.tup ds=>pure (.tup (cutD ds lo hi))
 |.ob k=>do let ds<-getL k;bz (.lst (cutD ds lo hi))
 |.fl ds=>bz (.lst (cutD ds lo hi))
 |_=>Mo.stop
noncomputable def kx(x:D):Mo Bool:=match x with
 |.non=>pure false
 |.bl b=>pure b
 |.int i=>pure (i != 0)
 |.str s=>do need (s.length<=zq);pure ((s.length:Int) != 0)
 |.tup ds=>pure (!ds.isEmpty)
 |.fl ds=>pure (!ds.isEmpty)
 |.ob k=>do
  let o<-getM k
  (match o with
  |.lst ds=>pure (!ds.isEmpty)
  |.aW kvs=>pure (!kvs.isEmpty)
  |.ins _ _=>Mo.stop
  )
noncomputable def i3(x:D):Mo (List D):=match x with
 |.tup ds=>pure ds
 |.fl ds=>pure ds
 |.ob k=>getL k
 |_=>Mo.stop
noncomputable def kL(x:D):Mo (List D):=match x with
 |.fl ds=>pure ds
 |.ob k=>getL k
 |_=>Mo.stop
noncomputable def bD:D->Option Bool
 |.bl b=>some b
 |_=>none
noncomputable def iZ(kvs:List (Ky×D)):List (Ky×D)->List (Ky×D)
 |[]=>kvs
 |p::r=>iZ (iI kvs p.1 p.2) r
inductive Bl where
 |len|tuple|list|repr|all|any|min2|max2|abs|dict1|minL
 deriving DecidableEq
noncomputable def eJ(b:Bl)(xs:List D):Mo D:=match b,xs with
 |.len,[.str s]=>do need (s.length<=zq);pure (.int s.length)
 |.len,[.ob k]=>do
  let o<-getM k
  (match o with
  |.lst ds=>pure (.int ds.length)
  |.aW kvs=>pure (.int kvs.length)
  |.ins _ _=>Mo.stop
  )
 |.len,[.tup ds]=>pure (.int ds.length)
 |.len,[.fl ds]=>pure (.int ds.length)
 |.tuple,[.tup ds]=>pure (.tup ds)
 |.tuple,[.fl ds]=>pure (.tup ds)
 |.tuple,[.ob k]=>do let ds<-getL k;pure (.tup ds)
 |.list,[x]=>do let ds<-i3 x;bz (.lst ds)
 |.all,[.ob k]=>do let ds<-getL k;let bs<-lift (ds.mapM bD);pure (.bl (bs.all id))
 |.any,[.ob k]=>do let ds<-getL k;let bs<-lift (ds.mapM bD);pure (.bl (bs.any id))
 |.max2,[.int i,.int j]=>pure (.int (if j > i then j else i))
 |_,_=>Mo.stop
inductive Ty where
 |int|str|bool|list|tuple|dict
 deriving DecidableEq
noncomputable def dz(t:Ty)(x:D):Mo Bool:=match x with
 |.non=>pure false
 |.bl _=>pure (t==.bool||t==.int)
 |.int _=>pure (t==.int)
 |.str _=>pure (t==.str)
 |.tup _=>pure (t==.tuple)
 |.fl _=>pure (t==.list)
 |.ob k=>do
  let o<-getM k
  (match o with
  |.lst _=>pure (t==.list)
  |.aW _=>pure (t==.dict)
  |.ins _ _=>Mo.stop
  )
inductive Mt where
 |append|insert|join|get
 |index
 |extend
 |find
 deriving DecidableEq
noncomputable def iU(m:Mt)(x:D):Mo Unit:=match m,x with
 |.append,.ob k=>do let _<-getL k;pure ()
 |.insert,.ob k=>do let _<-getL k;pure ()
 |.extend,.ob k=>do let _<-getL k;pure ()
 |.index,.ob k=>do let _<-getL k;pure ()
 |.index,.tup _=>pure ()
 |.join,.str _=>pure ()
 |.find,.str _=>pure ()
 |.get,.ob k=>do let _<-getD k;pure ()
 |_,_=>Mo.stop
noncomputable def Sa:D->Nat->Bool
 |.ob j,k=>j==k
 |_,_=>false
noncomputable def sW:D->Option Str
 |.str x=>some x
 |_=>none
noncomputable def glue(sep:List Nat):List (List Nat)->List Nat
 |[]=>[]
 |[x]=>x
 |x::y::r=>x++sep++glue sep (y::r)
noncomputable def jj(sep:Str)(ys:List Str):Str:=⟨(glue sep.cps.toList (ys.map (·.cps.toList))).toArray⟩
noncomputable def Sv(x:D):Mo (List D):=match x with
 |.tup ds=>pure ds
 |.ob k=>getL k
 |_=>Mo.stop
noncomputable def findS(s t:Str):Int:=match Builtin.Str.occurrences s t 0 s.length 1 with
 |i::_=>(i:Int)
 |[]=>-1
noncomputable def iq(m:Mt)(x:D)(xs:List D):Mo D:=match m,x,xs with
 |.append,.ob k,[v]=>do let ds<-getL k;need (ds.length<zq);cY k (.lst (ds++[v]));pure .non
 |.index,.tup ds,[v]=>do need (bE v=true/\ds.all bE=true);let j<-lift (ds.findIdx? fun d=>eY d v);pure (.int (j:Nat))
 |.index,.ob k,[v]=>do let ds<-getL k;need (bE v=true/\ds.all bE=true);let j<-lift (ds.findIdx? fun d=>eY d v);pure (.int (j:Nat))
 |.join,.str t,[.ob k]=>do let ds<-getL k;let ys<-lift (ds.mapM sW);need ((ys.map (·.length)).sum+ys.length*t.length<=16777216);pure (.str (jj t ys))
 |.find,.str s,[.str t]=>pure (.int (findS s t))
 |.extend,.ob k,[y]=>do let es<-Sv y;let ds<-getL k;need (ds.length+es.length<=zq/\Sa y k=false);cY k (.lst (ds++es));pure .non
 |_,_,_=>Mo.stop
inductive M0 where
 |clear|pop|reverse
 deriving DecidableEq
noncomputable def Ap{α:Type}(n:α)(m:M0)(xs:List α):Option (α×List α):=match m with
 |.clear=>some (n,[])
 |.reverse=>some (n,xs.reverse)
 |.pop=>(xs[xs.length-1]?).map fun y=>(y,xs.dropLast)
noncomputable def uT(m:M0)(x:D):Mo D:=match x with
 |.ob k=>do let ds<-getL k;let r<-lift (Ap .non m ds);cY k (.lst r.2);pure r.1
 |_=>Mo.stop
set_option genSizeOf false
set_option genInjectivity false
mutual
inductive IE where
 |var (i:Nat)|cint (i:Int)|cbl (b:Bool)|cnon|cstr (x:Str)
 |glb (x:Str)
 |bin (op:Operator) (a b:IE)
 |cmp (op:CmpOp) (a b:IE)
 |cmp2 (op op':CmpOp) (a b c:IE)
 |and (a b:IE)|or (a b:IE)|not (a:IE)
 |ifE (c:IC) (a b:IE)
 |tup (es:cG)|lst (es:cG)|dic0
 |fld (a:IE) (f:Str)|mcl (a:IE) (m:Str) (es:cG)|new (es:cG)|ssE (a:IE)|srE (a:IE)|mnE (a b:IE)
 |idx (a b:IE)|slc (a:IE) (lo hi:ml)
 |call (f:Str) (es:cG)|blt (b:Bl) (es:cG)
 |sortL (a:IE)
 |rfs (es:cG)
 |revL (a:IE)
 |intB (a:IE)
 |clr (m:M0) (a:IE)
 |neg (a:IE)
 |isI (a:IE) (t:Ty)
 |isI2 (a:IE) (t u:Ty)
 |dicS (ks:List Str) (es:cG)
 |compZ (i j:Nat) (a b e:IE)
 |mth (m:Mt) (a:IE) (es:cG)
 |comp (j:Nat) (it:IT) (c:nt) (e:IE)
inductive cG where
 |nil|cons (e:IE) (es:cG)
inductive ml where
 |none|some (e:IE)
inductive IT where
 |seq (e:IE)|rng1 (a:IE)|tq (a b:IE)
inductive IC where
 |cmp (e:IE)|tru (e:IE)|not (c:IC)|and (a b:IC)|or (a b:IC)
inductive nt where
 |none|some (c:IC)
end
inductive IP where
 |seq (e:IE)|enum (e:IE)
mutual
inductive IS where
 |setF (o:IE) (f:Str) (e:IE)
 |set (i:Nat) (e:IE)|setIx (o i e:IE)|expr (e:IE)|ret (e:IE)|retN|pass|brk|cnt
 |halt
 |rz
 |forN (is:List Nat) (e:IE) (b:aI)
 |ifS (c:IC) (a b:aI)|forS (i:Nat) (it:IT) (b:aI)|forP (i j:Nat) (it:IP) (b:aI)
 |whileS (c:IC) (b:aI)
inductive aI where
 |nil|cons (s:IS) (r:aI)
end
set_option genSizeOf true
set_option genInjectivity true
end L3
namespace L3
open PySem
structure Ctx where
 fn:Str->List D->Mo D
 gl:Str->Option D
 srt:List D->Option (List D)
 wh:Nat
 rz:Str->List D->MH->Option MH
 rf:List D->MH->Option MH
 hc:Nat
inductive Fl where
 |nx (ρ:Ev)|rt (d:D)|bk (ρ:Ev)|ct (ρ:Ev)
structure Src where
 ck:Option (Nat×List D)
 ds:List D
noncomputable def gK(ck:Option (Nat×List D))(M:MH):Prop:=match ck with
 |none=>True
 |some (i,all)=>M[i]?=some (.lst all)
noncomputable def fw(x:D):Mo Src:=match x with
 |.tup ds=>pure ⟨none,ds⟩
 |.fl ds=>pure ⟨none,ds⟩
 |.str s=>do need (s.length<=zq);pure ⟨none,s.cps.toList.map sgn⟩
 |.ob k=>do let ds<-getL k;pure ⟨some (k,ds),ds⟩
 |_=>Mo.stop
noncomputable def small(i:Int):Prop:=-(2 ^ 62)<=i/\i<2 ^ 62
noncomputable instance (i:Int):Decidable (small i):=by unfold small;infer_instance
noncomputable def fE(lo hi:Int):List D:=(List.range (hi-lo).toNat).map fun (k:Nat)=>D.int (lo+k)
open Classical in
noncomputable def bN(ck:Option (Nat×List D)):Mo Unit:=fun M=>if gK ck M then some (.ok (),M) else none
noncomputable def dB(ck:Option (Nat×List D))(i:Nat)(body:Ev->Mo Fl):List D->Ev->Mo Fl
 |[],ρ=>do bN ck;pure (.nx ρ)
 |d::ds,ρ=>do
  bN ck
  let f<-body (ρ.set i (some d))
  (match f with
  |.nx ρ'=>dB ck i body ds ρ'
  |.ct ρ'=>dB ck i body ds ρ'
  |.bk ρ'=>pure (.nx ρ')
  |.rt v=>pure (.rt v))
noncomputable def Jt(x:D):Mo Src:=match x with
 |_=>Mo.stop
noncomputable def pairD:D->Option (D×D)
 |.tup [x,y]=>some (x,y)
 |_=>none
noncomputable def fg(ck:Option (Nat×List D))(i j:Nat)(body:Ev->Mo Fl):List D->Ev->Mo Fl
 |[],ρ=>do bN ck;pure (.nx ρ)
 |d::ds,ρ=>do
  bN ck
  let p<-lift (pairD d)
  let f<-body ((ρ.set i (some p.1)).set j (some p.2))
  (match f with
  |.nx ρ'=>fg ck i j body ds ρ'
  |.ct ρ'=>fg ck i j body ds ρ'
  |.bk ρ'=>pure (.nx ρ')
  |.rt v=>pure (.rt v))
noncomputable def dS(c:Ev->Mo Bool)(body:Ev->Mo Fl):Nat->Ev->Mo Fl
 |0,_=>Mo.stop
 |n+1,ρ=>do
  let b<-c ρ
  if b=true then do
   let f<-body ρ
   (match f with
   |.nx ρ'=>dS c body n ρ'
   |.ct ρ'=>dS c body n ρ'
   |.bk ρ'=>pure (.nx ρ')
   |.rt v=>pure (.rt v))
  else pure (.nx ρ)
noncomputable def dQ(ck:Option (Nat×List D))(c:Ev->Mo Bool)(e:Ev->Mo D)(ρ:Ev):List D->Mo (List D)
 |[]=>do bN ck;pure []
 |d::ds=>do
  bN ck
  let b<-c (some d::ρ)
  if b=true then do
   let y<-e (some d::ρ)
   let ys<-dQ ck c e ρ ds
   pure (y::ys)
  else dQ ck c e ρ ds
structure HE where
 c1:Option (Nat×List D)
 c2:Option (Nat×List D)
 ds:List (D×D)
noncomputable def ny(x y:D):Mo HE:=match x with
 |.tup xs=>(match y with
  |.tup ys=>do need (xs.length=ys.length);pure ⟨none,none,xs.zip ys⟩
  |_=>Mo.stop)
 |.ob i=>(match y with
  |.ob j=>do let xs<-getL i;let ys<-getL j;need (xs.length=ys.length);pure ⟨some (i,xs),some (j,ys),xs.zip ys⟩
  |_=>Mo.stop)
 |_=>Mo.stop
noncomputable def d9(c1 c2:Option (Nat×List D))(e:Ev->Mo D)(ρ:Ev):List (D×D)->Mo (List D)
 |[]=>do bN c1;bN c2;pure []
 |p::r=>do
  bN c1
  bN c2
  let y<-e (some p.1::some p.2::ρ)
  let ys<-d9 c1 c2 e ρ r
  pure (y::ys)
noncomputable def Nn:D->Option (List D)
 |.tup ds=>some ds
 |_=>none
noncomputable def hX:List Nat->List D->Ev->Option Ev
 |[],[],ρ=>some ρ
 |i::is,d::ds,ρ=>hX is ds (ρ.set i (some d))
 |_,_,_=>none
noncomputable def dA(ck:Option (Nat×List D))(is:List Nat)(body:Ev->Mo Fl):List D->Ev->Mo Fl
 |[],ρ=>do bN ck;pure (.nx ρ)
 |d::ds,ρ=>do
  bN ck
  let xs<-lift (Nn d)
  let ρ1<-lift (hX is xs ρ)
  let f<-body ρ1
  (match f with
  |.nx ρ'=>dA ck is body ds ρ'
  |.ct ρ'=>dA ck is body ds ρ'
  |.bk ρ'=>pure (.nx ρ')
  |.rt v=>pure (.rt v))
noncomputable def pE(ks:List Str)(o:D)(xs:List D):Mo D:=match o with
 |.ob i=>do
  let kvs<-getD i
  need (kvs.isEmpty=true/\ks.length=xs.length/\ks.length<=15)
  cY i (.aW (iZ [] ((ks.map Sum.inr).zip xs)))
  pure (.ob i)
 |_=>Mo.stop
noncomputable def lK(ρ:Ev)(i:Nat):Mo D:=match ρ[i]? with
 |some (some d)=>pure d
 |_=>Mo.stop
noncomputable def z0(Γ:Ctx)(xs:List D):Mo D:=fun M=>match Γ.rf xs M with
 |some M'=>some (.ok (.bl true),M')
 |none=>none
noncomputable def av(m:Str):Str:="House."++m
noncomputable def kW:List Str:=["tree","rotas","rules","top","turn","sayings","quietings","swaps","absences","answers","entries","last_states"]
noncomputable def kU:List Str:=["until","now","records","log","open_groups","states","ground_of","on_duty","known_rota","reckoned_to","go_on"]
mutual
noncomputable def af(Γ:Ctx):IE->Ev->Mo D
 |.var i,ρ=>lK ρ i
 |.cint i,_=>pure (.int i)
 |.cbl b,_=>pure (.bl b)
 |.cnon,_=>pure .non
 |.cstr x,_=>pure (.str x)
 |.glb x,_=>lift (Γ.gl x)
 |.bin op a b,ρ=>do let x<-af Γ a ρ;let y<-af Γ b ρ;eT op x y
 |.cmp op a b,ρ=>do let x<-af Γ a ρ;let y<-af Γ b ρ;let k<-cb op x y;pure (.bl k)
 |.cmp2 op op' a b c,ρ=>do
  let x<-af Γ a ρ
  let y<-af Γ b ρ
  let k<-cb op x y
  if k=true then do let z<-af Γ c ρ;let k'<-cb op' y z;pure (.bl k') else pure (.bl false)
 |.and a b,ρ=>do let x<-af Γ a ρ;let k<-lift (bD x);if k=true then af Γ b ρ else pure (.bl false)
 |.or a b,ρ=>do let x<-af Γ a ρ;let k<-lift (bD x);if k=true then pure (.bl true) else af Γ b ρ
 |.not a,ρ=>do let x<-af Γ a ρ;let k<-lift (bD x);pure (.bl (!k))
 |.ifE c a b,ρ=>do let k<-bh Γ c ρ;if k=true then af Γ a ρ else af Γ b ρ
 |.tup es,ρ=>do let xs<-aR Γ es ρ;need (xs.length<=zq);pure (.tup xs)
 |.lst es,ρ=>do let xs<-aR Γ es ρ;need (xs.length<=zq);bz (.lst xs)
 |.dic0,_=>bz (.aW [])
 |.fld a f,ρ=>do let x<-af Γ a ρ;uE Γ.hc f x
 |.mcl a m es,ρ=>do let x<-af Γ a ρ;gM Γ.hc m x;let xs<-aR Γ es ρ;Γ.fn (av m) (x::xs)
 |.new es,ρ=>do let xs<-aR Γ es ρ;let o<-bz (.ins Γ.hc []);let r<-Γ.fn "House.__init__" (o::xs);need (gL r=true);pure o
 |.ssE a,ρ=>do let x<-af Γ a ρ;ssE x
 |.srE a,ρ=>do let x<-af Γ a ρ;srE x
 |.mnE a b,ρ=>do let x<-af Γ a ρ;let y<-af Γ b ρ;mnE y x
 |.idx a b,ρ=>do let x<-af Γ a ρ;let y<-af Γ b ρ;hV x y
 |.slc a lo hi,ρ=>do let x<-af Γ a ρ;let l<-gT Γ lo ρ;let h<-gT Γ hi ρ;fR x l h
 |.call f es,ρ=>do let xs<-aR Γ es ρ;Γ.fn f xs
 |.blt b es,ρ=>do let xs<-aR Γ es ρ;eJ b xs
 |.comp j it c e,ρ=>do
  let s<-fD Γ it ρ
  need (s.ds.length<=zq)
  let ys<-dQ s.ck (iG Γ c) (af Γ e) (ρ.set j none) s.ds
  bz (.lst ys)
 |.rfs es,ρ=>do let xs<-aR Γ es ρ;z0 Γ xs
 |.sortL a,ρ=>do
  let x<-af Γ a ρ
  let ds<-kL x
  let ys<-lift (Γ.srt ds)
  bz (.lst ys)
 |.intB a,ρ=>do let x<-af Γ a ρ;let b<-lift (bD x);pure (.int (if b then 1 else 0))
 |.clr m a,ρ=>do let x<-af Γ a ρ;uT m x
 |.revL a,ρ=>do
  let x<-af Γ a ρ
  let ds<-kL x
  bz (.lst ds.reverse)
 |.neg a,ρ=>do
  let x<-af Γ a ρ
  (match x with
  |.int i=>pure (.int (-i))
  |_=>Mo.stop)
 |.isI a t,ρ=>do let x<-af Γ a ρ;let k<-dz t x;pure (.bl k)
 |.isI2 a t u,ρ=>do let x<-af Γ a ρ;let k<-dz t x;let l<-dz u x;pure (.bl (k||l))
 |.dicS ks es,ρ=>do let o<-bz (.aW []);let xs<-aR Γ es ρ;pE ks o xs
 |.compZ i j a b e,ρ=>do
  let x<-af Γ a ρ
  let y<-af Γ b ρ
  let s<-ny x y
  need (s.ds.length<=zq)
  let ys<-d9 s.c1 s.c2 (af Γ e) ((ρ.set i none).set j none) s.ds
  bz (.lst ys)
 |.mth m a es,ρ=>do let x<-af Γ a ρ;iU m x;let xs<-aR Γ es ρ;iq m x xs
noncomputable def aR(Γ:Ctx):cG->Ev->Mo (List D)
 |.nil,_=>pure []
 |.cons e es,ρ=>do let x<-af Γ e ρ;let xs<-aR Γ es ρ;pure (x::xs)
noncomputable def gT(Γ:Ctx):ml->Ev->Mo (Option Int)
 |.none,_=>pure none
 |.some e,ρ=>do
  let x<-af Γ e ρ
  (match x with
  |.int i=>pure (some i)
  |_=>Mo.stop)
noncomputable def fD(Γ:Ctx):IT->Ev->Mo Src
 |.seq e,ρ=>do let x<-af Γ e ρ;fw x
 |.rng1 a,ρ=>do
  let x<-af Γ a ρ
  (match x with
  |.int i=>do need (small i);pure ⟨none,fE 0 i⟩
  |_=>Mo.stop)
 |.tq a b,ρ=>do
  let x<-af Γ a ρ
  let y<-af Γ b ρ
  (match x,y with
  |.int i,.int j=>do need (small i/\small j);pure ⟨none,fE i j⟩
  |_,_=>Mo.stop)
noncomputable def bh(Γ:Ctx):IC->Ev->Mo Bool
 |.cmp e,ρ=>do let x<-af Γ e ρ;lift (bD x)
 |.tru e,ρ=>do let x<-af Γ e ρ;kx x
 |.not c,ρ=>do let k<-bh Γ c ρ;pure (!k)
 |.and a b,ρ=>do let k<-bh Γ a ρ;if k=true then bh Γ b ρ else pure false
 |.or a b,ρ=>do let k<-bh Γ a ρ;if k=true then pure true else bh Γ b ρ
noncomputable def iG(Γ:Ctx):nt->Ev->Mo Bool
 |.none,_=>pure true
 |.some c,ρ=>bh Γ c ρ
end
noncomputable def kA(Γ:Ctx):IP->Ev->Mo Src
 |.seq e,ρ=>do let x<-af Γ e ρ;fw x
 |.enum e,ρ=>do let x<-af Γ e ρ;Jt x
mutual
noncomputable def bp(Γ:Ctx):IS->Ev->Mo Fl
 |.setF o f e,ρ=>do let v<-af Γ e ρ;let x<-af Γ o ρ;setF Γ.hc f v x;pure (.nx ρ)
 |.set i e,ρ=>do let x<-af Γ e ρ;pure (.nx (ρ.set i (some x)))
 |.forN is e b,ρ=>do let x<-af Γ e ρ;let s<-fw x;dA s.ck is (au Γ b) s.ds ρ
 |.setIx o i e,ρ=>do let v<-af Γ e ρ;let x<-af Γ o ρ;let y<-af Γ i ρ;setIx x y v;pure (.nx ρ)
 |.expr e,ρ=>do let _<-af Γ e ρ;pure (.nx ρ)
 |.ret e,ρ=>do let x<-af Γ e ρ;pure (.rt x)
 |.retN,_=>pure (.rt .non)
 |.pass,ρ=>pure (.nx ρ)
 |.brk,ρ=>pure (.bk ρ)
 |.cnt,ρ=>pure (.ct ρ)
 |.halt,_=>Mo.stop
 |.rz,_=>Mo.stop
 |.ifS c a b,ρ=>do let k<-bh Γ c ρ;if k=true then au Γ a ρ else au Γ b ρ
 |.forS i it b,ρ=>do let s<-fD Γ it ρ;dB s.ck i (au Γ b) s.ds ρ
 |.forP i j it b,ρ=>do let s<-kA Γ it ρ;fg s.ck i j (au Γ b) s.ds ρ
 |.whileS c b,ρ=>dS (bh Γ c) (au Γ b) Γ.wh ρ
noncomputable def au(Γ:Ctx):aI->Ev->Mo Fl
 |.nil,ρ=>pure (.nx ρ)
 |.cons s r,ρ=>do
  let f<-bp Γ s ρ
  (match f with
  |.nx ρ'=>au Γ r ρ'
  |.rt v=>pure (.rt v)
  |.bk ρ'=>pure (.bk ρ')
  |.ct ρ'=>pure (.ct ρ'))
end
noncomputable def t4:Option (Out Fl×MH)->Option (Ev×MH)
 |some (.ok (.nx ρ),M)=>some (ρ,M)
 |_=>none
noncomputable def nB(Γ:Ctx)(e:IE)(ρ:Ev)(M:MH):Option MH:=match e with
 |.call f es=>if f==("standing_saying":Str) then (match aR Γ es ρ M with
  |some (.ok xs,M1)=>Γ.rz f xs M1
  |_=>none) else none
 |.mcl a m es=>if m==("known_rota":Str) then (match (do let x<-af Γ a ρ;gM Γ.hc m x;let xs<-aR Γ es ρ;pure (x::xs):Mo (List D)) M with
  |some (.ok xs,M1)=>Γ.rz (av m) xs M1
  |_=>none) else none
 |_=>none
mutual
noncomputable def mV(Γ:Ctx):IS->Ev->MH->Option MH
 |.rz,_,M=>some M
 |.ifS c a b,ρ,M=>match bh Γ c ρ M with
  |some (.ok k,M1)=>if k=true then cM Γ a ρ M1 else cM Γ b ρ M1
  |_=>none
 |.expr e,ρ,M=>nB Γ e ρ M
 |.set _ e,ρ,M=>nB Γ e ρ M
 |_,_,_=>none
noncomputable def cM(Γ:Ctx):aI->Ev->MH->Option MH
 |.nil,_,_=>none
 |.cons s r,ρ,M=>match t4 (bp Γ s ρ M) with
  |some (ρ',M1)=>cM Γ r ρ' M1
  |none=>mV Γ s ρ M
end
noncomputable def D4:Option (Out Unit×MH)->Bool
 |some (.ok _,_)=>true
 |_=>false
noncomputable def oz(C:Nat)(rz:Str->List D->MH->Option MH)(xs:List D)(M:MH):Option MH:=match xs with
 |[o,n,x,t]=>if D4 (gM C "ground_of" o M) then (match rz (av "ground_of") [o,n] M with
  |some M1=>if D4 (gM C "on_duty" o M1) then rz (av "on_duty") [o,x,t] M1 else none
  |none=>none) else none
 |_=>none
noncomputable def nA(Γ:Ctx)(n:Nat)(b:aI)(xs:List D):Mo D:=do
 let f<-au Γ b (xs.map some++zM (n-xs.length) none)
 (match f with
 |.nx _=>pure .non
 |.rt v=>pure v
 |.bk _=>Mo.stop
 |.ct _=>Mo.stop)
structure Fd where
 n:Nat
 p:Nat
 b:aI
noncomputable abbrev Wh:=Nat×Nat
noncomputable def je(tab:List (Str×Fd))(gl:Str->Option D)(srt:List D->Option (List D))(wh:Nat×Nat):Nat->Ctx
 |0=>⟨fun _ _=>Mo.stop,gl,srt,wh.1,fun _ _ _=>none,fun _ _=>none,wh.2⟩
 |k+1=>⟨fun f xs=>match tab.lookup f with
  |some d=>do need (xs.length=d.p);nA (je tab gl srt wh k) d.n d.b xs
  |none=>Mo.stop,gl,srt,wh.1,fun f xs M=>match tab.lookup f with
  |some d=>if xs.length=d.p then cM (je tab gl srt wh k) d.b (xs.map some++zM (d.n-xs.length) none) M else none
  |none=>none,oz wh.2 (je tab gl srt wh k).rz,wh.2⟩
structure Sc where
 sc:Scope
 N:List Str
 fns:List Str
 gls:List Str
 bu:List Str
noncomputable def Sc.kind(S:Sc)(x:Str):Option NameKind:=S.sc.names.lookup x
noncomputable def Sc.qD(S:Sc)(x:Str):Bool:=S.kind x==some .local||S.kind x==some .cell||S.kind x==some .free
noncomputable def Sc.loc(S:Sc)(x:Str):Bool:=S.kind x==some .local||S.kind x==some .cell
noncomputable def Sc.bA(S:Sc)(x:Str):Bool:=S.kind x==some .globalImplicit
noncomputable def slot(N:List Str)(x:Str):Option Nat:=N.findIdx? (·==x)
noncomputable def C2(x:Str)(n:Nat):Option Bl :=
 if x==("len":Str)&&n==1 then some .len else if x==("tuple":Str)&&n==1 then some .tuple else if x==("list":Str)&&n==1 then some .list
 else if x==("repr":Str)&&n==1 then some .repr else if x==("all":Str)&&n==1 then some .all else if x==("any":Str)&&n==1 then some .any
 else if x==("min":Str)&&n==2 then some .min2 else if x==("max":Str)&&n==2 then some .max2 else if x==("abs":Str)&&n==1 then some .abs else if x==("dict":Str)&&n==1 then some .dict1 else if x==("min":Str)&&n==1 then some .minL else none
noncomputable def aV:Expr->Bool
 |.Starred _ _=>false
 |_=>true
noncomputable def bR(x:Str):Bool:=x != ("__debug__":Str)&&x != ("__classdict__":Str)&&x != ("__name__":Str)
noncomputable def Iv:Expr->Bool
 |.Name _ _=>true|.Constant _ _ _=>true|.BinOp _ _ _ _=>true|.Compare _ _ _ _=>true|.BoolOp _ _ _=>true|.UnaryOp _ _ _=>true|.IfExp _ _ _ _=>true
 |.List _ _=>true|.Subscript _ _ _=>true|.Call _ _ _ _=>true|_=>false
noncomputable def Om:Expr->Bool
 |.Attribute _ _ _=>true
 |.Name _ _=>true|.Constant _ _ _=>true|.BinOp _ _ _ _=>true|.Subscript _ _ _=>true|.List _ _=>true|.Tuple _ _ _=>true|.Call _ (_::_) _ _=>true|_=>false
noncomputable def ip:Expr->Bool
 |.ListComp _ _ _ _=>false
 |.SetComp _ _ _ _=>false
 |.DictComp _ _ _ _ _=>false
 |_=>true
noncomputable def blank(N:List Str)(xs:List Str):List Str:=N.map fun y=>if xs.contains y then "" else y
noncomputable def dk(S:Sc)(sc:Scope)(xs:List Str):Bool :=
 sc.kind==.function&&(xs.all fun x=>sc.names.lookup x==some .local&&(x != (".0":Str))&&(x != ("":Str))) &&
 sc.names.all (fun p=>p.2 != .cell&&(p.2 != .local||(xs.contains p.1||p.1==(".0":Str)))) &&
 sc.names.all (fun p=>p.2 != .free||(S.kind p.1==some .cell||S.kind p.1==some .free)) &&
 sc.names.all (fun p=>sc.names.lookup p.1==some p.2&&p.1 != ("":Str))&&(S.N.all fun y=>y != (".0":Str))&&decide (xs++blank S.N xs).Nodup
noncomputable def Sc.comp(S:Sc)(sc:Scope)(xs:List Str):Sc:={ S with sc:=sc,N:=xs++blank S.N xs }
noncomputable def Ax(op:Operator):Bool:=op==.Add||op==.Sub||op==.Mult||op==.FloorDiv||op==.Mod||op==.Pow
noncomputable def pK(S:Sc)(f:Str)(len:Nat)(xs:Option cG):Option IE:=if bR f&&S.bA f then
 (if S.fns.contains f then xs.map (.call f)
 else if S.bu.contains f then (match C2 f len with
  |some b=>xs.map (.blt b)
  |none=>none)
 else none) else none
noncomputable def lL(t:Str):Option Ty :=
 if t==("int":Str) then some .int else if t==("str":Str) then some .str else if t==("bool":Str) then some .bool
 else if t==("list":Str) then some .list else if t==("tuple":Str) then some .tuple else if t==("dict":Str) then some .dict else none
noncomputable def GL(m:Str)(n:Nat):Option Mt :=
 if m==("append":Str)&&n==1 then some .append else if m==("insert":Str)&&n==2 then some .insert else
 if m==("index":Str)&&n==1 then some .index else
 if m==("extend":Str)&&n==1 then some .extend else
 if m==("find":Str)&&n==1 then some .find else
 if m==("join":Str)&&n==1 then some .join else if m==("get":Str)&&n==2 then some .get else none
noncomputable def jq(S:Sc)(f t:Str):Bool:=f==("isinstance":Str)&&bR f&&S.bA f&&S.bu.contains f&&bR t&&S.bA t&&S.bu.contains t
noncomputable def Ci(S:Sc)(x:Str):Option IE:=if bR x then (if S.qD x then (slot S.N x).map .var else if S.bA x&&S.gls.contains x then some (.glb x) else none) else none
noncomputable def Fj:Const->Option IE
 |.int i=>some (.cint i)
 |.bool b=>some (.cbl b)
 |.none=>some .cnon
 |.str x=>some (.cstr x)
 |_=>none
noncomputable def IB:Expr->Bool
 |.Call (.Name f _) _ _ _=>f==("range":Str)
 |_=>false
noncomputable def CV(r:Expr->Option IE)(a:Expr)(ops:List CmpOp)(bs:List Expr):Option IE:=match ops,bs with
 |[op],[b]=>if behindInMarks op b then none else do let x<-r a;let y<-r b;some (.cmp op x y)
 |[op,op'],[b,c]=>if behindInMarks op' c then none else do let x<-r a;let y<-r b;let z<-r c;some (.cmp2 op op' x y z)
 |_,_=>none
noncomputable def JB:BoolOp->IE->IE->IE
 |.And=>.and
 |.Or=>.or
noncomputable def CZ(r:Expr->Option IE)(op:BoolOp)(es:List Expr)(p:Pos):Option IE:=match es with
 |[a,b]=>do let x<-r a;let y<-r b;some (JB op x y)
 |a::b::c::l=>do let x<-r a;let y<-r (.BoolOp op (b::c::l) p);some (JB op x y)
 |_=>none
noncomputable def P0(r:Expr->Option IE)(op:UnaryOp)(a:Expr):Option IE:=match op with
 |.Not=>do let x<-r a;some (.not x)
 |.USub=>do let x<-r a;some (.neg x)
 |_=>none
noncomputable def Lz:Const->Option Str
 |.str x=>some x
 |_=>none
noncomputable def F4:Expr->Option Str
 |.Constant c _ _=>Lz c
 |_=>none
noncomputable def oM(r:Expr->Option IE):List (Option Expr)->List Expr->Option (List Str×cG)
 |[],[]=>some ([],.nil)
 |k::ks,v::vs=>(match k with
  |some k=>do let x<-F4 k;let e<-r v;let p<-oM r ks vs;some (x::p.1,.cons e p.2)
  |none=>none)
 |_,_=>none
noncomputable def PJ(r:Expr->Option IE)(ks:List (Option Expr))(vs:List Expr):Option IE:=match ks with
 |[]=>(match vs with
  |[]=>some .dic0
  |_::_=>none)
 |k::ks=>if decide ((k::ks).length<=15) then do let p<-oM r (k::ks) vs;some (.dicS p.1 p.2) else none
noncomputable def F3(r:Expr->Option IE)(ro:Option Expr->Option ml)(a b:Expr):Option IE:=match b with
 |.Slice lo hi none _=>do let x<-r a;let l<-ro lo;let h<-ro hi;some (.slc x l h)
 |b=>if Iv b then do let x<-r a;let y<-r b;some (.idx x y) else none
noncomputable def Np:Expr->Option (Expr×Str×Pos×Pos)
 |.Call (.Attribute o m p2) [] [] p3=>some (o,m,p2,p3)
 |_=>none
noncomputable def et:Expr->Option (Str×Pos)
 |.Name t p=>some (t,p)
 |_=>none
noncomputable def Bf(S:Sc)(r:Expr->Option IE)(f:Str)(as:List Expr):Option IE:=match as with
 |[a]=>(match Np a with
  |some _=>none
  |none=>(
    if aV a&&(f==("sorted":Str)&&bR f&&S.bA f&&S.bu.contains f) then do let x<-r a;some (.sortL x) else none))
 |_=>none
noncomputable def gU:Expr->Option (Str×Pos×List Expr×Pos)
 |.Call (.Name f p) as [] q=>some (f,p,as,q)
 |_=>none
noncomputable def Ic(S:Sc)(f:Str)(as:List Expr):Bool:=f==("range":Str)&&bR f&&S.bA f&&S.bu.contains f&&as.all aV
noncomputable def Gg:Expr->Option (Str×Pos×Expr×Pos)
 |.Call (.Name g p) [a] [] q=>some (g,p,a,q)
 |_=>none
noncomputable def Br(S:Sc)(f g:Str):Bool:=f==("list":Str)&&g==("reversed":Str)&&bR f&&bR g&&S.bA f&&S.bA g&&S.bu.contains f&&S.bu.contains g
noncomputable def Gf(S:Sc)(r:Expr->Option IE)(f:Str)(as:List Expr)(k:Option IE):Option IE:=match as with
 |[e]=>(match Gg e with
  |some (g,_,a,_)=>if Br S f g then (if aV a then do let x<-r a;some (.revL x) else none) else k
  |none=>k)
 |_=>k
noncomputable def GZ(S:Sc)(r:Expr->Option IE)(f:Str)(as:List Expr)(k:Option IE):Option IE:=match as with
 |[a]=>if (f==("int":Str)&&bR f&&S.bA f&&S.bu.contains f) then (if aV a then do let x<-r a;some (.intB x) else none) else k
 |_=>k
noncomputable def HL:Expr->Option (Expr×Expr×Nat×Pos)
 |.Tuple es k p=>(match es with
  |[a,b]=>some (a,b,k,p)
  |_=>none)
 |_=>none
noncomputable def IA(S:Sc)(r:Expr->Option IE)(f:Str)(a t:Expr):Option IE:=match HL t with
 |some (t1,t2,_,_)=>(match et t1,et t2 with
  |some (u1,_),some (u2,_)=>if jq S f u1&&jq S f u2&&aV a then do let k1<-lL u1;let k2<-lL u2;let x<-r a;some (.isI2 x k1 k2) else none
  |_,_=>none)
 |none=>none
noncomputable def Hn(r:Expr->Option IE)(o:Expr)(f:Str):Option IE:=match et o with
 |some _=>if kW.contains f then (r o).map fun x=>.fld x f else none
 |none=>none
noncomputable def ud(r:Expr->Option IE)(rs:List Expr->Option cG)(o:Expr)(m:Str)(p2 p3:Pos)(as:List Expr):Option IE:=match et o with
 |some _=>if p2.endLine==p3.line&&decide (as.length<29) then do let x<-r o;let xs<-(match as with|[]=>some .nil|a::l=>rs (a::l));some (.mcl x m xs) else none
 |none=>none
noncomputable def newOk(S:Sc)(f:Str):Bool:=f==("House":Str)&&bR f&&S.bA f
noncomputable def Ce(S:Sc)(f:Str)(xs:Option cG)(k:Option IE):Option IE:=if newOk S f then xs.map .new else k
noncomputable def LL:Expr->Bool
 |.Name x _=>x==("numbers":Str)
 |_=>false
noncomputable def HZ(S:Sc)(f:Str):Bool:=f==("sorted":Str)&&bR f&&S.bA f&&S.bu.contains f
noncomputable def LJ(S:Sc)(r:Expr->Option IE)(f:Str)(as:List Expr)(k:Option IE):Option IE:=match as with
 |[a]=>(match gU a with
  |some (g,_,bs,_)=>(match bs with
   |[b]=>if g==("set":Str) then (if aV b&&(HZ S f&&(S.bA g&&S.bu.contains g)) then (r b).map .ssE else none) else k
   |_=>k)
  |none=>if LL a then (if aV a&&HZ S f then (r a).map .srE else none) else k)
 |_=>k
noncomputable def Q5:List Keyword->Option (Expr×Pos)
 |[⟨some x,e,p⟩]=>if x==("default":Str) then some (e,p) else none
 |_=>none
noncomputable def Iq(S:Sc)(r:Expr->Option IE)(f:Expr)(as:List Expr)(ks:List Keyword):Option IE:=match et f with
 |some (g,_)=>(match as with
  |[a]=>(match Q5 ks with
   |some (b,_)=>if g==("min":Str)&&(bR g&&(S.bA g&&(S.bu.contains g&&aV a))) then do let x<-r a;let y<-r b;some (.mnE x y) else none
   |none=>none)
  |_=>none)
 |none=>none
noncomputable def Bo(S:Sc)(f:Str):Bool:=f==("_law_unknown":Str)&&bR f&&S.bA f
noncomputable def tu(S:Sc)(f:Str)(xs:Option cG)(k:Option IE):Option IE:=if Bo S f then xs.map .rfs else k
noncomputable def GV(S:Sc)(r:Expr->Option IE)(f:Str)(as:List Expr):Option IE:=match as with
 |[a,t]=>(match et t with
  |some (t',_)=>if jq S f t'&&aV a then (match lL t' with
   |some k=>do let x<-r a;some (.isI x k)
   |none=>none) else none
  |none=>IA S r f a t)
 |_=>none
noncomputable def Cq(m:Str):Option M0:=if m==("clear":Str) then some .clear else if m==("pop":Str) then some .pop else if m==("reverse":Str) then some .reverse else none
noncomputable def C4(r:Expr->Option IE)(rs:List Expr->Option cG)(o:Expr)(m:Str)(p2 p3:Pos)(as:List Expr):Option IE:=match as with
 |e::es=>if Om o&&(p2.endLine==p3.line&&decide ((e::es).length<29)) then (match
   GL m (e::es).length with
   |some k=>do let x<-r o;let xs<-rs (e::es);some (.mth k x xs)
   |none=>none) else none
 |[]=>if Om o&&p2.endLine==p3.line then (match Cq m with
   |some k=>do let x<-r o;some (.clr k x)
   |none=>none) else none
noncomputable def E3(S:Sc)(r:Expr->Option IE)(rs:List Expr->Option cG)(f:Str)(as:List Expr):Option IE:=match as with
 |e::es=>if f==("sorted":Str) then
  LJ S r f (e::es) <|
  Bf S r f (e::es) else if f==("isinstance":Str) then GV S r f (e::es) else
  Ce S f (rs (e::es)) <|
  Gf S r f (e::es) <|
  GZ S r f (e::es) <|
  tu S f (rs (e::es)) <|
  pK S f (e::es).length (rs (e::es))
 |_=>none
noncomputable def si(S:Sc)(r:Expr->Option IE)(rs:List Expr->Option cG)(f:Expr)(as:List Expr)(p:Pos):Option IE:=match f with
 |.Name g _=>E3 S r rs g as
 |.Attribute o m p2=>if kU.contains m then ud r rs o m p2 p as else C4 r rs o m p2 p as
 |_=>none
noncomputable def Bn(S:Sc)(r:Expr->Option IE)(f:Str)(as:List Expr):Option IT:=if Ic S f as then (match as with
 |[a]=>do let x<-r a;some (.rng1 x)
 |[a,b]=>do let x<-r a;let y<-r b;some (.tq x y)
 |_=>none) else none
noncomputable def Ex:Expr->Bool
 |.Attribute _ _ _=>true
 |.Name _ _=>true|.Subscript _ _ _=>true|.BinOp _ _ _ _=>true|.Call _ _ _ _=>true|.List _ _=>true|.ListComp _ _ _ _=>true|_=>false
noncomputable def u5:BoolOp->IC->IC->IC
 |.And=>.and
 |.Or=>.or
noncomputable def CT(r:Expr->Option IC)(op:BoolOp)(es:List Expr):Option IC:=match es with
 |[a,b]=>do let k<-r a;let j<-r b;some (u5 op k j)
 |[a,b,c]=>do let k<-r a;let j<-r b;let l<-r c;some (u5 op k (u5 op j l))
 |_=>none
noncomputable def uS(S:Sc)(r:Expr->Option IE)(a:Expr)(ops:List CmpOp)(bs:List Expr):Option IE:=match ops,bs with
 |[op],[b]=>if IB b then
  none
  else CV r a [op] [b]
 |ops,bs=>CV r a ops bs
noncomputable def AS(S:Sc):Bool:=S.bA "zip"&&S.bu.contains "zip"
noncomputable def sm(e:Expr):Option (Pos×Expr×Expr×Pos):=match gU e with
 |some (f,p,as,q)=>if f==("zip":Str) then (match as with
  |[a,b]=>if aV a&&aV b then some (p,a,b,q) else none
  |_=>none) else none
 |none=>none
noncomputable def Ik:Expr->Option (Str×Pos×Str×Pos×Nat×Pos)
 |.Tuple es k p=>(match es with
  |[a,b]=>(match et a,et b with
   |some (x,px),some (y,py)=>some (x,px,y,py,k,p)
   |_,_=>none)
  |_=>none)
 |_=>none
noncomputable def uF:List Comprehension->Option (Expr×Expr)
 |[⟨t,iter,[],0⟩]=>some (t,iter)
 |_=>none
noncomputable def uR(S:Sc)(r:Expr->Option IE)(r2:Sc->Option IE)(gs:List Comprehension)(sc:Scope):Option IE:=match uF gs with
 |some (t,iter)=>(match Ik t,sm iter with
  |some (x,_,y,_,_,_),some (_,a,b,_)=>if AS S&&dk S sc [x,y] then do
    let u<-r a
    let v<-r b
    let e<-r2 (S.comp sc [x,y])
    some (.compZ ((slot S.N x).getD S.N.length) ((slot S.N y).getD S.N.length) u v e) else none
  |_,_=>none)
 |none=>none
noncomputable def mL:List Comprehension->Option (Str×Pos×Expr×List Expr)
 |[⟨.Name x p,iter,ifs,0⟩]=>some (x,p,iter,ifs)
 |_=>none
mutual
noncomputable def cE(S:Sc):Nat->Expr->Option IE
 |0,_=>none
 |n+1,e=>match e with
  |.Name x _=>Ci S x
  |.Constant c _ _=>Fj c
  |.BinOp a op b _=>if Ax op then do let x<-cE S n a;let y<-cE S n b;some (.bin op x y) else none
  |.Compare a ops bs _=>uS S (cE S n) a ops bs
  |.BoolOp op es p=>CZ (cE S n) op es p
  |.UnaryOp op a _=>P0 (cE S n) op a
  |.IfExp c a b _=>do let k<-cC S n c;let x<-cE S n a;let y<-cE S n b;some (.ifE k x y)
  |.Tuple es _ _=>do let xs<-kn S n es;some (.tup xs)
  |.List es _=>do let xs<-kn S n es;some (.lst xs)
  |.Dict ks vs _=>PJ (cE S n) ks vs
  |.Subscript a b _=>F3 (cE S n) (cO S n) a b
  |.Call f as ks p=>if ks.isEmpty then si S (cE S n) (kn S n) f as p else Iq S (cE S n) f as ks
  |.Attribute o f _=>Hn (cE S n) o f
  |.ListComp elt gs sc _=>(match mL gs with
   |some (x,_,iter,ifs)=>if dk S sc [x] then do
     let it<-cT S n iter
     let c<-Fw (S.comp sc [x]) n ifs
     let e<-cE (S.comp sc [x]) n elt
     some (.comp ((slot S.N x).getD S.N.length) it c e) else none
   |none=>uR S (cE S n) (fun S'=>cE S' n elt) gs sc)
  |_=>none
noncomputable def kn(S:Sc):Nat->List Expr->Option cG
 |0,_=>none
 |_+1,[]=>some .nil
 |n+1,e::es=>if aV e then do let x<-cE S n e;let xs<-kn S n es;some (.cons x xs) else none
noncomputable def cO(S:Sc):Nat->Option Expr->Option ml
 |0,_=>none
 |_+1,none=>some .none
 |n+1,some e=>do let x<-cE S n e;some (.some x)
noncomputable def cT(S:Sc):Nat->Expr->Option IT
 |0,_=>none
 |n+1,e=>match gU e with
  |some (f,_,as,_)=>if f==("range":Str) then Bn S (cE S n) f as else (cE S n e).map .seq
  |none=>if Ex e then (cE S n e).map .seq else none
noncomputable def cC(S:Sc):Nat->Expr->Option IC
 |0,_=>none
 |n+1,e=>match e with
  |.UnaryOp op a _=>if op==.Not then (cC S n a).map .not else none
  |.BoolOp op es _=>CT (cC S n) op es
  |.Compare a ops bs _=>(uS S (cE S n) a ops bs).map .cmp
  |.Name x p=>(cE S n (.Name x p)).map .tru
  |.Call f as ks p=>(cE S n (.Call f as ks p)).map .tru
  |.Subscript a b p=>(cE S n (.Subscript a b p)).map .tru
  |_=>none
noncomputable def Fw(S:Sc):Nat->List Expr->Option nt
 |0,_=>none
 |_+1,[]=>some .none
 |n+1,[c]=>do let k<-cC S n c;some (.some k)
 |_,_=>none
end
noncomputable def sf:Expr->Option (Expr×List Comprehension×Scope)
 |.ListComp elt gs sc _=>some (elt,gs,sc)
 |_=>none
noncomputable def u4(S:Sc)(n:Nat)(x:Str)(v:Expr):Option IS:=match sf v with
 |some (elt,gs,sc)=>(match mL gs with
  |some (y,_,iter,ifs)=>if S.loc x&&dk S sc [y] then do
   let i<-slot S.N x
   let it<-cT S n iter
   let c<-Fw (S.comp sc [y]) n ifs
   let e<-cE (S.comp sc [y]) n elt
   some (.set i (.comp ((slot S.N y).getD S.N.length) it c e)) else none
  |none=>none)
 |none=>if S.loc x&&ip v then do let i<-slot S.N x;let y<-cE S n v;some (.set i y) else none
noncomputable def HB(S:Sc)(n:Nat)(t:Expr)(v:Expr):Option IS:=match t with
 |.Name x _=>u4 S n x v
 |.Subscript o i _=>if Iv i then do let y<-cE S n v;let a<-cE S n o;let b<-cE S n i;some (.setIx a b y) else none
 |.Attribute o f _=>(match et o with
  |some _=>if kW.contains f&&ip v then do let y<-cE S n v;let a<-cE S n o;some (.setF a f y) else none
  |none=>none)
 |_=>none
noncomputable def HC(S:Sc)(n:Nat)(ts:List Expr)(v:Expr):Option IS:=match ts with
 |[]=>none
 |t::r=>(match r with
  |[]=>HB S n t v
  |_::_=>none)
noncomputable def Ju(S:Sc)(r:Expr->Option IE)(f:Str)(as:List Expr):Option IP:=match as with
 |[]=>none
 |a::l=>(match l with
  |[]=>if bR f&&S.bA f&&S.bu.contains f&&aV a then (r a).map .enum else none
  |_::_=>none)
noncomputable def cP(S:Sc)(n:Nat)(e:Expr):Option IP:=match gU e with
 |some (f,_,as,_)=>if f==("enumerate":Str) then Ju S (cE S n) f as else (cE S n e).map .seq
 |none=>if Ex e then (cE S n e).map .seq else none
noncomputable def rY(S:Sc)(n:Nat)(a b iter:Expr)(r:Option aI):Option IS:=match et a with
 |none=>none
 |some (x,_)=>(match et b with
  |none=>none
  |some (y,_)=>if S.loc x&&S.loc y then do
   let i<-slot S.N x;let j<-slot S.N y;let it<-cP S n iter;let z<-r;some (.forP i j it z) else none)
noncomputable def ow(S:Sc):List Expr->Option (List Nat)
 |[]=>some []
 |e::r=>(match et e with
  |some (x,_)=>if S.loc x then do let i<-slot S.N x;let is<-ow S r;some (i::is) else none
  |none=>none)
noncomputable def A8(S:Sc)(n:Nat)(ts:List Expr)(iter:Expr)(r:Option aI):Option IS :=
 if Ex iter&&!IB iter then do let is<-ow S ts;let e<-cE S n iter;let z<-r;some (.forN is e z) else none
noncomputable def Ij(S:Sc)(n:Nat)(ts:List Expr)(iter:Expr)(r:Option aI):Option IS:=match ts with
 |[]=>none
 |a::l=>(match l with
  |[]=>none
  |b::l2=>(match l2 with
   |[]=>rY S n a b iter r
   |c::l3=>A8 S n (a::b::c::l3) iter r))
noncomputable def Hl(S:Sc)(n:Nat)(t iter:Expr)(r:Option aI):Option IS:=match t with
 |.Name x _=>if S.loc x then do let i<-slot S.N x;let it<-cT S n iter;let y<-r;some (.forS i it y) else none
 |.Tuple ts _ _=>Ij S n ts iter r
 |_=>none
noncomputable def Cc(o:List Stmt)(r:Option IS):Option IS:=match o with
 |[]=>r
 |_::_=>none
noncomputable def RB:Expr->Bool
 |.Constant c _ _=>(match c with
  |.str _=>true
  |_=>false)
 |_=>false
noncomputable def MS(as:List Expr):Bool:=match as with
 |[a]=>RB a
 |_=>false
noncomputable def Qh(S:Sc)(e:Expr):Bool:=match gU e with
 |some (f,_,as,_)=>f==("Unknown":Str)&&S.bA f&&MS as
 |none=>false
noncomputable def DJ(S:Sc)(a b:Option Expr):IS:=match a with
 |some e=>(match b with
  |none=>if Qh S e then .rz else .halt
  |some _=>.halt)
 |none=>.halt
mutual
noncomputable def cS(S:Sc):Nat->Stmt->Option IS
 |0,_=>none
 |n+1,s=>match s with
  |.Assign ts v _=>HC S n ts v
  |.Expr e _=>if ip e then do let y<-cE S n e;some (.expr y) else none
  |.Return o _=>(match o with
   |some e=>do let y<-cE S n e;some (.ret y)
   |none=>some .retN)
  |.Raise a b _=>some (DJ S a b)
  |.Pass _=>some .pass
  |.Break _=>some .brk
  |.Continue _=>some .cnt
  |.If c a b _=>do let k<-cC S n c;let x<-dM S n a;let y<-dM S n b;some (.ifS k x y)
  |.For t iter b o _=>Cc o (Hl S n t iter (dM S n b))
  |.While c b o _=>Cc o (do let k<-cC S n c;let y<-dM S n b;some (.whileS k y))
  |_=>none
noncomputable def dM(S:Sc):Nat->List Stmt->Option aI
 |0,_=>none
 |_+1,[]=>some .nil
 |n+1,s::r=>do let y<-dM S n r;some (.cons ((cS S n s).getD .halt) y)
end
end L3
namespace L2
open PySem PySem.Spec PyProof.Rows
theorem kZ{prog:Program}{w:World}{A:Around}{R:Result->Shared->Prop}{s:Shared}{elt target iter:Expr}{ifs:List Expr}{scope:Scope}{pos:Pos}{it acc:Value}{env:Env}(I:Nat->Shared->Prop)
  (turn:∀n s,I n s->wpAny (model prog w) A (pyNext it) (fun r s₁=>match r with
   |none=>R (.ok .next) s₁
   |some v=>wpAny (model prog w) A (letOwnedTupleGo target it v) (fun _ s₁'=>wpAny (model prog w) A (assign target env v) (fun _ s₂ =>
     wpAny (model prog w) A (forIn ifs true fun c r=>if r=true then do let ok<-isTrue c env (eval c env);pure (ForInStep.yield ok) else pure (ForInStep.yield r)) (fun ok s₃ =>
      if ok=true then wpAny (model prog w) A (eval elt env) (fun x s₄ =>
       wpAny (model prog w) A (call (.builtin "list.append") [acc,x]) (fun _ s₅=>∃m,m<n/\I m s₅) (fun _ _=>False) s₄) (fun _ _=>False) s₃
      else ∃m,m<n/\I m s₃) (fun _ _=>False) s₂) (fun _ _=>False) s₁') (fun _ _=>False) s₁) (fun _ _=>False) s)
  (n:Nat) (h:I n s) :
  codeAny (model prog w) A (.compLoop (.ListComp elt [⟨target,iter,ifs,0⟩] scope pos) 0 it acc env) R s:=by
 refine codeAny_loop rfl I (fun n s hI=>?_) n h;show wpAny _ A ((compTurn (.ListComp elt [⟨target,iter,ifs,0⟩] scope pos) 0 it acc env).onRaise (fun x=>do noteFrame x env;theTreesLotGoes x)) _ _ s;refine wpAny_noted ?_;rw[compTurn_list];refine zz (wpAny_standAt (zz (wpAny_mono (turn n s hI) (fun r s₁ h₁=>?_) fun _ _ h'=>h'.elim)));cases r with
 |none=>exact zt h₁
 |some v =>
  refine zz (wpAny_mono h₁ (fun _ s₁' h₁'=>?_) fun _ _ h'=>h'.elim);refine zz (wpAny_mono h₁' (fun _ s₂ h₂=>zz (wpAny_mono h₂ (fun ok s₃ h₃=>?_) fun _ _ h'=>h'.elim)) fun _ _ h'=>h'.elim);cases ok with
  |false=>exact zt ⟨rfl,h₃⟩
  |true =>
   exact zz (zz (wpAny_mono h₃ (fun x s₄ h₄=>zz (wpAny_mono h₄ (fun _ s₅ h₅=>zt (zt ⟨rfl,h₅⟩)) fun _ _ h'=>h'.elim)) fun _ _ h'=>h'.elim))
theorem kf{env:Env}{y:Str}:∀{names:List (Str×NameKind)},
  (names.map fun (n,k)=>if (k==NameKind.free&&env.scope.kind==.function&&env.kindOf n==some .cell) then (n,NameKind.cell) else (n,k)).lookup y =
   (names.lookup y).map fun k=>if (k==NameKind.free&&env.scope.kind==.function&&env.kindOf y==some .cell) then NameKind.cell else k
 |[]=>rfl
 | (n,k)::r=>by
  have ih:=@kf env y r;rw[zK];by_cases hx:y=n
  ·subst hx
   dsimp only;split <;> simp_all [yq]
  ·have hb:(y==n)=false:=beq_eq_false_iff_ne.mpr hx
   dsimp only;split <;> simp only[yq,hb] <;> exact ih
noncomputable def bo(X:Cx)(scope:Scope)(cl:List (Str×Addr))(C:Addr)(N':List Str)(s:Shared)(H:Hp)(fp:List Addr):Cx where
 prog:=X.prog
 w:=X.w
 K:=X.K
 mg:=X.mg
 base:=X.base
 A:=X.A
 N:=N'
 s₀:=s
 H₀:=H
 env:=compEnvC scope cl C X.env
 outer:=X.stack
 stack:=X.stack
 ex:=fp
 fn:=fun _=>false
 calm:=X.calm
 pn:=[]
 xe:=fun _ _=>False
structure ef (X:Cx) (scope:Scope) (cl:List (Str×Addr)) (xs:List Str) (N':List Str):Prop where
 kind:scope.kind=.function
 t7:∀y∈scope.names,y.2≠.cell
 loc:∀x∈xs,scope.names.lookup x=some .local
 names:∀y∈scope.names,y.2=.local->scope.names.lookup y.1=some .local
 only:∀y,scope.names.lookup y=some .local->y∈xs\/y=(".0":Str)
 Hv:closureFor scope X.env=pure cl
 cls:∀y c,cl.lookup y=some c->X.env.cells.lookup y=some c
 has:∀y,scope.names.lookup y=some .free->∃c,cl.lookup y=some c
 out:∀y,scope.names.lookup y=some .free->X.env.kindOf y=some .cell\/X.env.kindOf y=some .free
 nd:N'.Nodup
 n0:∀(i:Nat) (y:Str),xs[i]?=some y->N'[i]?=some y
 ns:∀(i:Nat) (y:Str),N'[i+xs.length]?=some y->y ∉ xs/\y≠(".0":Str)/\(X.N[i]?=some y\/¬ u6 scope y)
 len:N'.length=X.N.length+xs.length
theorem fW{scope:Scope}{env:Env}{y:Str}:(relabel scope env).names.lookup y=(scope.names.lookup y).map fun k=>if (k==NameKind.free&&env.scope.kind==.function&&env.kindOf y==some .cell) then NameKind.cell else k:=kf
theorem lookup_mem{y:Str}{k:NameKind}:∀{names:List (Str×NameKind)},names.lookup y=some k->(y,k)∈names:=fun h=>PySem.mem_of_lookup h
section
variable {X:Cx}{scope:Scope}{cl:List (Str×Addr)}{xs:List Str}{N':List Str}{pins:List (Addr×Obj)}{σ:St}{H:Hp}{s:Shared}{fp:List Addr}
theorem ef.cellAt(S:ef X scope cl xs N'){C:Addr}{y:Str}(h:(compEnvC scope cl C X.env).kindOf y=some .cell\/(compEnvC scope cl C X.env).kindOf y=some .free):scope.names.lookup y=some .free:=by
 have e:(compEnvC scope cl C X.env).kindOf y=(scope.names.lookup y).map fun k=>if (k==NameKind.free&&X.env.scope.kind==.function&&X.env.kindOf y==some .cell) then NameKind.cell else k:=fW;rw[e]at h;cases q:scope.names.lookup y with
 |none=>rw[q]at h;simp at h
 |some k =>
  rw[q]at h;cases k with
  |free=>rfl
  |cell=>exact absurd rfl (S.t7 _ (lookup_mem q))
  |_=>simp at h
theorem K2(I:Inv X pins σ H s)(S:ef X scope cl xs N')(hf:∀b∈fp,fG X pins H b){C:Addr}(hC:s.heap.objs.size<=C)(hfs:∀b∈fp,b<s.heap.objs.size) :
  (bo X scope cl C N' s H fp).Ok where
 mod:=I.ok.mod
 kind:=S.kind
 glob:=I.ok.glob
 blt:=I.ok.blt
 above:=hC
 inj:=fun y z c h1 h2=>I.ok.inj y z c (S.cls _ _ h1) (S.cls _ _ h2)
 has:=fun y h=>S.has y (S.cellAt h)
 u0:=fun y c h=>by cases h
 hd:=I.ok.hd
 frames:=I.ok.frames
 vY:=.inl rfl
 Jr:=fun b hb=>⟨zC (zj (hfs b hb) hC),fun y c e=>(hf b hb).2.2.2.2.1 y c (S.cls _ _ e)⟩
 bs:=I.bs
 lF:=zN I.ok.lF I.sz
 nJ:=fun b o e hb=>by
  rcases (hf b hb).2.2.2.1 with z|z
  ·exact I.ok.nJ b o e z
  ·exact absurd (zj (zn e) (zN I.ok.lF z)) (yu _)
 qp:=fun b hb z=>by
  rcases zi.mp (I.fO b z) with e|e
  ·exact(hf b hb).2.1 e
  ·exact(hf b hb).2.2.1 e
 eU:=I.stack
 nh:=I.pW
theorem CU(I:Inv X pins σ H s)(S:ef X scope cl xs N')(hf:∀b∈fp,fG X pins H b){C:Addr}{h₁:Heap}{tk:Nat}{m:Str->Option Value}(hC:s.heap.objs.size<=C)(hfs:∀b∈fp,b<s.heap.objs.size)
  (old:∀b o,s.heap.get? b=some o->h₁.get? b=some o) (Ja:h₁.Ns C m):Inv (bo X scope cl C N' s H fp) (X.pn++pins) (zM xs.length none++σ) H { s with heap:=h₁,toks:=tk }:=by
 refine⟨K2 I S hf hC hfs,rfl,I.bare,Un.kept old,⟨m,Ja,fun i y v e1 e2 e3=>?_⟩,fun y c e=>?_,I.ax.fresh hC,fun y c e=>I.dj y c (S.cls _ _ e),fun p hp=>?_,I.ax.kept old,?_⟩
 ·by_cases hi:i<xs.length
  ·rw[zG (by rw[yt];exact hi),yZ,if_pos hi]at e2
   cases e2
  ·obtain⟨j,rfl⟩:∃j,i=j+xs.length:=⟨i-xs.length,by omega⟩
   obtain⟨n1,n2,n3⟩:=S.ns j y e1;have e2':σ[j]?=some (some v):=by
    rw[zc (by rw[yt];omega),yt,wo]at e2;exact e2
   have e:(relabel scope X.env).names.lookup y=(scope.names.lookup y).map fun k=>if (k==NameKind.free&&X.env.scope.kind==.function&&X.env.kindOf y==some .cell) then NameKind.cell else k:=fW;have e3':(relabel scope X.env).names.lookup y=some .local\/(relabel scope X.env).names.lookup y=some .cell\/(relabel scope X.env).names.lookup y=some .free:=e3;have q:scope.names.lookup y=some .free:=by
    cases q:scope.names.lookup y with
    |none=>rw[e,q]at e3';simp at e3'
    |some k =>
     rw[e,q]at e3';cases k with
     |free=>rfl
     |cell=>exact absurd rfl (S.t7 _ (lookup_mem q))
     |«local» =>
      rcases S.only y q with z|z
      ·exact absurd z n1
      ·exact absurd z n2
     |_=>simp at e3'
   have hN:X.N[j]?=some y:=by
    rcases n3 with z|z
    ·exact z
    ·exact absurd (Or.inr (Or.inr q)) z
   obtain⟨m',hn',hl'⟩:=I.loc;have vx:u6 X.env.scope y:=by
    rcases S.out y q with z|z
    ·exact .inr (.inl z)
    ·exact .inr (.inr z)
   obtain⟨u,ru,lk⟩:=hl' j y v hN e2' vx;refine⟨u,ru,?_⟩;rcases lk with ⟨k1,_⟩|⟨_,c,hc,o,ho,hd⟩
   ·rcases S.out y q with z|z
    ·rw[z]at k1;cases k1
    ·rw[z]at k1;cases k1
   ·obtain⟨c',hc'⟩:=S.has y q
    have:=S.cls y c' hc'
    rw[hc]at this;cases this;refine .inr ⟨?_,c,hc',o,old _ _ ho,hd⟩;rw[e,q]at e3';show (relabel scope X.env).names.lookup y=some .cell\/(relabel scope X.env).names.lookup y=some .free;rw[e,q];rcases e3' with z|z
    ·simp only[yV,Option.some.injEq]at z
     split at z <;> cases z
    ·exact z
 ·obtain⟨v,o,ho,hd⟩:=I.cell y c (S.cls _ _ e)
  exact⟨v,o,old _ _ ho,hd⟩
 ·have hp':p∈X.pn++pins:=hp
  obtain⟨e,n,ne,nf,d⟩:=I.pin p hp';refine⟨old _ _ e,n,zC (zj (zn e) hC),fun z=>?_,d⟩;rcases zi.mp (I.fO _ z) with q|q
  ·exact ne q
  ·exact nf q
 ·show (zM xs.length none++σ).length=N'.length
  rw[S.len,ze,yt,I.len,wY]
end
theorem Un.adopt{fs ex:List Addr}{H H':Hp}{h h':Heap}{D:Addr}{o:HO}(u:Un fs ex H H' h h')(hD:h.get? D=none)(hn:H' D=none):Un fs ex H (upd H' D o) h h' where
 keep:=u.keep
 slot:=u.slot
 free:=fun b ob q n hx=>by
  have:b≠D:=fun z=>by rw[z,hD]at q;cases q
  rw[aA this];exact u.free b ob q n hx
 there:=u.there
 iA:=fun b xs q=>by
  have q':=u.iA b xs q;rw[aA (aO q' hn)];exact q'
 gX:=fun b ob v q=>by
  have q':=u.gX b ob v q;rw[aA (aO q' hn)];exact q'
 iB:=fun b ps q=>by
  obtain⟨more,q'⟩:=u.iB b ps q;exact⟨more,by rw[aA (aO q' hn)];exact q'⟩
theorem cj.adopt{P:Program}{w:World}{H:Hp}{h:Heap}{D:Addr}{o:HO}(x:cj P w H h)(hn:H D=none)(new:bK P w (upd H D o) h D o):cj P w (upd H D o) h:=fun b u e=>by
 by_cases hb:b=D
 ·subst hb;rw[aT]at e;cases e;exact new
 ·rw[aA hb]at e
  exact(x b u e).jR (fun _ _ _ q=>q) (fun c q=>by rw[aA (aO q hn)];exact q) fun c xs q=>by rw[aA (aO q hn)];exact q
noncomputable def jO(X:Cx)(ifs:List Expr)(tc:TT):Prop :=
 ∀(pins:List (Addr×Obj)) (s:Shared) (σ:St) (H:Hp) (Q:Bool->Hp->Prop),Inv X pins σ H s->tc σ H Q ->
  wpAny (model X.prog X.w) X.A (forIn ifs true fun c r=>if r=true then do let ok<-isTrue c X.env (eval c X.env);pure (ForInStep.yield ok) else pure (ForInStep.yield r)) (TP X pins σ Q) X.xe s
noncomputable def FW:TT:=fun _ H Q=>Q true H
theorem Ad{X:Cx}:jO X [] FW:=fun _ _ _ H _ I h=>wpAny_tests_nil ⟨H,I,h⟩
theorem Ac{X:Cx}{c:Expr}{tc:TT}(hc:PT X c tc):jO X [c] tc:=fun pins s σ H Q I h=>wpAny_tests_one (hc pins s σ H Q I h)
noncomputable abbrev lobj(its:List Value) (n:Nat):Obj:={ cls:=.type "list",data:=.seq its.toArray n }
noncomputable def pR(J:It)(g:TG)(kk:Nat)(tc:TT)(te:TE)(σ:St)(Fin:List V->Hp->Prop)(W:Nat->Nat->List V->Hp->Prop):Prop:=∀i m ys H,W i m ys H ->
 (J.stop i H/\ys.length<=zq/\Fin ys H) \/
 (J.go i H/\ys.length<zq/\∀v H' (os:St),os.length=kk->J.jf i H v H'->g v (os++σ) H' fun σ1 H1=>∃Qj:St,Qj.length=kk/\σ1=Qj++σ/\tc σ1 H1 fun b H2=>if b=true then te σ1 H2 fun y H3=>∃m',m'<m/\W (i+1) m' (ys++[y]) H3 else ∃m',m'<m/\W (i+1) m' ys H2)
structure Dc (ok:Cx->Prop) (P:Program) (w:World) (K:Q_) (tg:Expr) (J:It) (fp:List Addr) (it:Addr) (tn:Nat->Heap->Prop):Prop where
 obj:∀i h,tn i h->∀b∈fp,∃o,h.get? b=some o/\∀v,o.data≠.cell v
 keep:∀i h h',tn i h->(∀b∈fp,∀o,h.get? b=some o->h'.get? b=some o)->tn i h'
 item:∀(X:Cx),X.prog=P->X.w=w->X.K=K->ok X->∀(i:Nat) (pins:List (Addr×Obj)) (s:Shared) (σ:St) (H:Hp) (E:Value->Shared->Prop),Inv X pins σ H s->(∀b∈fp,fG X pins H b)->tn i s.heap->J.go i H ->
  wpAny (model P w) X.A (pyNext (.ref it)) (fun r s1=>∃u,r=some u /\
   wpAny (model P w) X.A (letOwnedTupleGo tg (.ref it) u) (fun _ s2=>∃x H',Inv X pins σ H' s2/\RelV x u/\J.jf i H x H'/\tn (i+1) s2.heap/\∀b∈fp,H' b=none) E s1) E s
 done:∀(X:Cx),X.prog=P->X.w=w->X.K=K->ok X->∀(i:Nat) (pins:List (Addr×Obj)) (s:Shared) (σ:St) (H:Hp) (E:Value->Shared->Prop),Inv X pins σ H s->(∀b∈fp,fG X pins H b)->tn i s.heap->J.stop i H ->
  wpAny (model P w) X.A (pyNext (.ref it)) (fun r s1=>r=none/\Inv X pins σ H s1) E s
 self:∀(A:Around) (i:Nat) (s:Shared) (Q:Value->Shared->Prop) (E:Value->Shared->Prop),tn i s.heap->Q (.ref it) s->wpAny (model P w) A (pyIter (.ref it)) Q E s
theorem Turn.toC{P:Program}{w:World}{K:Q_}{tg:Expr}{J:It}{fp:List Addr}{it:Addr}{tn:Nat->Heap->Prop}(T:Turn P w K tg J fp it tn):Dc (fun X=>X.calm=true) P w K tg J fp it tn:=⟨T.obj,T.keep,T.item,T.done,T.self⟩
section
variable {X:Cx}{scope:Scope}{cl:List (Str×Addr)}{xs:List Str}{tg:Expr}{g:TG}{N':List Str}{pins:List (Addr×Obj)}{σ:St}{H:Hp}{s:Shared}{fp:List Addr}{it:Addr}{J:It}{tn:Nat->Heap->Prop}
 {elt iter:Expr} {ifs:List Expr} {pos:Pos} {tc:TT} {te:TE}
theorem kY
  {ok:Cx->Prop} (hc:∀C,ok (bo X scope cl C N' s H fp))
  (S:ef X scope cl xs N') (hg:∀C s H fp,PG (bo X scope cl C N' s H fp) tg g) (htc:∀C s H fp,jO (bo X scope cl C N' s H fp) ifs tc) (hte:∀C s H fp,PE (bo X scope cl C N' s H fp) elt te)
  (I:Inv X pins σ H s)
  (T:Dc ok X.prog X.w X.K tg J fp it tn)
  (st:tn 0 s.heap) (hf:∀b∈fp,fG X pins H b)
  {Fin:List V->Hp->Prop} {W:Nat->Nat->List V->Hp->Prop} (hW:pR J g xs.length tc te σ Fin W) {m0:Nat} (w0:W 0 m0 [] H) {E:Value->Shared->Prop} {RR:Value->Addr->Result->Shared->Prop}
  (fin:∀(D C:Addr) (s':Shared) (ys:List V) (H':Hp),Inv X pins σ (upd H' D (.lst ys)) s'->H' D=none->upd H' D (.lst ys) C=none->C≠X.env.locals->X.s₀.heap.objs.size<=C->(∀y c,X.env.cells.lookup y=some c->c≠C)->(∀p∈X.pn++pins,p.1≠C) ->
   (∃m,s'.heap.Ns C m)->Fin ys H'->RR (.ref D) C (.ok .next) s') :
  wpAny (model X.prog X.w) X.A (newList []) (fun acc s₃=>wpAny (model X.prog X.w) X.A (newFunctionEnv scope X.env.globals cl [] X.env.qual none .none (some X.env)) (fun Ol s₄ =>
   codeAny (model X.prog X.w) X.A (.compStart (.ListComp elt [⟨tg,iter,ifs,0⟩] scope pos) 0 (.ref it) acc { Ol with scope:=relabel scope X.env }) (RR acc Ol.locals) s₄) E s₃) E s:=by
 have hfs:∀b∈fp,b<s.heap.objs.size:=fun b hb=>by
  obtain⟨o,e,_⟩:=T.obj _ _ st b hb;exact zn e
 refine wpAny_newObj_type (wpAny_newFunctionEnv S.t7 (by intro y hy;simp at hy) (fun h₁ uB oQ=>?_) S.kind);dsimp only at uB oQ ⊢;generalize hH2:s.heap.push { cls:=.type "list",dict:=none,data:=.seq ([]:List Value).toArray }=H2 at uB oQ ⊢;generalize hDe:s.heap.objs.size=D at *;generalize Wl:H2.objs.size=C at *;have hC:C=D+1:=by rw[<- Wl,<- hH2,zV,hDe]
 have Jn:D≠C:=by rw[hC];exact zC (xt _)
 have nR:D<=C:=by rw[hC];exact yH _
 have old:∀b o,s.heap.get? b=some o->h₁.get? b=some o:=fun b o e=>by
  have hb:b<D:=hDe▸zn e;exact oQ.extBut b o (zC (zj hb nR)) (zy _ (hH2▸zy _ e))
 have i6:h₁.get? D=some (lobj [] 0):=oQ.extBut _ _ Jn (zy _ (hH2▸hDe▸zk _ rfl));have VG:s.heap.get? D=none:=yh (yE hDe);have ptD:∀p∈X.pn++pins,p.1<D:=fun p hp=>hDe▸zn (I.pin p hp).1;have clD:∀y c,X.env.cells.lookup y=some c->c<D:=fun y c e=>by
  obtain⟨v,o,ho,_⟩:=I.cell y c e;exact hDe▸zn ho
 have fsD:∀b∈dZ X.stack,b<D:=fun b hb=>by
  obtain⟨_,o,ho,_⟩:=I.stack.mem hb;exact hDe▸zn ho
 have loop:∀s₃:Shared,s₃={ s with heap:=h₁,toks:=s.toks+([]:List (Str×Value)).length } ->
   codeAny (model X.prog X.w) X.A (.compLoop (.ListComp elt [⟨tg,iter,ifs,0⟩] scope pos) 0 (.ref it) (.ref D) (compEnvC scope cl C X.env)) (RR (.ref D) C) s₃:=by
  rintro s₃ rfl;have I₁:Inv (bo X scope cl C N' s H fp) (X.pn++pins) (zM xs.length none++σ) H { s with heap:=h₁,toks:=s.toks+([]:List (Str×Value)).length } :=
   CU I S hf (by rw[hDe];exact nR) (fun b hb=>by rw[hDe];exact hfs b hb) old uB
  have Mx:∀{its:List Value} {n:Nat} {σ':St} {H':Hp} {s':Shared},Inv (bo X scope cl C N' s H fp) (X.pn++pins) σ' H' s'->s'.heap.get? D=some (lobj its n)->H' D=none ->
    Inv (bo X scope cl C N' s H fp) ((X.pn++pins)++[(D,lobj its n)]) σ' H' s':=fun {its n σ' H' s'} J' e n=>J'.p7 fun p hp=>by
   rcases yx.mp hp with hp|hp
   ·exact J'.pin p (zE _ hp)
   ·rw[zS.mp hp]
    exact⟨e,n,Jn,fun z=>yu _ (fsD D z),fun v z=>by cases z⟩
  refine kZ (fun k s'=>∃(i:Nat) (ys:List V) (its:List Value) (n:Nat) (os:St) (H':Hp),os.length=xs.length/\Inv (bo X scope cl C N' s H fp) ((X.pn++pins)++[(D,lobj its n)]) (os++σ) H' s'/\Vals ys its/\tn i s'.heap/\(∀b∈fp,H' b=none)/\W i k ys H') ?_ m0
   ⟨0,[],[],0,zM xs.length none,H,yt ..,Mx I₁ i6 (I.ax.fresh (yE hDe)),.nil,T.keep _ _ _ st fun b _ o e=>old b o e,fun b hb=>(hf b hb).1,w0⟩
  rintro k s4 ⟨i,ys,its,n,os,H4,VN,I4,rv,Qf,QY,w4⟩;have pD:∀{its:List Value} {n:Nat} {pl:List (Addr×Obj)} {σ':St} {H':Hp} {s':Shared},Inv (bo X scope cl C N' s H fp) (((X.pn++pins)++[(D,lobj its n)])++pl) σ' H' s'->s'.heap.get? D=some (lobj its n)/\H' D=none:=fun J' =>
   let q:=J'.pin (D,lobj _ _) (zE _ (zQ _ (zE _ zR)))
   ⟨q.1,q.2.1⟩
  have stat:∀{its:List Value} {n:Nat} {H':Hp},(∀b∈fp,H' b=none)->∀b∈fp,fG (bo X scope cl C N' s H fp) ((X.pn++pins)++[(D,lobj its n)]) H' b:=fun {its n H'} hn b hb=>by
   obtain⟨f0,f1,f2,f3,f4,f5⟩:=hf b hb;refine⟨hn b hb,zC (zj (hfs b hb) nR),fun z=>?_,.inl hb,fun y c e=>f4 y c (S.cls _ _ e),fun p hp=>?_⟩
   ·rcases zi.mp (I.fO b z) with q|q
    ·exact f1 q
    ·exact f2 q
   ·have hp:p∈(X.pn++pins)++[(D,lobj its n)]:=hp
    rcases yx.mp hp with hp|hp
    ·exact f5 p hp
    ·rw[zS.mp hp]
     exact Ne.symm (zC (hfs b hb))
  rcases hW i k ys H4 w4 with ⟨stop,hz,q⟩|⟨go,hz,step⟩
  ·refine aH (T.done (bo X scope cl C N' s H fp) rfl rfl rfl
    (hc C)
    i _ s4 _ H4 _ I4 (stat QY) Qf stop) fun r s5 ⟨hr,I5⟩=>?_
   subst hr;obtain⟨gD,nD⟩:=pD (pl:=[]) (by rw[zJ];exact I5);have un:Un (dZ X.stack) fp H (upd H4 D (.lst ys)) s.heap s5.heap:=Un.adopt I5.base VG nD;have ax:cj X.prog X.w (upd H4 D (.lst ys)) s5.heap:=cj.adopt I5.ax nD ⟨hz,its,n,rv,gD⟩;have I6:Inv X pins σ (upd H4 D (.lst ys)) s5:=I.call' (ch:=fp) I5.os un ax I5.bare fun b hb=>by
    obtain⟨f0,f1,f2,f3,f4,f5⟩:=hf b hb;exact⟨f3,f1,f4,f5⟩
   have cn:H4 C=none:=I5.free;have lo:X.s₀.heap.objs.size<=C:=zN I.sz (by rw[hDe];exact nR);exact fin D C s5 ys H4 I6 nD (by rw[aA (Ne.symm Jn)];exact cn) (zI (zj (hDe▸I.lt) nR)) lo (fun y c e=>zC (zj (clD y c e) nR)) (fun p hp=>zC (zj (ptD p hp) nR))
    (let ⟨m,hm,_⟩:=I5.loc;⟨m,hm⟩) q
  ·refine aH (T.item (bo X scope cl C N' s H fp) rfl rfl rfl
    (hc C)
    i _ s4 _ H4 _ I4 (stat QY) Qf go) fun r s5 ⟨u,hr,h5⟩=>?_
   subst hr;refine aH h5 fun _ s6 ⟨v,H6,I6,r6,y6,LB,Wq⟩=>?_;have I6':=I6.pinned (stat Wq) (T.obj _ _ LB);refine aH (hg C s H fp _ s6 _ H6 v u _ I6' r6 (step v H6 os VN y6)) fun _ s7 ⟨σ7,H7,I7,os7,Ay,e7,q7⟩=>?_;subst e7;have Q0:∀{σ':St} {H':Hp} {s':Shared},Inv (bo X scope cl C N' s H fp) (((X.pn++pins)++[(D,lobj its n)])++lS fp s6.heap) σ' H' s'->tn (i+1) s'.heap/\∀b∈fp,H' b=none:=fun {σ' H' s'} J' =>
    ⟨T.keep _ _ _ LB fun b hb ob e=>(J'.pin (b,ob) (zE _ (zE _ (iH hb e)))).1,fun b hb=>by
     obtain⟨ob,e,d⟩:=T.obj _ _ LB b hb;exact(J'.pin (b,ob) (zE _ (zE _ (iH hb e)))).2.1⟩
   refine aH (htc C s H fp _ s7 _ H7 _ I7 q7) fun b s8 ⟨H8,I8,q8⟩=>?_;cases b with
   |false =>
    rw[if_neg zu]at q8 ⊢;obtain⟨m',hm,w8⟩:=q8;obtain⟨t8,f8⟩:=Q0 I8;exact⟨m',hm,i+1,ys,its,n,os7,H8,Ay,I8.gR,rv,t8,f8,w8⟩
   |true =>
    rw[if_pos rfl]at q8 ⊢;refine aH (hte C s H fp _ s8 _ H8 _ I8 q8) fun u9 s9 ⟨y,H9,I9,r9,m',hm,w9⟩=>?_;obtain⟨gD,nD⟩:=pD I9;obtain⟨t9,f9⟩:=Q0 I9;refine append_at (its:=its.toArray) (n:=n) gD (fun h' sb hD'=>?_) (by have:=rv.length;simp;omega);have Oz:Inv (bo X scope cl C N' s H fp) (X.pn++pins) (os7++σ) H9 s9:=I9.gR.gR;have WW:Inv (bo X scope cl C N' s H fp) (X.pn++pins) (os7++σ) H9 { s9 with heap:=h' }:=Oz.turned (t':=s9.toks) (it:=D) (fun b ob hb e=>sb.extBut b ob hb e) nD Jn (.inr (yE hDe))
     (fun z c e=>zC (clD z c (S.cls _ _ e))) fun p hp=>zC (ptD p hp)
    refine⟨m',hm,i+1,ys++[y],its++[u9],n+1,os7,H9,Ay,Mx WW (by rw[hD'];simp) nD,rv.append (.cons r9 .nil),T.keep _ _ _ t9 fun b hb ob e=>sb.extBut b ob (zC (hfs b hb)) e,f9,w9⟩
 exact codeAny_compStart_list (loop _ rfl) (T.self X.A 0 _ _ _ (T.keep _ _ _ st fun b _ o e=>old b o e) (loop _ rfl))
end
noncomputable def rX(wi:TI)(g:TG)(kk:Nat)(tc:TT)(te:TE):TE:=fun σ H Q=>wi σ H fun J H1=>∃W:Nat->Nat->List V->Hp->Prop,(∃m,W 0 m [] H1) /\
 pR J g kk tc te σ (fun ys H'=>∀p,H' p=none->Q (.ref p) (upd H' p (.lst ys))) W
section
variable {X:Cx}{scope:Scope}{cl:List (Str×Addr)}{xs:List Str}{tg:Expr}{g:TG}{N':List Str}{elt iter:Expr}{ifs:List Expr}{pos:Pos}{tc:TT}{te:TE}{wi:TI}
theorem qc{pins:List (Addr×Obj)}{σ:St}{H:Hp}{s:Shared}{C:Addr}{h':Heap}(I:Inv X pins σ H s)(sb:Heap.SameBut C s.heap h')(h0:H C=none)(h1:C≠X.env.locals)(h2:X.s₀.heap.objs.size<=C)(h3:∀y c,X.env.cells.lookup y=some c->c≠C)(h4:∀p∈X.pn++pins,p.1≠C) :
  Inv X pins σ H { s with heap:=h' }:=I.turned (t':=s.toks) (it:=C) (fun b ob hb e=>sb.extBut b ob hb e) h0 h1 (.inr h2) h3 h4
theorem p9(hc:X.calm=true)(S:ef X scope cl xs N')(hg:∀C s H fp,PG (bo X scope cl C N' s H fp) tg g)(hi:PI X tg iter wi)(htc:∀C s H fp,jO (bo X scope cl C N' s H fp) ifs tc)(hte:∀C s H fp,PE (bo X scope cl C N' s H fp) elt te)
  (hs:∀x,foldedSetIterable iter X.env x=pure x):PE X (.ListComp elt [⟨tg,iter,ifs,0⟩] scope pos) (rX wi g xs.length tc te):=by
 intro pins s σ H Q I h;rw[eval_ListComp];refine wpAny_comprehension_free (use:=none) rfl hs S.Hv S.kind S.names (aH (hi pins s σ H _ I h) fun v s1 h1=>aH h1 fun Iy s2 h2=>?_);obtain⟨it,fp,tn,J,H2,e,I2,T,st2,f2,W,⟨m0,w0⟩,hW⟩:=h2;subst e;refine kY (RR:=fun acc C=>compPost (model X.prog X.w) X.A X.xe none (EP X pins σ Q) acc C)
  (fun _=>hc)
  S hg htc hte I2
  T.toC
  st2 f2 hW w0 ?_
 intro D C s' ys H' I' nD cn c1 c2 c3 c4 ns q;obtain⟨m,hm⟩:=ns;exact⟨m,hm,fun h' sb=>⟨.ref D,_,qc I' sb cn c1 c2 c3 c4,rfl,q D nD⟩⟩
theorem Ki{x:Str}{px:Pos}{i:Nat}{y:Str}{py Bd:Pos}(hc:X.calm=true)(S:ef X scope cl xs N')(hg:∀C s H fp,PG (bo X scope cl C N' s H fp) (.Name x px) g)(hi:PI X (.Name x px) iter wi)(htc:∀C s H fp,jO (bo X scope cl C N' s H fp) ifs tc)(hte:∀C s H fp,PE (bo X scope cl C N' s H fp) elt te)
  (hs:∀x,foldedSetIterable iter X.env x=pure x) (hN:X.N.Nodup) (hy:X.N[i]?=some y) (hx:Loc X.env.scope y) (hf:X.fn y=true\/X.env.scope.names.lookup y=some .local) :
  PS X (.Assign [.Name y py] (.ListComp elt [⟨.Name x px,iter,ifs,0⟩] scope pos) Bd) (sS (rX wi g xs.length tc te) (dC i)):=by
 have IW:∃b:Bool,swapsWith (.ListComp elt [⟨.Name x px,iter,ifs,0⟩] scope pos) (some (.Name y py)) Bd.line X.env=pure b:=⟨_,rfl⟩;obtain⟨b,IW⟩:=IW;cases b with
 |false=>exact ik hN hy hx (p9 hc S hg hi htc hte hs) IW hf
 |true =>
  intro pins s σ H D I h;rw[exec_Assign_Name_used _ _ _ _ IW];refine zz (wpAny_standAt (zz ?_));show wpAny _ X.A (do let _<-comprehension (.ListComp elt [⟨.Name x px,iter,ifs,0⟩] scope pos) scope X.env _ (newList []) false (eval iter X.env) (some (assign (.Name y py) X.env))) _ _ s;refine zz (aH (wpAny_comprehension_free (use:=some (assign (.Name y py) X.env)) (Q:=fun _ s'=>SP X pins D .next s') rfl hs S.Hv S.kind S.names
   (aH (hi pins s σ H _ I h) fun v s1 h1=>aH h1 fun Iy s2 h2=>?_)) fun _ s' hq=>zt (zt hq))
  obtain⟨it,fp,tn,J,H2,e,I2,T,st2,f2,W,⟨m0,w0⟩,hW⟩:=h2;subst e;refine kY (RR:=fun acc C=>compPost (model X.prog X.w) X.A X.xe (some (assign (.Name y py) X.env)) (fun _ s'=>SP X pins D .next s') acc C)
   (fun _=>hc)
   S hg htc hte I2
   T.toC
   st2 f2 hW w0 ?_
  intro Dl C s' ys H' I' nD cn c1 c2 c3 c4 ns q;obtain⟨m,hm⟩:=ns;show wpAny _ X.A (assign (.Name y py) X.env (.ref Dl)) _ _ _;refine wpAny_assign_Name (qG I' hN hy hx (v:=.ref Dl) rfl (fun s2 I2' ⟨a,sb,ha⟩=>?_) hf);have Wm:C≠a:=by
   rcases ha with z|z
   ·rw[z];exact c1
   ·exact fun e=>c3 _ _ z e.symm
  refine⟨m,hm.sameBut sb Wm,fun h' sb'=>?_⟩;exact⟨_,_,qc I2' sb' cn c1 c2 c3 c4,q Dl nD⟩
end
end L2
namespace L3
open PySem PySem.Spec PyProof.Rows L2
noncomputable abbrev St:=L2.St
noncomputable def vd(K:Q_)(H:Hp)(a:Addr)(xs:List V):Prop :=
 (∃o,H a=some (.frz o (.lst xs))) \/
  ∃(o:Obj) (its:Array Value) (n:Nat),K.lookup a=some o/\o.cls=.type "list"/\o.dict=none/\o.data=.seq its n/\its.size<=zq/\Vals xs its.toList
theorem vd.seq{K:Q_}{H:Hp}{a:Addr}{xs:List V}(h:vd K H a xs):aN K H a xs:=by
 rcases h with ⟨o,h⟩|h
 ·exact .inl (.inr ⟨o,h⟩)
 ·exact .inr h
mutual
inductive Rep (K:Q_) (ι:List Addr) (H:Hp):D->V->Prop where
 |non:Rep K ι H .non .non
 |bl (b:Bool):Rep K ι H (.bl b) (.bl b)
 |int (i:Int):Rep K ι H (.int i) (.int i)
 |str (x:Str):Rep K ι H (.str x) (.str x)
 |tup {a:Addr} {vs:List V} {ds:List D}:H a=some (.tup vs)->aB K ι H ds vs->Rep K ι H (.tup ds) (.ref a)
 |fl {a:Addr} {vs:List V} {ds:List D}:vd K H a vs->aB K ι H ds vs->Rep K ι H (.fl ds) (.ref a)
 |ob {i:Nat} {a:Addr}:ι[i]?=some a->Rep K ι H (.ob i) (.ref a)
inductive aB (K:Q_) (ι:List Addr) (H:Hp):List D->List V->Prop where
 |nil:aB K ι H [] []
 |cons {d:D} {v:V} {ds:List D} {vs:List V}:Rep K ι H d v->aB K ι H ds vs->aB K ι H (d::ds) (v::vs)
end
structure Ext (K:Q_) (ι:List Addr) (H:Hp) (ι':List Addr) (H':Hp):Prop where
 pre:∀(i:Nat) (a:Addr),ι[i]?=some a->ι'[i]?=some a
 tup:∀a xs,H a=some (.tup xs)->H' a=some (.tup xs)
 fz:∀a xs,vd K H a xs->vd K H' a xs
section
variable {K:Q_}{ι ι' ι'':List Addr}{H H' H'':Hp}
theorem Ext.refl:Ext K ι H ι H where
 pre:=fun _ _ e=>e
 tup:=fun _ _ e=>e
 fz:=fun _ _ e=>e
theorem Ext.trans(a:Ext K ι H ι' H')(b:Ext K ι' H' ι'' H''):Ext K ι H ι'' H'' where
 pre:=fun i c e=>b.pre i c (a.pre i c e)
 tup:=fun c xs e=>b.tup c xs (a.tup c xs e)
 fz:=fun c xs e=>b.fz c xs (a.fz c xs e)
mutual
theorem Rep.mono(x:Ext K ι H ι' H'):∀{d:D} {v:V},Rep K ι H d v->Rep K ι' H' d v
 |_,_,.non=>.non
 |_,_,.bl b=>.bl b
 |_,_,.int i=>.int i
 |_,_,.str y=>.str y
 |_,_,.tup a r=>.tup (x.tup _ _ a) (aB.mono x r)
 |_,_,.fl a r=>.fl (x.fz _ _ a) (aB.mono x r)
 |_,_,.ob e=>.ob (x.pre _ _ e)
theorem aB.mono(x:Ext K ι H ι' H'):∀{ds:List D} {vs:List V},aB K ι H ds vs->aB K ι' H' ds vs
 |_,_,.nil=>.nil
 |_,_,.cons r t=>.cons (Rep.mono x r) (aB.mono x t)
end
theorem aB.length:∀{ds:List D} {vs:List V},aB K ι H ds vs->ds.length=vs.length
 |_,_,.nil=>rfl
 |_,_,.cons _ t=>by rw[zg,zg,aB.length t]
theorem aB.get:∀{ds:List D} {vs:List V} {i:Nat} {d:D},aB K ι H ds vs->ds[i]?=some d->∃v,vs[i]?=some v/\Rep K ι H d v
 |_,_,_,_,.nil,e=>by simp at e
 |_,_,0,_,.cons r _,e=>by simp at e;subst e;exact⟨_,rfl,r⟩
 |_,_,i+1,d,.cons _ t,e=>by
  obtain⟨v,h1,h2⟩:=aB.get (i:=i) (d:=d) t (by simpa using e);exact⟨v,by simpa using h1,h2⟩
theorem aB.append:∀{ds es:List D} {vs us:List V},aB K ι H ds vs->aB K ι H es us->aB K ι H (ds++es) (vs++us)
 |_,_,_,_,.nil,s=>s
 |_,_,_,_,.cons r t,s=>.cons r (aB.append t s)
theorem aB.take:∀{ds:List D} {vs:List V} (n:Nat),aB K ι H ds vs->aB K ι H (ds.take n) (vs.take n)
 |_,_,0,_=>.nil
 |_,_,_+1,.nil=>.nil
 |_,_,n+1,.cons r t=>.cons r (aB.take n t)
theorem aB.drop:∀{ds:List D} {vs:List V} (n:Nat),aB K ι H ds vs->aB K ι H (ds.drop n) (vs.drop n)
 |_,_,0,r=>r
 |_,_,_+1,.nil=>.nil
 |_,_,n+1,.cons _ t=>aB.drop n t
theorem aB.set{d:D}{v:V}(r:Rep K ι H d v):∀{ds:List D} {vs:List V} (i:Nat),aB K ι H ds vs->aB K ι H (ds.set i d) (vs.set i v)
 |_,_,_,.nil=>.nil
 |_,_,0,.cons _ t=>.cons r t
 |_,_,i+1,.cons q t=>.cons q (aB.set r i t)
noncomputable def KR(K:Q_)(ι:List Addr)(H:Hp):List (Ky×D)->List (Key×V)->Prop:=Paired fun p q=>p.1=q.1/\Rep K ι H p.2 q.2
noncomputable def FR(K:Q_)(ι:List Addr)(H:Hp):List (Str×D)->List (Str×V)->Prop:=Paired fun p q=>p.1=q.1/\Rep K ι H p.2 q.2
noncomputable def mj(K:Q_)(ι:List Addr)(H:Hp):MO->Option HO->Prop
 |.lst ds,x=>∃vs,x=some (.lst vs)/\aB K ι H ds vs
 |.aW kvs,x=>∃ws,x=some (.dK ws)/\KR K ι H kvs ws
 |.ins C fs,x=>∃dx ws,x=some (.ins C dx ws)/\FR K ι H fs ws
theorem KR.mono(x:Ext K ι H ι' H'){a:List (Ky×D)}{b:List (Key×V)}(r:KR K ι H a b):KR K ι' H' a b:=Paired.qh r fun _ _ z=>⟨z.1,z.2.mono x⟩
theorem mj.mono(x:Ext K ι H ι' H'){o:MO}{h:Option HO}(r:mj K ι H o h):mj K ι' H' o h:=by
 cases o with
 |lst ds=>obtain⟨vs,e,q⟩:=r;exact⟨vs,e,q.mono x⟩
 |aW kvs=>obtain⟨ws,e,q⟩:=r;exact⟨ws,e,q.mono x⟩
 |ins C fs=>obtain⟨dx,ws,e,q⟩:=r;exact⟨dx,ws,e,Paired.qh q fun _ _ z=>⟨z.1,z.2.mono x⟩⟩
noncomputable def qz(u:HO):Prop:=(∀xs,u≠.tup xs)/\∀o v,u≠.frz o v
theorem oI(vs:List V):qz (.lst vs):=⟨fun _ z=>(nomatch z),fun _ _ z=>(nomatch z)⟩
theorem Cj(vs:List (Key×V)):qz (.dK vs):=⟨fun _ z=>(nomatch z),fun _ _ z=>(nomatch z)⟩
theorem Ip(C dx:Addr)(vs:List (Str×V)):qz (.ins C dx vs):=⟨fun _ z=>(nomatch z),fun _ _ z=>(nomatch z)⟩
theorem mj.some{o:MO}{h:Option HO}(r:mj K ι H o h):∃u,h=.some u/\qz u:=by
 cases o with
 |lst ds=>obtain⟨vs,e,q⟩:=r;exact⟨_,e,oI _⟩
 |aW kvs=>obtain⟨ws,e,q⟩:=r;exact⟨_,e,Cj _⟩
 |ins C fs=>obtain⟨dx,ws,e,q⟩:=r;exact⟨_,e,Ip _ _ _⟩
structure aJ (K:Q_) (ι:List Addr) (M:MH) (H:Hp):Prop where
 len:ι.length=M.length
 inj:∀(i j:Nat) (a:Addr),ι[i]?=some a->ι[j]?=some a->i=j
 obj:∀(i:Nat) (a:Addr) (o:MO),ι[i]?=some a->M[i]?=some o->mj K ι H o (H a)
theorem bY{a:Addr}{xs:List V}(h:H a=some (.tup xs)):cD K H a xs:=.inl (.inl h)
theorem Ext.new{p:Addr}{ho:HO}(hp:H p=none):Ext K ι H (ι++[p]) (upd H p ho) where
 pre:=fun i a e=>by
  have hi:i<ι.length:=(zw.mp e).1;rw[zG hi];exact e
 tup:=fun a xs h=>by rw[aA (aO h hp)];exact h
 fz:=fun a xs h=>by
  rcases h with ⟨o,h⟩|h
  ·exact .inl ⟨o,by rw[aA (aO h hp)];exact h⟩
  ·exact .inr h
theorem Ext.cW{p:Addr}{ho:HO}(hp:H p=none):Ext K ι H ι (upd H p ho) where
 pre:=fun i a e=>e
 tup:=fun a xs h=>by rw[aA (aO h hp)];exact h
 fz:=fun a xs h=>by
  rcases h with ⟨o,h⟩|h
  ·exact .inl ⟨o,by rw[aA (aO h hp)];exact h⟩
  ·exact .inr h
theorem Ext.write{p:Addr}{u ho:HO}(hp:H p=some u)(hu:qz u):Ext K ι H ι (upd H p ho) where
 pre:=fun i a e=>e
 tup:=fun a xs h=>by rw[aA (Cf h hp fun z=>hu.1 _ z.symm)];exact h
 fz:=fun a xs h=>by
  rcases h with ⟨o,h⟩|h
  ·exact .inl ⟨o,by rw[aA (Cf h hp fun z=>hu.2 _ _ z.symm)];exact h⟩
  ·exact .inr h
variable {M M':MH}
theorem aJ.tracked(S:aJ K ι M H){i:Nat}{a:Addr}(e:ι[i]?=some a):∃u,H a=some u/\qz u:=by
 have hi:i<M.length:=by rw[<- S.len];exact(zw.mp e).1
 exact(S.obj i a _ e (zr hi)).some
theorem aJ.new(S:aJ K ι M H){p:Addr}{o:MO}{ho:HO}(hp:H p=none)(r:mj K (ι++[p]) (upd H p ho) o (some ho)):aJ K (ι++[p]) (M++[o]) (upd H p ho) where
 len:=by rw[ze,ze,S.len];rfl
 inj:=fun i j a h1 h2=>by
  have np:∀(k:Nat),ι[k]?=some p->False:=fun k e=>by
   obtain⟨u,hu,_⟩:=S.tracked e;rw[hp]at hu;cases hu
  by_cases hi:i<ι.length
  ·rw[zG hi]at h1
   by_cases hj:j<ι.length
   ·rw[zG hj]at h2
    exact S.inj i j a h1 h2
   ·rw[zc (by first|lia|omega)]at h2
    have e:a=p:=by
     have:=zF h2
     simpa using this
    subst e;exact(np i h1).elim
  ·rw[zc (by first|lia|omega)]at h1
   have e:a=p:=by
    have:=zF h1
    simpa using this
   subst e;by_cases hj:j<ι.length
   ·rw[zG hj]at h2
    exact(np j h2).elim
   ·have l1:=(zw.mp h1).1
    rw[zc (by first|lia|omega)]at h2
    have l2:=(zw.mp h2).1;simp at l1 l2;first|lia|omega
 obj:=fun i a q h1 h2=>by
  by_cases hi:i<ι.length
  ·rw[zG hi]at h1
   rw[zG (by rw[<- S.len];exact hi)]at h2;have z:=S.obj i a q h1 h2;obtain⟨u,hu,_⟩:=S.tracked h1;rw[aA (aO hu hp)];exact z.mono (Ext.new hp)
  ·rw[zc (by first|lia|omega)]at h1
   rw[zc (by rw[<- S.len];omega)]at h2;have e:a=p:=by
    have:=zF h1
    simpa using this
   have e':q=o:=by
    have:=zF h2
    simpa using this
   subst e e';rw[aT];exact r
theorem aJ.cW(S:aJ K ι M H){p:Addr}{ho:HO}(hp:H p=none):aJ K ι M (upd H p ho) where
 len:=S.len
 inj:=S.inj
 obj:=fun i a o h1 h2=>by
  obtain⟨u,hu,_⟩:=S.tracked h1;rw[aA (aO hu hp)];exact(S.obj i a o h1 h2).mono (Ext.cW hp)
theorem aJ.put(S:aJ K ι M H){i:Nat}{a:Addr}{o:MO}{ho:HO}(e:ι[i]?=some a)(r:mj K ι (upd H a ho) o (some ho)):aJ K ι (M.set i o) (upd H a ho):=by
 obtain⟨u,hu,mu⟩:=S.tracked e;refine⟨by rw[yw];exact S.len,S.inj,fun j b q h1 h2=>?_⟩;by_cases lA:j=i
 ·subst lA
  rw[e]at h1;cases h1;have hj:j<M.length:=by rw[<- S.len];exact(zw.mp e).1
  rw[zO hj]at h2;cases h2;rw[aT];exact r
 ·rw[zd (Ne.symm lA)]at h2
  have hb:b≠a:=fun z=>by subst z;exact lA (S.inj j i b h1 e)
  rw[aA hb];exact(S.obj j b q h1 h2).mono (Ext.write hu mu)
structure bL (K:Q_) (ι:List Addr) (H:Hp) (ρ:Ev) (σ:St):Prop where
 len:ρ.length=σ.length
 val:∀(i:Nat) (d:D),ρ[i]?=some (some d)->∃v,σ[i]?=some (some v)/\Rep K ι H d v
theorem bL.mono(x:Ext K ι H ι' H'){ρ:Ev}{σ:St}(r:bL K ι H ρ σ):bL K ι' H' ρ σ:=⟨r.len,fun i d e=>let ⟨v,h1,h2⟩:=r.val i d e;⟨v,h1,h2.mono x⟩⟩
theorem bL.set{ρ:Ev}{σ:St}{d:D}{v:V}(r:bL K ι H ρ σ)(q:Rep K ι H d v)(i:Nat):bL K ι H (ρ.set i (some d)) (σ.set i (some v)) where
 len:=by rw[yw,yw];exact r.len
 val:=fun j c e=>by
  by_cases lA:j=i
  ·subst lA
   by_cases hj:j<ρ.length
   ·rw[zO hj]at e
    cases e;exact⟨v,by rw[zO (by rw[<- r.len];exact hj)],q⟩
   ·rw[xW (by rw[yw];omega)]at e;cases e
  ·rw[zd (Ne.symm lA)]at e
   obtain⟨u,h1,h2⟩:=r.val j c e;exact⟨u,by rw[zd (Ne.symm lA)];exact h1,h2⟩
theorem bL.comp{ρ:Ev}{σ:St}{d:D}{v:V}(r:bL K ι H ρ σ)(q:Rep K ι H d v)(j:Nat):bL K ι H (some d::ρ.set j none) (some v::σ) where
 len:=by rw[zg,zg,yw,r.len]
 val:=fun i c e=>by
  cases i with
  |zero=>simp at e;subst e;exact⟨v,rfl,q⟩
  |succ i =>
   rw[xL]at e;by_cases lA:i=j
   ·subst lA
    by_cases hj:i<ρ.length
    ·rw[zO hj]at e;cases e
    ·rw[xW (by rw[yw];omega)]at e;cases e
   ·rw[zd (Ne.symm lA)]at e
    obtain⟨u,h1,h2⟩:=r.val i c e;exact⟨u,by rw[xL];exact h1,h2⟩
end
noncomputable abbrev DE:=Ev->Mo D
inductive LE (K:Q_) (f:DE) (σ:St) (H:Hp) (Q:VK):Prop
 |mk (ι:List Addr) (ρ:Ev) (M:MH) (d:D) (M':MH) (S0:aJ K ι M H) (R0:bL K ι H ρ σ) (e:f ρ M=some (.ok d,M')) (k:∀v H' ι',Rep K ι' H' d v->aJ K ι' M' H'->Ext K ι H ι' H'->Q v H')
inductive LT (K:Q_) (f:Ev->Mo Bool) (σ:St) (H:Hp) (Q:Bool->Hp->Prop):Prop
 |mk (ι:List Addr) (ρ:Ev) (M:MH) (b:Bool) (M':MH) (S0:aJ K ι M H) (R0:bL K ι H ρ σ) (e:f ρ M=some (.ok b,M')) (k:∀H' ι',aJ K ι' M' H'->Ext K ι H ι' H'->Q b H')
inductive LA (K:Q_) (f:Ev->Mo (List D)) (σ:St) (H:Hp) (Q:List V->Hp->Prop):Prop
 |mk (ι:List Addr) (ρ:Ev) (M:MH) (ds:List D) (M':MH) (S0:aJ K ι M H) (R0:bL K ι H ρ σ) (e:f ρ M=some (.ok ds,M')) (k:∀vs H' ι',aB K ι' H' ds vs->aJ K ι' M' H'->Ext K ι H ι' H'->Q vs H')
inductive LO (K:Q_) (f:Ev->Mo (Option Int)) (σ:St) (H:Hp) (Q:Option Int->Hp->Prop):Prop
 |mk (ι:List Addr) (ρ:Ev) (M:MH) (o:Option Int) (M':MH) (S0:aJ K ι M H) (R0:bL K ι H ρ σ) (e:f ρ M=some (.ok o,M')) (k:∀H' ι',aJ K ι' M' H'->Ext K ι H ι' H'->Q o H')
noncomputable def Rm(K:Q_)(D:Ends)(ι:List Addr)(H:Hp):Fl->Prop
 |.nx ρ=>∀σ,bL K ι H ρ σ->D.nx σ H
 |.rt d=>∀v,Rep K ι H d v->D.rt v H
 |.bk ρ=>∀σ,bL K ι H ρ σ->D.bk σ H
 |.ct ρ=>∀σ,bL K ι H ρ σ->D.ct σ H
inductive LS (K:Q_) (f:Ev->Mo Fl) (D:Ends) (σ:St) (H:Hp):Prop
 |mk (ι:List Addr) (ρ:Ev) (M:MH) (fl:Fl) (M':MH) (S0:aJ K ι M H) (R0:bL K ι H ρ σ) (e:f ρ M=some (.ok fl,M')) (k:∀H' ι',aJ K ι' M' H'->Ext K ι H ι' H'->Rm K D ι' H' fl)
theorem PE.imp{X:Cx}{e:Expr}{t t':TE}(h:PE X e t)(k:∀σ H Q,t' σ H Q->t σ H Q):PE X e t':=fun pins s σ H Q I q=>h pins s σ H Q I (k σ H Q q)
theorem PT.imp{X:Cx}{e:Expr}{t t':TT}(h:PT X e t)(k:∀σ H Q,t' σ H Q->t σ H Q):PT X e t':=fun pins s σ H Q I q=>h pins s σ H Q I (k σ H Q q)
theorem jO.imp{X:Cx}{e:List Expr}{t t':TT}(h:jO X e t)(k:∀σ H Q,t' σ H Q->t σ H Q):jO X e t':=fun pins s σ H Q I q=>h pins s σ H Q I (k σ H Q q)
theorem PA.imp{X:Cx}{e:List Expr}{t t':TA}(h:PA X e t)(k:∀σ H Q,t' σ H Q->t σ H Q):PA X e t':=fun pos pins s σ H Q I q=>h pos pins s σ H Q I (k σ H Q q)
theorem PO.imp{X:Cx}{e:Option Expr}{t t':TO}(h:PO X e t)(k:∀σ H Q,t' σ H Q->t σ H Q):PO X e t':=fun pins s σ H Q I q=>h pins s σ H Q I (k σ H Q q)
theorem PS.imp{X:Cx}{e:Stmt}{t t':TS}(h:PS X e t)(k:∀D σ H,t' D σ H->t D σ H):PS X e t':=fun pins s σ H D I q=>h pins s σ H D I (k D σ H q)
theorem du.imp{X:Cx}{e:List Stmt}{t t':TS}(h:du X e t)(k:∀D σ H,t' D σ H->t D σ H):du X e t':=fun pins s σ H D I q=>h pins s σ H D I (k D σ H q)
noncomputable def Rg(K:Q_)(r:R2)(g:D->D->Mo D):Prop:=∀(ι:List Addr) (M M':MH) (H:Hp) (x y d:D) (vx vy:V) (Q:VK),aJ K ι M H->Rep K ι H x vx->Rep K ι H y vy->g x y M=some (.ok d,M') ->
 (∀v H' ι',Rep K ι' H' d v->aJ K ι' M' H'->Ext K ι H ι' H'->Q v H')->r vx vy H Q
section
variable {K:Q_}
theorem LE.bin{fa fb:DE}{g:D->D->Mo D}{r:R2}(ho:Rg K r g)(σ:St)(H:Hp)(Q:VK)(h:LE K (fun ρ=>do let x<-fa ρ;let y<-fb ρ;g x y) σ H Q):lq r (LE K fa) (LE K fb) σ H Q:=by
 obtain⟨ι,ρ,M,d,M',S,R,e,k⟩:=h;obtain⟨x,M1,e1,e⟩:=ae e;obtain⟨y,M2,e2,e⟩:=ae e;refine⟨ι,ρ,M,x,M1,S,R,e1,fun v1 H1 ι1 r1 S1 X1=>?_⟩;refine⟨ι1,ρ,M1,y,M2,S1,R.mono X1,e2,fun v2 H2 ι2 r2 S2 X2=>?_⟩;exact ho ι2 M2 M' H2 x y d v1 v2 Q S2 (r1.mono X2) r2 e fun v H' ι' r' S' X'=>k v H' ι' r' S' ((X1.trans X2).trans X')
end
theorem aG{p:Prop}[Decidable p]{M M':MH}{u:Unit}(h:need p M=some (.ok u,M')):p/\M'=M:=by
 unfold need at h;split at h
 ·rename_i hp
  cases h;exact⟨hp,rfl⟩
 ·cases h
theorem bj{α:Type}{o:Option α}{a:α}{M M':MH}(h:lift o M=some (.ok a,M')):o=some a/\M'=M:=by
 cases o with
 |none=>cases h
 |some b=>cases h;exact⟨rfl,rfl⟩
theorem ah{α:Type}{a b:α}{M M':MH}(h:(pure a:Mo α) M=some (.ok b,M')):b=a/\M'=M:=by
 cases h;exact⟨rfl,rfl⟩
theorem eh{i:Nat}{o:MO}{M M':MH}(h:getM i M=some (.ok o,M')):M[i]?=some o/\M'=M:=by
 unfold getM at h;split at h
 ·rename_i e;cases h;exact⟨e,rfl⟩
 ·cases h
theorem bB{i:Nat}{ds:List D}{M M':MH}(h:getL i M=some (.ok ds,M')):M[i]?=some (.lst ds)/\M'=M:=by
 unfold getL at h;split at h
 ·rename_i e;cases h;exact⟨e,rfl⟩
 ·cases h
theorem qm{i:Nat}{ds:List (Ky×D)}{M M':MH}(h:getD i M=some (.ok ds,M')):M[i]?=some (.aW ds)/\M'=M:=by
 unfold getD at h;split at h
 ·rename_i e;cases h;exact⟨e,rfl⟩
 ·cases h
theorem gW{o:MO}{d:D}{M M':MH}(h:bz o M=some (.ok d,M')):d=.ob M.length/\M'=M++[o]:=by
 cases h;exact⟨rfl,rfl⟩
theorem j0{i:Nat}{o:MO}{u:Unit}{M M':MH}(h:cY i o M=some (.ok u,M')):i<M.length/\M'=M.set i o:=by
 unfold cY at h;split at h
 ·rename_i e;cases h;exact⟨e,rfl⟩
 ·cases h
theorem ai{α:Type}{a:α}{M':MH}(h:(none:Option (Out α×MH))=some (.ok a,M')):False:=by cases h
theorem ql{i:Nat}{p:Nat×List (Str×D)}{M M':MH}(h:i7 i M=some (.ok p,M')):M[i]?=some (.ins p.1 p.2)/\M'=M:=by
 unfold i7 at h;split at h
 ·rename_i e;cases h;exact⟨e,rfl⟩
 ·cases h
end L3
namespace L3
open PySem PySem.Spec PyProof.Rows L2
section
variable {K:Q_}{ι:List Addr}{M:MH}{H:Hp}
end
end L3
namespace L3
open PySem PySem.Spec PyProof.Rows L2
noncomputable def AM(K:Q_)(g:D->D->Mo D):R2:=fun x y H Q=>∃ι M M' dx dy d,aJ K ι M H/\Rep K ι H dx x/\Rep K ι H dy y/\g dx dy M=some (.ok d,M') /\
 ∀v H' ι',Rep K ι' H' d v->aJ K ι' M' H'->Ext K ι H ι' H'->Q v H'
theorem mF{K:Q_}{g:D->D->Mo D}:Rg K (AM K g) g:=fun ι M M' _ x y d _ _ _ S r1 r2 e k=>⟨ι,M,M',x,y,d,S,r1,r2,e,k⟩
section
variable {K:Q_}{ι:List Addr}{H:Hp}{M M':MH}
theorem fF{Q:VK}{ds:List D}{vs:List V}{d:D}(S:aJ K ι M H)(r:aB K ι H ds vs)(e:bz (.lst ds) M=some (.ok d,M'))(k:∀v H' ι',Rep K ι' H' d v->aJ K ι' M' H'->Ext K ι H ι' H'->Q v H') :
  ∀p,H p=none->Q (.ref p) (upd H p (.lst vs)):=fun p hp=>by
 have e0:=gW e;clear e;obtain⟨rfl,rfl⟩:=e0;have x:Ext K ι H (ι++[p]) (upd H p (.lst vs)):=Ext.new hp;exact k _ _ (ι++[p]) (.ob (by rw[<- S.len,zc (zp _),yK];rfl)) (S.new hp ⟨vs,rfl,r.mono x⟩) x
theorem ke{Q:VK}{ds:List D}{vs:List V}(S:aJ K ι M H)(r:aB K ι H ds vs)(k:∀v H' ι',Rep K ι' H' (.tup ds) v->aJ K ι' M H'->Ext K ι H ι' H'->Q v H') :
  ∀p,H p=none->Q (.ref p) (upd H p (.tup vs)):=fun p hp=>by
 have x:Ext K ι H ι (upd H p (.tup vs)):=Ext.cW hp;exact k _ _ ι (.tup aT (r.mono x)) (S.cW hp) x
inductive WS (K:Q_) (ι:List Addr) (H:Hp) (i:Nat) (ds:List D) (v:V):Prop
 |mk (a:Addr) (vs:List V) (h:v=.ref a) (h1:ι[i]?=some a) (h2:H a=some (.lst vs)) (h3:aB K ι H ds vs)
theorem aK(S:aJ K ι M H){i:Nat}{ds:List D}{v:V}(r:Rep K ι H (.ob i) v)(e:M[i]?=some (.lst ds)):WS K ι H i ds v:=by
 cases r with
 |ob h =>
  rename_i a;obtain⟨vs,e1,q⟩:=S.obj i a _ h e;exact⟨a,vs,rfl,h,e1,q⟩
inductive WT (K:Q_) (ι:List Addr) (H:Hp) (i:Nat) (kvs:List (Ky×D)) (v:V):Prop
 |mk (a:Addr) (ws:List (Ky×V)) (h:v=.ref a) (h1:ι[i]?=some a) (h2:H a=some (.dK ws)) (h3:KR K ι H kvs ws)
theorem dw(S:aJ K ι M H){i:Nat}{kvs:List (Ky×D)}{v:V}(r:Rep K ι H (.ob i) v)(e:M[i]?=some (.aW kvs)):WT K ι H i kvs v:=by
 cases r with
 |ob h =>
  rename_i a;obtain⟨vs,e1,q⟩:=S.obj i a _ h e;exact⟨a,vs,rfl,h,e1,q⟩
theorem i8{d:D}{v:V}(r:Rep K ι H d v)(h:bE d=true):gj v=true:=by
 cases r <;> simp[bE,gj]at h ⊢
theorem E7{d e:D}{v u:V}(r:Rep K ι H d v)(q:Rep K ι H e u)(h:bE d=true)(h':bE e=true):lC v u=eY d e:=by
 cases r <;> cases q <;> simp[bE,lC,eY]at h h' ⊢
theorem KR.find{kvs:List (Ky×D)}{ws:List (Key×V)}(r:KR K ι H kvs ws)(k:Ky):(dh kvs k=none/\fM ws k=none)\/∃d v,dh kvs k=some d/\fM ws k=some v/\Rep K ι H d v:=by
 induction r with
 |nil=>exact .inl ⟨rfl,rfl⟩
 |cons h t ih =>
  rename_i a b l1 l2;by_cases e:a.1=k
  ·refine .inr ⟨a.2,b.2,?_,kr (h.1▸e),h.2⟩
   simp[dh,yd,e]
  ·have e2:¬ b.1=k:=fun z=>e (h.1.trans z)
   have e3:dh (a::l1) k=dh l1 k:=by simp[dh,yd,e]
   rw[ku e2,e3];exact ih
theorem KR.SE{kvs:List (Ky×D)}{ws:List (Key×V)}(r:KR K ι H kvs ws)(k:Ky):(kvs.any fun kv=>decide (kv.1=k))=ws.any fun kv=>decide (kv.1=k):=by
 induction r with
 |nil=>rfl
 |cons h t ih=>rw[yS,yS,ih,h.1]
theorem KR.len{kvs:List (Ky×D)}{ws:List (Key×V)}(r:KR K ι H kvs ws):kvs.length=ws.length:=Paired.length r
theorem KR.tE{kvs:List (Ky×D)}{ws:List (Key×V)}(r:KR K ι H kvs ws)(k:Ky){d:D}{v:V}(q:Rep K ι H d v) :
  KR K ι H (kvs.map fun kv=>if kv.1=k then (kv.1,d) else kv) (ws.map fun kv=>if kv.1=k then (kv.1,v) else kv):=by
 induction r with
 |nil=>exact .nil
 |cons h t ih =>
  rename_i a b l1 l2;rw[zK,zK];refine .cons ?_ ih;by_cases e:a.1=k
  ·rw[if_pos e,if_pos (h.1▸e)];exact⟨h.1,q⟩
  ·rw[if_neg e,if_neg (fun z=>e (h.1.trans z))];exact h
theorem KR.put{kvs:List (Ky×D)}{ws:List (Key×V)}(r:KR K ι H kvs ws)(k:Ky){d:D}{v:V}(q:Rep K ι H d v):KR K ι H (iI kvs k d) (putK ws k v):=by
 unfold iI putK;rw[r.SE k];split
 ·exact r.tE k q
 ·exact Paired.snoc r ⟨rfl,q⟩
theorem qj{d:D}{v:V}{k:Ky}(r:Rep K ι H d v)(h:ki d=some k):v=kV k:=by
 cases r <;> simp[ki]at h <;> subst h <;> rfl
theorem LV{d:D}{v:V}{ds:List D}(S:aJ K ι M H)(r:Rep K ι H d v)(h:i3 d M=some (.ok ds,M')):M'=M/\∃a vs,v=.ref a/\(aN K H a vs\/cD K H a vs)/\aB K ι H ds vs:=by
 cases r with
 |tup t q=>have h0:=ah h;clear h;obtain⟨rfl,rfl⟩:=h0;exact⟨rfl,_,_,rfl,.inr (bY t),q⟩
 |fl t q=>have h0:=ah h;clear h;obtain⟨rfl,rfl⟩:=h0;exact⟨rfl,_,_,rfl,.inl t.seq,q⟩
 |ob t =>
  have h0:=bB h;clear h;obtain⟨e,rfl⟩:=h0;obtain⟨a,vs,h1,_,h3,h4⟩:=aK S (.ob t) e;exact⟨rfl,a,vs,h1,.inl (aN.of h3),h4⟩
 |_=>exact(ai h).elim
theorem pZ{ds:List D}{vs:List V}{i:Int}{d:D}(r:aB K ι H ds vs)(h:ee ds i=some d):∃v,pO vs i=some v/\Rep K ι H d v:=by
 unfold ee at h;unfold pO;have e:Aw vs.length i=oN ds.length i:=by rw[r.length];rfl
 rw[e];cases q:oN ds.length i with
 |none=>rw[q]at h;cases h
 |some j =>
  rw[q]at h;exact r.get h
end
section
variable {X:Cx}{pins:List (Addr×Obj)}{σ:St}{H:Hp}{s:Shared}{ι:List Addr}{M:MH}
theorem uM{f:D->D->Option Bool}:∀{xs ys:List D} {b:Bool},gk f xs ys=some b->(∀(j:Nat) (x y:D),xs[j]?=some x->ys[j]?=some y->∃c,f x y=some c) /\
  b=((List.range (min xs.length ys.length)).all (fun j=>(f (xs.getD j .non) (ys.getD j .non)).getD false)&&xs.length==ys.length)
 |[],[],b,h=>by
  simp only[gk,Option.some.injEq]at h;subst h;exact⟨fun j x y h=>by simp at h,rfl⟩
 |[],_::_,b,h=>by
  simp only[gk,Option.some.injEq]at h;subst h;exact⟨fun j x y h=>by simp at h,by simp⟩
 |_::_,[],b,h=>by
  simp only[gk,Option.some.injEq]at h;subst h;exact⟨fun j x y _ h=>by simp at h,by simp⟩
 |x::xs,y::ys,b,h=>by
  unfold gk at h;cases e1:f x y with
  |none=>rw[e1]at h;cases h
  |some c =>
   rw[e1]at h;cases e2:gk f xs ys with
   |none=>rw[e2]at h;cases h
   |some c2 =>
    rw[e2]at h;cases h;obtain⟨i1,i2⟩:=uM e2;refine⟨fun j x' y' h1 h2=>?_,?_⟩
    ·cases j with
     |zero=>simp at h1 h2;subst h1 h2;exact⟨c,e1⟩
     |succ j=>exact i1 j x' y' (by simpa using h1) (by simpa using h2)
    ·rw[i2,zg,zg,Nat.add_min_add_right,xQ,zL,xR]
     simp only[List.getD_cons_zero,e1,yL];have e3:(xs.length+1==ys.length+1)=(xs.length==ys.length):=by
      rw[xl];simp
     rw[e3,Bool.and_assoc];rfl
theorem qJ(I:Inv X pins σ H s)(S:aJ X.K ι M H):∀(n:Nat) {d d':D} {v:V} {b:Bool},Rep X.K ι H d v->Rep X.K ι H d' v->bT M n d d'=some b->b=true
 |0,_,_,_,_,_,_,h=>by cases h
 |n+1,d,d',v,b,r,r',h=>by
  have lst:∀{ds ds':List D} {vs:List V} {b:Bool},aB X.K ι H ds vs->aB X.K ι H ds' vs->gk (bT M n) ds ds'=some b->b=true:=by
   intro ds;induction ds with
   |nil =>
    intro ds' vs b h1 h2 h3;cases h1;cases h2;cases h3;rfl
   |cons x xs ih =>
    intro ds' vs b h1 h2 h3;cases h1 with
    |cons r1 t1 =>
     cases h2 with
     |cons r2 t2 =>
      rename_i y ys;unfold gk at h3;cases e1:bT M n x y with
      |none=>rw[e1]at h3;cases h3
      |some c =>
       rw[e1]at h3;cases e2:gk (bT M n) xs ys with
       |none=>rw[e2]at h3;cases h3
       |some c2 =>
        rw[e2]at h3;cases h3;rw[qJ I S n r1 r2 e1,ih t1 t2 e2];rfl
  cases r with
  |non=>cases r' with|non=>cases h;rfl
  |bl a=>cases r' with|bl=>cases h;simp[eY]
  |int a=>cases r' with|int=>cases h;simp[eY]
  |str a=>cases r' with|str=>cases h;simp[eY]
  |tup t q =>
   cases r' with
   |tup t' q' =>
    have:=I.lM (bY t) (bY t')
    subst this;exact lst q q' h
   |fl t' q'=>cases h
   |ob t'=>cases h
  |fl t q =>
   cases r' with
   |tup t' q'=>cases h
   |fl t' q'=>cases h
   |ob t'=>cases h
  |ob t =>
   rename_i i a;cases r' with
   |tup t' q'=>cases h
   |fl t' q'=>cases h
   |ob t' =>
    rename_i j
    have:=S.inj i j a t t'
    subst this;unfold bT at h;dsimp only at h;split at h
    ·rename_i xs ys h1 h2
     rw[h1]at h2;cases h2;rw[if_pos rfl]at h;obtain⟨vs,_,q⟩:=S.obj i a _ t h1;exact lst q q h
    ·cases h
theorem uq{A:Around}{n:Nat}(ih:∀{dx dy:D} {vx vy:V} {u v:Value} {b:Bool},Rep X.K ι H dx vx->Rep X.K ι H dy vy->RelV vx u->RelV vy v->bT M n dx dy=some b->SeqAt.EqAt A s u v b)
  {xs ys:List D} {vs ws:List V} {its bO:List Value} {b:Bool} (r1:aB X.K ι H xs vs) (r2:aB X.K ι H ys ws) (q1:Vals vs its) (q2:Vals ws bO) (h:gk (bT M n) xs ys=some b) :
  ∃e:Nat->Bool,(∀j (h1:j<its.toArray.size) (h2:j<bO.toArray.size),SeqAt.EqAt A s its.toArray[j] bO.toArray[j] (e j))/\b=((List.range (min its.toArray.size bO.toArray.size)).all e&&its.toArray.size==bO.toArray.size):=by
 obtain⟨h1,h2⟩:=uM h;have l1:xs.length=its.toArray.size:=by rw[r1.length,q1.length];simp
 have l2:ys.length=bO.toArray.size:=by rw[r2.length,q2.length];simp
 refine⟨fun j=>(bT M n (xs.getD j .non) (ys.getD j .non)).getD false,fun j g1 g2=>?_,by rw[<- l1,<- l2];exact h2⟩;have j1:j<xs.length:=by rw[l1];exact g1
 have j2:j<ys.length:=by rw[l2];exact g2
 obtain⟨c,hc⟩:=h1 j _ _ (zr j1) (zr j2);obtain⟨v1,e1,p1⟩:=r1.get (zr j1);obtain⟨v2,e2,p2⟩:=r2.get (zr j2);obtain⟨u1,f1,g1'⟩:=q1.get e1;obtain⟨u2,f2,g2'⟩:=q2.get e2;have k1:its.toArray[j]=u1:=by
  have:=(zw.mp f1).2
  simpa using this
 have k2:bO.toArray[j]=u2:=by
  have:=(zw.mp f2).2
  simpa using this
 rw[k1,k2];have k3:(bT M n (xs.getD j .non) (ys.getD j .non)).getD false=c:=by
  rw[zT,zT,zr j1,zr j2];simp only[yL];rw[hc];rfl
 show SeqAt.EqAt A s u1 u2 ((bT M n (xs.getD j .non) (ys.getD j .non)).getD false);rw[k3];exact ih p1 p2 g1' g2' hc
theorem Ep{its bO:List Value}(h:its.length≠bO.length):(its.toArray.size != bO.toArray.size)=true:=by simpa using h
theorem L9(I:Inv X pins σ H s){A:Around}(hu:A.units<cLine){n:Nat}(ih:∀{dx dy:D} {vx vy:V} {u v:Value} {b:Bool},Rep X.K ι H dx vx->Rep X.K ι H dy vy->RelV vx u->RelV vy v->bT M n dx dy=some b->SeqAt.EqAt A.in1 s u v b)
  {xs ys:List D} {vs ws:List V} {a c:Addr} {b:Bool} (t1:cD X.K H a vs) (t2:cD X.K H c ws) (r1:aB X.K ι H xs vs) (r2:aB X.K ι H ys ws) (h:gk (bT M n) xs ys=some b):SeqAt.RcAt A s (.ref a) (.ref c) b/\SeqAt.RcNeAt A s (.ref a) (.ref c) (!b):=by
 obtain⟨its,q1,p1,_⟩:=I.tuple t1;obtain⟨bO,q2,p2,_⟩:=I.tuple t2;obtain⟨e,he,rfl⟩:=uq ih r1 r2 q1 q2 h;exact⟨SeqAt.RcAt.tuples p1 p2 hu he,SeqAt.RcNeAt.tuples p1 p2 hu he⟩
theorem DP(I:Inv X pins σ H s){A:Around}(hu:A.units<cLine){n:Nat}(ih:∀{dx dy:D} {vx vy:V} {u v:Value} {b:Bool},Rep X.K ι H dx vx->Rep X.K ι H dy vy->RelV vx u->RelV vy v->bT M n dx dy=some b->SeqAt.EqAt A.in1 s u v b)
  {xs ys:List D} {vs ws:List V} {a c:Addr} {b:Bool} (t1:aN X.K H a vs) (t2:aN X.K H c ws) (r1:aB X.K ι H xs vs) (r2:aB X.K ι H ys ws) (h:(if xs.length=ys.length then gk (bT M n) xs ys else some false)=some b):SeqAt.RcAt A s (.ref a) (.ref c) b/\SeqAt.RcNeAt A s (.ref a) (.ref c) (!b):=by
 obtain⟨its,q1,p1,_⟩:=I.list t1;obtain⟨bO,q2,p2,_⟩:=I.list t2;have l1:xs.length=its.length:=by rw[r1.length,q1.length]
 have l2:ys.length=bO.length:=by rw[r2.length,q2.length]
 split at h
 ·rename_i hl
  obtain⟨e,he,rfl⟩:=uq ih r1 r2 q1 q2 h;have hs:its.toArray.size=bO.toArray.size:=by simp;omega
  have e1:((List.range (min its.toArray.size bO.toArray.size)).all e&&its.toArray.size==bO.toArray.size)=(List.range its.toArray.size).all e:=by
   rw[hs,wa];simp
  rw[e1];exact⟨SeqAt.RcAt.lists p1.isList p2.isList hs hu he,SeqAt.RcNeAt.lists p1.isList p2.isList hs hu he⟩
 ·rename_i hl
  cases h;exact⟨SeqAt.RcAt.lists_lengths p1.isList p2.isList (Ep (by first|lia|omega)) hu,SeqAt.RcNeAt.lists_lengths p1.isList p2.isList (Ep (by first|lia|omega)) hu⟩
theorem Kc{A:Around}{dx dy:D}{vx vy:V}{u v:Value}(r1:Rep X.K ι H dx vx)(r2:Rep X.K ι H dy vy)(g1:RelV vx u)(g2:RelV vy v)(f1:bE dx=true)(f2:bE dy=true):SeqAt.RcAt A s u v (eY dx dy)/\SeqAt.RcNeAt A s u v (!eY dx dy):=by
 cases r1 with
 |non =>
  cases g1;cases r2 with
  |non=>cases g2;exact⟨SeqAt.RcAt.none_none,SeqAt.RcNeAt.none_none⟩
  |bl b=>cases g2;exact⟨SeqAt.RcAt.none_bool b,SeqAt.RcNeAt.none_bool b⟩
  |int b=>obtain⟨t,rfl⟩:=g2;exact⟨SeqAt.RcAt.none_int b t,SeqAt.RcNeAt.none_int b t⟩
  |str b=>obtain⟨t,rfl⟩:=g2;exact⟨SeqAt.RcAt.none_str b t,SeqAt.RcNeAt.none_str b t⟩
  |_=>exact absurd f2 zu
 |bl a =>
  cases g1;cases r2 with
  |non=>cases g2;exact⟨SeqAt.RcAt.bool_none a,SeqAt.RcNeAt.bool_none a⟩
  |bl b=>cases g2;exact⟨SeqAt.RcAt.bool_bool a b,SeqAt.RcNeAt.bool_bool a b⟩
  |int b=>obtain⟨t,rfl⟩:=g2;exact⟨SeqAt.RcAt.bool_int a b t,SeqAt.RcNeAt.bool_int a b t⟩
  |str b=>obtain⟨t,rfl⟩:=g2;exact⟨SeqAt.RcAt.bool_str a b t,SeqAt.RcNeAt.bool_str a b t⟩
  |_=>exact absurd f2 zu
 |int a =>
  obtain⟨t',rfl⟩:=g1;cases r2 with
  |non=>cases g2;exact⟨SeqAt.RcAt.int_none a t',SeqAt.RcNeAt.int_none a t'⟩
  |bl b=>cases g2;exact⟨SeqAt.RcAt.int_bool a t' b,SeqAt.RcNeAt.int_bool a t' b⟩
  |int b=>obtain⟨t,rfl⟩:=g2;exact⟨SeqAt.RcAt.int_int a t' b t,SeqAt.RcNeAt.int_int a t' b t⟩
  |str b=>obtain⟨t,rfl⟩:=g2;exact⟨SeqAt.RcAt.int_str a t' b t,SeqAt.RcNeAt.int_str a t' b t⟩
  |_=>exact absurd f2 zu
 |str a =>
  obtain⟨t',rfl⟩:=g1;cases r2 with
  |non=>cases g2;exact⟨SeqAt.RcAt.str_none a t',SeqAt.RcNeAt.str_none a t'⟩
  |bl b=>cases g2;exact⟨SeqAt.RcAt.str_bool a t' b,SeqAt.RcNeAt.str_bool a t' b⟩
  |int b=>obtain⟨t,rfl⟩:=g2;exact⟨SeqAt.RcAt.str_int a t' b t,SeqAt.RcNeAt.str_int a t' b t⟩
  |str b=>obtain⟨t,rfl⟩:=g2;exact⟨SeqAt.RcAt.str_str a t' b t,SeqAt.RcNeAt.str_str a t' b t⟩
  |_=>exact absurd f2 zu
 |_=>exact absurd f1 zu
theorem cJ(I:Inv X pins σ H s){A:Around}(hu:A.units<cLine){dy:D}{vs:List V}{a:Addr}{vy:V}{v:Value}(t1:cD X.K H a vs)(r2:Rep X.K ι H dy vy)(g2:RelV vy v)(f2:bE dy=true) :
  (SeqAt.RcAt A s (.ref a) v false/\SeqAt.RcNeAt A s (.ref a) v true/\SeqAt.EqAt A s (.ref a) v false)/\(SeqAt.RcAt A s v (.ref a) false/\SeqAt.RcNeAt A s v (.ref a) true/\SeqAt.EqAt A s v (.ref a) false):=by
 obtain⟨its,q1,p1,_⟩:=I.tuple t1;cases r2 with
 |non=>cases g2;exact⟨⟨.tuple_none p1 hu,.tuple_none p1 hu,.tuple_none p1 hu⟩,⟨.none_tuple p1 hu,.none_tuple p1 hu,.none_tuple p1 hu⟩⟩
 |bl b=>cases g2;exact⟨⟨.tuple_bool b p1 hu,.tuple_bool b p1 hu,.tuple_bool b p1 hu⟩,⟨.bool_tuple b p1 hu,.bool_tuple b p1 hu,.bool_tuple b p1 hu⟩⟩
 |int b=>obtain⟨t,rfl⟩:=g2;exact⟨⟨.tuple_int b t p1 hu,.tuple_int b t p1 hu,.tuple_int b t p1 hu⟩,⟨.int_tuple b t p1 hu,.int_tuple b t p1 hu,.int_tuple b t p1 hu⟩⟩
 |str b=>obtain⟨t,rfl⟩:=g2;exact⟨⟨.tuple_str b t p1 hu,.tuple_str b t p1 hu,.tuple_str b t p1 hu⟩,⟨.str_tuple b t p1 hu,.str_tuple b t p1 hu,.str_tuple b t p1 hu⟩⟩
 |_=>exact absurd f2 zu
theorem ma(I:Inv X pins σ H s)(S:aJ X.K ι M H):∀(n:Nat) {A:Around} {dx dy:D} {vx vy:V} {u v:Value} {b:Bool},A.units+n<cLine->Rep X.K ι H dx vx->Rep X.K ι H dy vy->RelV vx u->RelV vy v->bT M n dx dy=some b ->
  SeqAt.RcAt A s u v b/\SeqAt.RcNeAt A s u v (!b)/\SeqAt.EqAt A s u v b
 |0,_,_,_,_,_,_,_,_,_,_,_,_,_,h=>by cases h
 |n+1,A,dx,dy,vx,vy,u,v,b,hA,r1,r2,g1,g2,h=>by
  have hu:A.units<cLine:=by first|lia|omega
  have ih:∀{dx dy:D} {vx vy:V} {u v:Value} {b:Bool},Rep X.K ι H dx vx->Rep X.K ι H dy vy->RelV vx u->RelV vy v->bT M n dx dy=some b->SeqAt.EqAt A.in1 s u v b :=
   fun r1 r2 g1 g2 h=>(ma I S n (A:=A.in1) (by show A.units+1+n<cLine;omega) r1 r2 g1 g2 h).2.2
  have refs:∀{a c:Addr},vx=.ref a->vy=.ref c->SeqAt.RcAt A s (.ref a) (.ref c) b->SeqAt.EqAt A s (.ref a) (.ref c) b:=fun {a c} e1 e2 hr=>by
   by_cases QN:a=c
   ·subst QN
    subst e1;subst e2;rw[qJ I S (n+1) r1 r2 h];exact SeqAt.EqAt.same _
   ·exact SeqAt.EqAt.of_refs QN hr
  by_cases hf:bE dx=true/\bE dy=true
  ·have hb:bT M (n+1) dx dy=some (eY dx dy):=by
    cases dx <;> cases dy <;> first|exact absurd hf.1 zu|exact absurd hf.2 zu|rfl
   rw[hb]at h;cases h;obtain⟨q1,q2⟩:=Kc (X:=X) (H:=H) (s:=s) (ι:=ι) (A:=A) r1 r2 g1 g2 hf.1 hf.2;refine⟨q1,q2,?_⟩;rw[<- E7 r1 r2 hf.1 hf.2];exact E9 g1 g2 (i8 r1 hf.1) (i8 r2 hf.2)
  ·cases r1 with
   |tup t q =>
    cases g1;cases r2 with
    |tup t' q' =>
     cases g2;obtain⟨h1,h2⟩:=L9 I hu ih (bY t) (bY t') q q' h;exact⟨h1,h2,refs rfl rfl h1⟩
    |fl t' q'=>cases h
    |ob t'=>cases h
    |non=>cases h;obtain⟨⟨h1,h2,h3⟩,_⟩:=cJ (ι:=ι) I hu (bY t) .non g2 rfl;exact⟨h1,h2,h3⟩
    |bl b=>cases h;obtain⟨⟨h1,h2,h3⟩,_⟩:=cJ (ι:=ι) I hu (bY t) (.bl b) g2 rfl;exact⟨h1,h2,h3⟩
    |int b=>cases h;obtain⟨⟨h1,h2,h3⟩,_⟩:=cJ (ι:=ι) I hu (bY t) (.int b) g2 rfl;exact⟨h1,h2,h3⟩
    |str b=>cases h;obtain⟨⟨h1,h2,h3⟩,_⟩:=cJ (ι:=ι) I hu (bY t) (.str b) g2 rfl;exact⟨h1,h2,h3⟩
   |ob t =>
    cases g1;cases r2 with
    |ob t' =>
     cases g2;unfold bT at h;dsimp only at h;split at h
     ·rename_i i a j c xs ys h1 h2
      obtain⟨vs,e1,q1⟩:=S.obj _ _ _ t h1;obtain⟨ws,e2,q2⟩:=S.obj _ _ _ t' h2;obtain⟨k1,k2⟩:=DP I hu ih (aN.of e1) (aN.of e2) q1 q2 h;refine⟨k1,k2,refs rfl rfl k1⟩
     ·cases h
    |tup t' q'=>cases h
    |_=>cases h
   |fl t q=>cases r2 <;> cases h
   |non =>
    cases r2 with
    |tup t' q'=>cases h;cases g2;obtain⟨_,h1,h2,h3⟩:=cJ (ι:=ι) I hu (bY t') .non g1 rfl;exact⟨h1,h2,h3⟩
    |fl t' q'=>cases h
    |ob t'=>cases h
    |_=>exact absurd ⟨rfl,rfl⟩ hf
   |bl x =>
    cases r2 with
    |tup t' q'=>cases h;cases g2;obtain⟨_,h1,h2,h3⟩:=cJ (ι:=ι) I hu (bY t') (.bl x) g1 rfl;exact⟨h1,h2,h3⟩
    |fl t' q'=>cases h
    |ob t'=>cases h
    |_=>exact absurd ⟨rfl,rfl⟩ hf
   |int x =>
    cases r2 with
    |tup t' q'=>cases h;cases g2;obtain⟨_,h1,h2,h3⟩:=cJ (ι:=ι) I hu (bY t') (.int x) g1 rfl;exact⟨h1,h2,h3⟩
    |fl t' q'=>cases h
    |ob t'=>cases h
    |_=>exact absurd ⟨rfl,rfl⟩ hf
   |str x =>
    cases r2 with
    |tup t' q'=>cases h;cases g2;obtain⟨_,h1,h2,h3⟩:=cJ (ι:=ι) I hu (bY t') (.str x) g1 rfl;exact⟨h1,h2,h3⟩
    |fl t' q'=>cases h
    |ob t'=>cases h
    |_=>exact absurd ⟨rfl,rfl⟩ hf
open Classical in
theorem uv(I:Inv X pins σ H s)(S:aJ X.K ι M H){A:Around}(hu:A.units+9<cLine){x:D}{vx:V}{v:Value}(rx:Rep X.K ι H x vx)(gx:RelV vx v):∀{ds:List D} {vs:List V} {its:List Value} {b:Bool},aB X.K ι H ds vs->Vals vs its->i4 M x ds=some b ->
  ∃jb:List Bool,jb.length=its.length/\(∀(j:Nat) (u:Value) (c:Bool),its[j]?=some u->jb[j]?=some c->SeqAt.EqAt A.in1 s u v c)/\b=jb.any id
 |_,_,_,b,.nil,.nil,h=>by cases h;exact⟨[],rfl,fun j u c h=>by simp at h,rfl⟩
 |d::ds,_,_,b,.cons r t,.cons q k,h=>by
  unfold i4 at h;cases e1:bT M 8 d x with
  |none=>rw[e1]at h;cases h
  |some c =>
   rw[e1]at h;cases e2:i4 M x ds with
   |none=>rw[e2]at h;cases h
   |some c2 =>
    rw[e2]at h;cases h;obtain⟨jb,a1,a2,a3⟩:=uv I S hu rx gx t k e2;refine⟨c::jb,by rw[zg,zg,a1],fun j u c' h1 h2=>?_,by rw[a3];rfl⟩;cases j with
    |zero =>
     simp at h1 h2;subst h1 h2;exact(ma I S 8 (A:=A.in1) (by show A.units+1+8<cLine;omega) r rx q gx e1).2.2
    |succ j=>exact a2 j u c' (by simpa using h1) (by simpa using h2)
open Classical in
theorem EB{A:Around}{its:List Value}{jb:List Bool}{v:Value}(hl:jb.length=its.length)(h:∀(j:Nat) (u:Value) (c:Bool),its[j]?=some u->jb[j]?=some c->SeqAt.EqAt A s u v c) :
  ∃e:Value->Bool,(∀y,y∈its.toArray->SeqAt.EqAt A s y v (e y))/\its.toArray.any e=jb.any id:=by
 refine⟨fun y=>decide (∃j:Nat,its[j]?=some y/\jb[j]?=some true),fun y hy=>?_,?_⟩
 ·by_cases hex:∃j:Nat,its[j]?=some y/\jb[j]?=some true
  ·dsimp only
   rw[decide_eq_true hex];obtain⟨j,h1,h2⟩:=hex;exact h j y true h1 h2
  ·dsimp only
   rw[decide_eq_false hex];have hy':y∈its:=by simpa using hy
   obtain⟨j,hj⟩:=xX.mp hy';have Jd:j<jb.length:=by rw[hl];exact(zw.mp hj).1
   have e:=zr Jd;cases hb:jb[j] with
   |true=>rw[hb]at e;exact absurd ⟨j,hj,e⟩ hex
   |false=>rw[hb]at e;exact h j y false hj e
 ·rw[xl,Array.any_eq_true]
  simp only[decide_eq_true_eq,xr,id];constructor
  ·rintro ⟨i,hi,j,h1,h2⟩
   exact⟨true,zF h2,rfl⟩
  ·rintro ⟨c,hc,rfl⟩
   obtain⟨j,hj⟩:=xX.mp hc;have Jd:j<its.length:=by rw[<- hl];exact(zw.mp hj).1
   exact⟨j,by simpa using Jd,j,by simp[Jd],hj⟩
end
section
variable {X:Cx}
noncomputable def uI(op:CmpOp)(x y:D):Mo D:=do let k<-cb op x y;pure (.bl k)
theorem iO{x:D}{ds:List D}{M M':MH}{b:Bool}(h:kO x ds M=some (.ok b,M')):i4 M x ds=some b/\M'=M:=by
 unfold kO at h;cases e:i4 M x ds with
 |none=>rw[e]at h;cases h
 |some c=>rw[e]at h;cases h;exact⟨rfl,rfl⟩
theorem AH{x y:D}{M M':MH}{b:Bool}(h:nV x y M=some (.ok b,M')):bT M 20 x y=some b/\M'=M:=by
 unfold nV at h;cases e:bT M 20 x y with
 |none=>rw[e]at h;cases h
 |some c=>rw[e]at h;cases h;exact⟨rfl,rfl⟩
theorem IF{x y:D}{M M':MH}{b:Bool}(h:inD x y M=some (.ok b,M')):M'=M:=by
 unfold inD at h;split at h
 ·split at h
  ·exact(ah h).2
  ·exact(ai h).elim
 ·exact(iO h).2
 ·exact(iO h).2
 ·have h0:=ae h;clear h;obtain⟨o,M1,e,h2⟩:=h0
  have hM:=(eh e).2;cases o with
  |lst ds=>rw[(iO h2).2,hM]
  |aW kvs =>
   have Wn:=ae h2;clear h2;obtain⟨_,_,e3,h3⟩:=Wn;rw[(ah h3).2,(bj e3).2,hM]
  |ins _ _=>exact(ai h2).elim
 ·exact(ai h).elim
theorem ID(hu:X.A.units+100<cLine)(neg:Bool){pins:List (Addr×Obj)}{s:Shared}{σ:St}{H:Hp}{x y:V}{v u:Value}{Q:VK}(I:Inv X pins σ H s)(rx:RelV x v)(ry:RelV y u){ι:List Addr}{M M':MH}{dx dy:D}{b:Bool}
  (S:aJ X.K ι M H) (r1:Rep X.K ι H dx x) (r2:Rep X.K ι H dy y) (e:inD dx dy M=some (.ok b,M')) (q:Q (.bl (if neg then !b else b)) H) :
  wpAny (model X.prog X.w) X.A (compareOp (if neg then .NotIn else .In) v u) (EP X pins σ Q) X.xe s:=by
 have seq:∀{a:Addr} {vs:List V} {ds:List D},y=.ref a->(aN X.K H a vs\/cD X.K H a vs)->aB X.K ι H ds vs->i4 M dx ds=some b ->
   wpAny (model X.prog X.w) X.A (compareOp (if neg then .NotIn else .In) v u) (EP X pins σ Q) X.xe s:=fun {a vs ds} ey hs hr hb=>by
  subst ey;cases ry;rcases hs with hs|hs
  ·obtain⟨its,q1,p1,_⟩:=I.list hs
   obtain⟨jb,a1,a2,rfl⟩:=uv I S (A:=X.A) (by first|lia|omega) r1 rx hr q1 hb
   obtain⟨e,e1,e2⟩:=EB a1 a2;cases neg with
   |false=>exact SeqAt.in_listAt e p1.isList e1 ⟨.bl _,H,I,rfl,by rw[e2];exact q⟩
   |true=>exact SeqAt.notIn_listAt e p1.isList e1 ⟨.bl _,H,I,rfl,by rw[e2];exact q⟩
  ·obtain⟨its,q1,p1,_⟩:=I.tuple hs
   obtain⟨jb,a1,a2,rfl⟩:=uv I S (A:=X.A) (by first|lia|omega) r1 rx hr q1 hb
   obtain⟨e,e1,e2⟩:=EB a1 a2;cases neg with
   |false=>exact SeqAt.in_tupleAt e p1 e1 ⟨.bl _,H,I,rfl,by rw[e2];exact q⟩
   |true=>exact SeqAt.notIn_tupleAt e p1 e1 ⟨.bl _,H,I,rfl,by rw[e2];exact q⟩
 cases r2 with
 |str j =>
  cases r1 with
  |str i =>
   have e0:=ah e;clear e;obtain⟨rfl,rfl⟩:=e0;cases neg with
   |false=>exact D3 pins s σ H _ _ v u Q I rx ry ⟨i,j,rfl,rfl,q⟩
   |true=>exact tW pins s σ H _ _ v u Q I rx ry ⟨i,j,rfl,rfl,q⟩
  |_=>exact(ai e).elim
 |tup t r=>exact seq rfl (.inr (bY t)) r (iO e).1
 |fl t r=>exact seq rfl (.inl t.seq) r (iO e).1
 |ob t =>
  have e0:=ae e;clear e;obtain⟨o,M1,e1,e⟩:=e0;have aE:=eh e1;clear e1;obtain⟨g,rfl⟩:=aE;cases o with
  |lst ds =>
   obtain⟨a,vs,h1,_,h3,h4⟩:=aK S (.ob t) g;exact seq h1 (.inl (aN.of h3)) h4 (iO e).1
  |ins _ _=>exact(ai e).elim
  |aW kvs =>
   obtain⟨a,ws,h1,_,h3,h4⟩:=dw S (.ob t) g;have e0:=ae e;clear e;obtain⟨k,_,e5,e6⟩:=e0;have Of:=bj e5;clear e5;obtain⟨hk,hM⟩:=Of;have d8:=ah e6;clear e6;obtain⟨rfl,_⟩:=d8;have hx:=qj r1 hk;subst hx;cases h1;obtain rfl:u=Value.ref _:=ry;have hs:(fM ws k).isSome=(dh kvs k).isSome:=by
    rcases h4.find k with ⟨z1,z2⟩|⟨_,_,z1,z2,_⟩ <;> rw[z1,z2]
    ·rfl
    ·rfl
   rw[<- hs]at q;cases neg with
   |false=>exact Sy (by first|lia|omega) I (jc.k (k:=k) h3) rx fun s3 I3=>⟨.bl _,H,I3,rfl,q⟩
   |true=>exact K0 (by first|lia|omega) I (jc.k (k:=k) h3) rx fun s3 I3=>⟨.bl _,H,I3,rfl,q⟩
 |_=>exact(ai e).elim
theorem kc(hu:X.A.units+100<cLine)(op:CmpOp):cQ X (compareOp op) (AM X.K (uI op)):=by
 intro pins s σ H x y v u Q I rx ry h;obtain⟨ι,M,M',dx,dy,d,S,r1,r2,e,k⟩:=h;have e0:=ae e;clear e;obtain⟨b,M1,e1,e2⟩:=e0;have aQ:=ah e2;clear e2;obtain⟨rfl,rfl⟩:=aQ;have fin:M'=M->Q (.bl b) H:=fun z=>by subst z;exact k (.bl b) H ι (.bl b) S Ext.refl
 cases op with
 |Eq =>
  have aE:=AH e1;clear e1;obtain⟨hs,rfl⟩:=aE;exact(ma I S 20 (A:=X.A) (by first|lia|omega) r1 r2 rx ry hs).1 X.prog X.w X.xe _ ⟨.bl b,H,I,rfl,fin rfl⟩
 |NotEq =>
  have aE:=ae e1;clear e1;obtain⟨c,_,e3,e4⟩:=aE;have bf:=AH e3;clear e3;obtain⟨hs,rfl⟩:=bf;have cA:=ah e4;clear e4;obtain⟨rfl,rfl⟩:=cA;exact(ma I S 20 (A:=X.A) (by first|lia|omega) r1 r2 rx ry hs).2.1 X.prog X.w X.xe _ ⟨.bl (!c),H,I,rfl,fin rfl⟩
 |Lt =>
  have aE:=bj e1;clear e1;obtain⟨e3,rfl⟩:=aE;cases r1 <;> cases r2 <;> simp only[Qq,Option.some.injEq,reduceCtorEq]at e3
  ·exact Pf pins s σ H _ _ v u Q I rx ry ⟨_,_,rfl,rfl,by show Q (.bl (decide _)) H;rw[e3];exact fin rfl⟩
  ·exact D0 pins s σ H _ _ v u Q I rx ry ⟨_,_,rfl,rfl,by rw[e3];exact fin rfl⟩
 |LtE =>
  have aE:=bj e1;clear e1;obtain⟨e3,rfl⟩:=aE;cases r1 <;> cases r2 <;> simp only[Qr,Option.some.injEq,reduceCtorEq]at e3
  ·exact Pg pins s σ H _ _ v u Q I rx ry ⟨_,_,rfl,rfl,by show Q (.bl (decide _)) H;rw[e3];exact fin rfl⟩
  ·obtain⟨t,rfl⟩:=rx
   obtain⟨t',rfl⟩:=ry;exact PySem.P.le_str (kl I (fin rfl) e3.symm)
 |Gt =>
  cases r1 <;> cases r2 <;> first
   |exact(ai e1).elim
   | (have aE:=ah e1;clear e1;obtain⟨rfl,rfl⟩:=aE;exact Ph pins s σ H _ _ v u Q I rx ry ⟨_,_,rfl,rfl,fin rfl⟩)
 |GtE =>
  cases r1 <;> cases r2 <;> first
   |exact(ai e1).elim
   | (have aE:=ah e1;clear e1;obtain⟨rfl,rfl⟩:=aE;exact Pj pins s σ H _ _ v u Q I rx ry ⟨_,_,rfl,rfl,fin rfl⟩)
 |In=>exact ID hu false I rx ry S r1 r2 e1 (fin (IF e1))
 |NotIn =>
  have aE:=ae e1;clear e1;obtain⟨b',M2,e3,e4⟩:=aE;have cA:=ah e4;clear e4;obtain⟨rfl,rfl⟩:=cA;exact ID hu true I rx ry S r1 r2 e3 (fin (IF e3))
 |Is =>
  have aE:=ae e1;clear e1;obtain⟨_,_,e3,e4⟩:=aE;have bf:=aG e3;clear e3;obtain⟨hs,rfl⟩:=bf;have cA:=ah e4;clear e4;obtain⟨rfl,rfl⟩:=cA;cases r2 <;> simp[gL]at hs;refine MM pins s σ H _ _ v u Q I rx ry ⟨rfl,?_⟩
  have:decide (x=V.non)=gL dx:=by cases r1 <;> simp[gL]
  rw[this];exact fin rfl
 |IsNot =>
  have aE:=ae e1;clear e1;obtain⟨_,_,e3,e4⟩:=aE;have bf:=aG e3;clear e3;obtain⟨hs,rfl⟩:=bf;have cA:=ah e4;clear e4;obtain⟨rfl,rfl⟩:=cA;cases r2 <;> simp[gL]at hs;refine Kq pins s σ H _ _ v u Q I rx ry ⟨rfl,?_⟩
  have:decide (x=V.non)=gL dx:=by cases r1 <;> simp[gL]
  rw[this];exact fin rfl
theorem La{pins:List (Addr×Obj)}{s:Shared}{σ:St}{H:Hp}{a b:Addr}{us:List V}{Q:Value->Shared->Prop}{E:Value->Shared->Prop}(I:Inv X pins σ H s)(t1:cD X.K H a [])(t2:cD X.K H b us)(q:Q (.ref b) s):wpAny (model X.prog X.w) X.A (binaryOp .Add (.ref a) (.ref b)) Q E s:=by
 obtain⟨its,q1,p1,_⟩:=I.tuple t1;obtain⟨bO,q2,p2,_⟩:=I.tuple t2;cases q1;obtain⟨⟨cls,dd,data,sl⟩,ho,hc,n,hd⟩:=id p1;obtain⟨⟨Sz,Jw,data2,HW⟩,uA,oX,n2,hd2⟩:=id p2;simp only at hc hd oX hd2;subst hc hd oX hd2;exact concat_meets ⟨_,ho,rfl⟩ ⟨_,uA,rfl⟩ noFill_tuple_add seq_tuple_add PySem.F.slot_tuple_add PySem.F.entry_tuple_add (PySem.F.args_tuple_add_2 _ _)
  (tuple_addW0 a b _ bO.toArray n n2 dd Jw sl HW (by simp)) ⟨ho,uA,q⟩
theorem mul_str{pins:List (Addr×Obj)}{s:Shared}{σ:St}{H:Hp}{x:Str}{j:Int}{t t':Tok}{Q:VK}(I:Inv X pins σ H s)(n1:2<=j)(n2:j<1000)(n3:0<x.length)(n4:x.length<1000)(q:Q (.str (Bt x j.toNat)) H) :
  wpAny (model X.prog X.w) X.A (binaryOp .Mult (.str x t) (.int j t')) (EP X pins σ Q) X.xe s:=by
 have hb:x.length*j.toNat<1000000:=by
  have h1:x.length*j.toNat<=999*j.toNat:=Nat.mul_le_mul_right _ (by first|lia|omega)
  first|lia|omega
 have e:PySem.Txt.mul x j=Bt x j.toNat:=by
  unfold PySem.Txt.mul Bt;rw[if_neg (by first|lia|omega),if_neg (by simp;omega)]
 have ok:PySem.MulOk x j:=by
  refine⟨by simp;omega,fun _ _=>?_,fun _ _=>?_⟩
  ·have:(1000:Int)<=(2 ^ 63-1:Int) / j:=Int.le_ediv_of_mul_le (by first|lia|omega) (by first|lia|omega)
   first|lia|omega
  ·unfold Builtin.Str.tooLong zq
   exact decide_eq_false (by first|lia|omega)
 refine PySem.SB.mul ok fun t2 k2=>?_;rw[e];exact⟨.str _,H,I.tok _,⟨t2,rfl⟩,q⟩
theorem MP(op:Operator):cQ X (binaryOp op) (AM X.K (eT op)):=by
 intro pins s σ H x y v u Q I rx ry h;obtain⟨ι,M,M',dx,dy,d,S,r1,r2,e,k⟩:=h;have fin:∀{w':V},M'=M->Rep X.K ι H d w'->Q w' H:=fun {w'} z r=>by subst z;exact k w' H ι r S Ext.refl
 cases op
 case Add =>
  cases dx <;> first|exact(ai e).elim|(cases dy <;> first|exact(ai e).elim|skip)
  ·delta eT at e
   dsimp only at e;have e0:=ah e;clear e;obtain⟨rfl,rfl⟩:=e0;cases r1;cases r2;exact MQ pins s σ H _ _ v u Q I rx ry ⟨_,_,rfl,rfl,fin rfl (.int _)⟩
  ·delta eT at e
   dsimp only at e;have e0:=ae e;clear e;obtain⟨_,_,e1,e⟩:=e0;have aE:=aG e1;clear e1;obtain⟨hn,rfl⟩:=aE;have e0:=ah e;clear e;obtain⟨rfl,rfl⟩:=e0;cases r1;cases r2;exact B9 pins s σ H _ _ v u Q I rx ry ⟨_,_,rfl,rfl,hn,fin rfl (.str _)⟩
  ·delta eT at e
   dsimp only at e;have e0:=ae e;clear e;obtain⟨_,_,e1,e⟩:=e0;have aE:=aG e1;clear e1;obtain⟨hz,rfl⟩:=aE;have e0:=ah e;clear e;obtain⟨rfl,rfl⟩:=e0;cases r1 with
   |tup t1 q1 =>
    cases r2 with
    |tup t2 q2 =>
     rename_i a vs b us;by_cases hn:vs=[]
     ·subst hn
      cases q1;cases rx;cases ry;exact La I (bY t1) (bY t2) ⟨.ref _,H,I,rfl,k _ H ι (.tup t2 q2) S Ext.refl⟩
     ·refine Ks pins s σ H _ _ v u Q I rx ry ⟨_,_,_,_,rfl,rfl,bY t1,bY t2,hn,by rw[<- q1.length,<- q2.length];exact hz,fun z=>?_,fun z=>ke S (q1.append q2) k⟩
      subst z;cases q2;rw[zJ]at k;exact k _ H ι (.tup t1 q1) S Ext.refl
  ·delta eT at e
   dsimp only at e;have e0:=ae e;clear e;obtain⟨xs,_,e1,e⟩:=e0;have aE:=bB e1;clear e1;obtain⟨g1,rfl⟩:=aE;have e0:=ae e;clear e;obtain⟨ys,_,e1,e⟩:=e0;have aE:=bB e1;clear e1;obtain⟨g2,rfl⟩:=aE;have e0:=ae e;clear e;obtain⟨_,_,e1,e⟩:=e0;have aE:=aG e1;clear e1;obtain⟨hn,rfl⟩:=aE;obtain⟨a,vs,rfl,_,h3,h4⟩:=aK S r1 g1;obtain⟨b,us,rfl,_,h5,h6⟩:=aK S r2 g2;exact MN pins s σ H _ _ v u Q I rx ry ⟨a,b,vs,us,rfl,rfl,h3,h5,by rw[<- h4.length,<- h6.length];exact hn,fF S (h4.append h6) e k⟩
 case Sub =>
  cases dx <;> first|exact(ai e).elim|(cases dy <;> first|exact(ai e).elim|skip)
  ·delta eT at e
   dsimp only at e;have e0:=ah e;clear e;obtain⟨rfl,rfl⟩:=e0;cases r1;cases r2;exact MI pins s σ H _ _ v u Q I rx ry ⟨_,_,rfl,rfl,fin rfl (.int _)⟩
 case Mult =>
  cases dx <;> first|exact(ai e).elim|(cases dy <;> first|exact(ai e).elim|skip)
  ·delta eT at e
   dsimp only at e;have e0:=ae e;clear e;obtain⟨_,_,e1,e⟩:=e0;have aE:=aG e1;clear e1;obtain⟨hn,rfl⟩:=aE;have e0:=ah e;clear e;obtain⟨rfl,rfl⟩:=e0;cases r1;cases r2;exact MK pins s σ H _ _ v u Q I rx ry ⟨_,_,rfl,rfl,hn,fin rfl (.int _)⟩
  ·delta eT at e
   dsimp only at e;have e0:=ae e;clear e;obtain⟨_,_,e1,e⟩:=e0;have aE:=aG e1;clear e1;obtain⟨⟨n1,n2,n3,n4⟩,rfl⟩:=aE;have e0:=ah e;clear e;obtain⟨rfl,rfl⟩:=e0;cases r1;cases r2;obtain⟨t,rfl⟩:=rx;obtain⟨t',rfl⟩:=ry;exact mul_str I n1 n2 n3 n4 (fin rfl (.str _))
 case FloorDiv =>
  cases dx <;> first|exact(ai e).elim|(cases dy <;> first|exact(ai e).elim|skip)
  ·delta eT at e
   dsimp only at e;have e0:=ae e;clear e;obtain⟨_,_,e1,e⟩:=e0;have aE:=aG e1;clear e1;obtain⟨hn,rfl⟩:=aE;have e0:=ah e;clear e;obtain⟨rfl,rfl⟩:=e0;cases r1;cases r2;exact Kr pins s σ H _ _ v u Q I rx ry ⟨_,_,rfl,rfl,hn,fin rfl (.int _)⟩
 case Mod =>
  cases dx <;> first|exact(ai e).elim|(cases dy <;> first|exact(ai e).elim|skip)
  ·delta eT at e
   dsimp only at e;have e0:=ae e;clear e;obtain⟨_,_,e1,e⟩:=e0;have aE:=aG e1;clear e1;obtain⟨hn,rfl⟩:=aE;have e0:=ah e;clear e;obtain⟨rfl,rfl⟩:=e0;cases r1;cases r2;exact ML pins s σ H _ _ v u Q I rx ry ⟨_,_,rfl,rfl,hn,fin rfl (.int _)⟩
 case Pow =>
  cases dx <;> first|exact(ai e).elim|(cases dy <;> first|exact(ai e).elim|skip)
  ·delta eT at e
   dsimp only at e;have e0:=ae e;clear e;obtain⟨_,_,e1,e⟩:=e0;have aE:=aG e1;clear e1;obtain⟨hn,rfl⟩:=aE;have e0:=ah e;clear e;obtain⟨rfl,rfl⟩:=e0;cases r1;cases r2;exact MJ pins s σ H _ _ v u Q I rx ry ⟨_,_,rfl,rfl,hn,fin rfl (.int _)⟩
 all_goals exact(ai e).elim
theorem KJ(hu:X.A.units+100<cLine):AQ X (fun x y H Q=>∃a v,x=.ref a/\jc H a y (some v)/\Q v H):=by
 intro value slice pins s σ H x y v u Q I rx ry h hs;obtain⟨a,w',rfl,g,q⟩:=h;obtain rfl:v=Value.ref a:=rx;exact tail_any (vM I g) PySem.F.slot_dict_getitem.lookup (Fi (by first|lia|omega) I g ry fun w2 s3 I3 rw'=>⟨w',H,I3,rw',q⟩) hs
theorem Nm(hu:X.A.units+100<cLine):AQ X (AM X.K hV):=by
 intro value slice pins s σ H x y v u Q I rx ry h hs;obtain⟨ι,M,M',dx,dy,d,S,r1,r2,e,k⟩:=h;have fin:∀{w':V},M'=M->Rep X.K ι H d w'->Q w' H:=fun {w'} z r=>by subst z;exact k w' H ι r S Ext.refl
 unfold hV at e;split at e
 ·have e0:=bj e;clear e;obtain⟨e1,rfl⟩:=e0
  cases r2;cases r1 with
  |tup t q =>
   obtain⟨w',h1,h2⟩:=pZ q e1;exact Nk value slice pins s σ H _ _ v u Q I rx ry ⟨_,_,_,w',rfl,rfl,bY t,h1,fin rfl h2⟩ hs
 ·have e0:=bj e;clear e;obtain⟨e1,rfl⟩:=e0
  cases r2;cases r1 with
  |fl t q =>
   obtain⟨w',h1,h2⟩:=pZ q e1;exact mK value slice pins s σ H _ _ v u Q I rx ry ⟨_,_,_,w',rfl,rfl,t.seq,h1,fin rfl h2⟩ hs
 ·have e0:=ae e;clear e;obtain⟨_,_,e1,e⟩:=e0
  have aE:=aG e1;clear e1;obtain⟨hn,rfl⟩:=aE;have e0:=ae e;clear e;obtain⟨c,_,e1,e⟩:=e0;have aE:=bj e1;clear e1;obtain⟨hc,rfl⟩:=aE;have e0:=ah e;clear e;obtain⟨rfl,rfl⟩:=e0;cases r2;cases r1;exact Nl value slice pins s σ H _ _ v u Q I rx ry ⟨_,_,c,rfl,rfl,hn,hc,fin rfl (.str _)⟩ hs
 ·have e0:=ae e;clear e;obtain⟨o,_,e1,e⟩:=e0
  have aE:=eh e1;clear e1;obtain⟨g,rfl⟩:=aE;cases o with
  |lst ds =>
   dsimp only at e;split at e
   ·have e0:=bj e;clear e;obtain⟨e1,rfl⟩:=e0
    obtain⟨a,vs,rfl,_,h3,h4⟩:=aK S r1 g;cases r2;obtain⟨w',h1,h2⟩:=pZ h4 e1;exact mK value slice pins s σ H _ _ v u Q I rx ry ⟨_,_,_,w',rfl,rfl,aN.of h3,h1,fin rfl h2⟩ hs
   ·exact(ai e).elim
  |aW kvs =>
   have e0:=ae e;clear e;obtain⟨q,_,e1,e⟩:=e0;have aE:=bj e1;clear e1;obtain⟨hk,rfl⟩:=aE;have e0:=bj e;clear e;obtain⟨e1,rfl⟩:=e0;obtain⟨a,ws,rfl,_,h3,h4⟩:=dw S r1 g;have hy:=qj r2 hk;subst hy;rcases h4.find q with ⟨z1,z2⟩|⟨d',w',z1,z2,z3⟩
   ·rw[z1]at e1;cases e1
   ·rw[z1]at e1;cases e1
    have g2:jc H a (kV q) (some w'):=z2▸jc.k (k:=q) h3;exact KJ hu value slice pins s σ H _ _ v u Q I rx ry ⟨a,w',rfl,g2,fin rfl z3⟩ hs
  |ins _ _=>exact(ai e).elim
 ·exact(ai e).elim
noncomputable def Ow(K:Q_):De:=fun o i v H Q=>∃ι M M' x y z u,aJ K ι M H/\Rep K ι H x o/\Rep K ι H y i/\Rep K ι H z v/\setIx x y z M=some (.ok u,M') /\
 ∀H',aJ K ι M' H'->Ext K ι H ι H'->Q H'
theorem LU(hu:X.A.units+100<cLine):HF X (Ow X.K):=by
 intro pins s σ H o i v ov iv u Q I ro ri rv h;obtain⟨ι,M,M',x,y,z,w',S,r1,r2,r3,e,k⟩:=h;unfold setIx at e;split at e
 ·have e0:=ae e;clear e;obtain⟨ob,_,e1,e⟩:=e0
  have aE:=eh e1;clear e1;obtain⟨g,rfl⟩:=aE;cases ob with
  |lst ds =>
   dsimp only at e;split at e
   ·have e0:=ae e;clear e;obtain⟨j,_,e1,e⟩:=e0
    have aE:=bj e1;clear e1;obtain⟨hj,rfl⟩:=aE;have e0:=j0 e;clear e;obtain⟨_,rfl⟩:=e0;obtain⟨a,vs,rfl,hi,h3,h4⟩:=aK S r1 g;cases r2;refine set_list pins s σ H _ _ v ov iv u Q I ro ri rv ⟨a,vs,_,j,rfl,rfl,h3,by rw[<- h4.length];exact hj,?_⟩;have x:Ext X.K ι H ι (upd H a (.lst (vs.set j v))):=Ext.write h3 (oI _);exact k _ (S.put hi ⟨_,rfl,(h4.mono x).set (r3.mono x) j⟩) x
   ·exact(ai e).elim
  |aW kvs =>
   have e0:=ae e;clear e;obtain⟨q,_,e1,e⟩:=e0;have aE:=bj e1;clear e1;obtain⟨hk,rfl⟩:=aE;have e0:=ae e;clear e;obtain⟨_,_,e1,e⟩:=e0;have aE:=aG e1;clear e1;obtain⟨hn,rfl⟩:=aE;have e0:=j0 e;clear e;obtain⟨_,rfl⟩:=e0;obtain⟨a,ws,rfl,hi,h3,h4⟩:=dw S r1 g;have hy:=qj r2 hk;subst hy;obtain rfl:ov=Value.ref a:=ro;have x:Ext X.K ι H ι (upd H a (.dK (putK ws q v))):=Ext.write h3 (Cj _);refine Fh (by first|lia|omega) I (Dj.k (k:=q) h3 (by rw[<- h4.len];exact hn)) ri rv fun s4 I4=>⟨_,I4,?_⟩
   exact k _ (S.put hi ⟨_,rfl,(h4.mono x).put q (r3.mono x)⟩) x
  |ins _ _=>exact(ai e).elim
 ·exact(ai e).elim
end
end L3
namespace L3
open PySem PySem.Spec PyProof.Rows L2
end L3
namespace L3
open PySem PySem.Spec PyProof.Rows L2
section
variable {prog:Program}{w:World}{K:Type}[DecidableEq K]{knd:PySem.KeyKind prog w K}{A:Around}{E:Value->Shared->Prop}
end
end L3
namespace L3
open PySem PySem.Spec PyProof.Rows L2
section
variable {prog:Program}{w:World}{A:Around}{E:Value->Shared->Prop}{s:Shared}
theorem lI{t sl:Addr}{items:Array Value}{vl vu:Value}{lo hi:Option Int}{Q:Value->Shared->Prop}(ht:IsTup s.heap t items)(hs:s.heap.IsSliceOf sl vl vu .none)(pl:IsPart vl lo)(pu:IsPart vu hi)
  (hw:HT.bt items.size 0 lo=0/\HT.bt items.size items.size hi=items.size) (h:Q (.ref t) s):wpAny (model prog w) A (getItem (.ref t) (.ref sl)) Q E s:=by
 obtain⟨os,uy,Jh,oU⟩:=id hs;have ET:s.TypeIs (.ref sl) "slice":=⟨os,uy,Jh⟩;unfold getItem
 try with_reducible refine wpAny_holding ?_
 first|refine zz (zt ?_)|skip
 refine zz (wpAny_sequenceKey ht.typeIs (by decide) ?_);refine zz (wpAny_callSpecial?_slot (name:=Str.ofString "__getitem__") ht.typeIs z_
  (wpAny_call_entry z_ ht.typeIs entry_tuple_getitem ?_ (args_tuple_getitem _ _)))
 show wpAny _ _ (Builtin.Tuple.tupleItemsOf (.ref t) >>= _) _ _ s;refine zz (tupleItemsOf_ ht ?_);refine zz (wpAny_typeOf ET ?_);rw[if_pos (by decide)];refine zz (HT.iS hs pl pu ?_);have Sd:(((HT.bt items.size 0 lo:Nat):Int)==0&&(1:Int)==1&&(HT.bt items.size items.size hi-HT.bt items.size 0 lo)==items.size)=true:=by
  rw[hw.1,hw.2];simp
 show wpAny _ _ (if (((HT.bt items.size 0 lo:Nat):Int)==0&&(1:Int)==1&&(HT.bt items.size items.size hi-HT.bt items.size 0 lo)==items.size)=true then _ else _) _ _ s;rw[if_pos Sd];refine zz ?_;refine zz (wpAny_typeOf ht.typeIs ?_);refine zt ?_;rw[if_pos (by decide)];refine zz (wpAny_rule ?_)
 first
  |exact zz (zt (zt ⟨_,rfl,zt h⟩))
  |exact zt ⟨_,rfl,zt h⟩
  |exact zz (zt ⟨_,rfl,zt h⟩)
end
theorem oj{M:Model}{A:Around}{E:Value->Shared->Prop}{s:Shared}{β:Type}(r:Std.Legacy.Range)(f:Nat->β->Sem (ForInStep β))(I:List Nat->β->Shared->Prop)(Q:β->Shared->Prop){b:β}
  (turn:∀a rest b s',I (a::rest) b s'->wpAny M A (f a b) (fun step s''=>match step with
   |.yield b'=>I rest b' s''
   |.done b'=>Q b' s'') E s')
  (fin:∀b s',I [] b s'->Q b s') (h:I (wJ r.start r.size r.step) b s):wpAny M A (forIn r b f) Q E s:=by
 rw[Std.Legacy.Range.forIn_eq_forIn_range'];exact wpAny_forIn_list f I Q turn fin _ _ h
theorem rL(l:Addr)(items:Array Value)(n:Nat)(dd:Option Addr)(sl:Array (Option Value))(x:Value)(e:Value->Bool)(j:Nat)(hj:j<items.size)(hit:e items[j]=true)(NF:∀m (hm:m<items.size),m<j->e items[m]=false) :
  Meets (Builtin.«tuple.index» ⟨[.ref l,x],[]⟩)
   (fun A R s=>s.heap.get? l=some { cls:=.type "tuple",dict:=dd,data:=.seq items n,slots:=sl }/\(∀y,y∈items->SeqAt.EqAt A.in1 s y x (e y))/\R (.ok (.ret (.int j s.toks))) { s with toks:=s.toks+1 }) :=
 .of_wp fun prog w A R s h=>by
  obtain⟨hp,g,d,tk,os⟩:=s;obtain⟨hl,he,h⟩:=h;wp_walk using AutoSeq1.wpAny_loadPart' hl,oj _ _ (fun rest b s'=>b.1=none/\s'=⟨hp,g,d,tk,os⟩/\∃i,i<=j/\rest=wJ i (items.size-i)) _
  case turn =>
   rintro a rest b s' ⟨hb,rfl,i,hi,hr⟩;have bW:i<items.size:=by first|lia|omega
   have e1:items.size-i=(items.size-(i+1))+1:=by first|lia|omega
   rw[e1,List.range'_succ]at hr;injection hr with r1 r2
   subst r1;have hm:items[a]?=some items[a]:=yO bW;rw[hm];refine zz (he items[a] (Array.getElem_mem bW) prog w _ _ ?_);by_cases lA:a=j
   ·subst lA
    rw[hit];wp_walk;exact⟨_,rfl,h⟩
   ·rw[NF a bW (by first|lia|omega)]
    wp_walk;exact⟨rfl,rfl,a+1,by omega,r2⟩
  case fin =>
   rintro ⟨b1,b2⟩ s' ⟨hb,rfl,i,hi,hr⟩
   have:=congrArg List.length hr
   rw[List.length_range']at this;simp at this;first|lia|omega
  case h =>
   refine⟨rfl,rfl,0,zZ _,?_⟩;show wJ 0 ((min items.size items.size-0+1-1) / 1) 1=_;simp
section
variable {X:Cx}
noncomputable def JE(T:String)(name:Str)(id:String):Prop:=PlainAttrs T/\Slot T name id/\typeOf (.builtin id)=pure (.type "method_descriptor")
noncomputable def pP(X:Cx)(T:String)(x:V)(H:Hp):Prop:=∀(pins:List (Addr×Obj)) (σ:St) (s:Shared) (v:Value),Inv X pins σ H s->RelV x v->s.TypeIs v T/\∀a,v=.ref a->∃ob,s.heap.get? a=some ob/\ob.dict=none
noncomputable def Lx(X:Cx)(name:Str)(r:String->V->List V->Hp->VK->Prop)(to:TE)(t:TA):TE:=fun σ H Q=>to σ H fun x H1=>∃T id,JE T name id/\pP X T x H1/\t σ H1 fun xs H2=>r id x xs H2 Q
theorem ME{name:Str}{r:String->V->List V->Hp->VK->Prop}{o e:Expr}{es:List Expr}{to:TE}{t:TA}{apos cpos:Pos}(hm:∀id,nq X id (r id))(ho:PE X o to)(ha:PA X (e::es) t)
  (oY:attributeBase o name X.env (eval o X.env)=eval o X.env)
  (G7:((backTo cpos (starEach (e::es) X.env)).all (fun x=>!x.1)&&(backToKw cpos (keywordEach [] X.env)).all (fun x=>x.1.isSome)
  &&decide ((e::es).length+([]:List Keyword).length+(if ([]:List Keyword).isEmpty then 0 else 1)<30))=true)
  (kS:(apos.endLine==cpos.line)=true) (hs:starEach (e::es) X.env=(false,eval e X.env)::starEach es X.env) (ux:(backTo cpos (starEach es X.env)).any (·.1)=false) :
  PE X (.Call (.Attribute o name apos) (e::es) [] cpos) (Lx X name r to t):=by
 intro pins s σ H Q I h;refine wpAny_Call_method_late oY G7 kS rfl (aH (ho pins s σ H _ I h) fun v s1 ⟨x,H1,I1,r1,T,id,⟨pa,slot,ED⟩,ty,q1⟩=>?_);obtain⟨h1,h2⟩:=ty pins σ s1 v I1 r1;refine⟨T,id,pa,slot,ED,h1,h2,?_⟩;have hA:=ha cpos pins s1 σ H1 _ I1 q1;rw[hs]at hA ⊢;refine Calls.callWith_builtin (by show (false||(backTo cpos (starEach es X.env)).any (·.1))=false;rw[ux] <;> rfl) (Calls.evalArgs_plain ?_);exact aH hA fun us s2 ⟨vs,H2,I2,r2,q2⟩=>hm id pins s2 σ H2 x vs v us Q I2 r1 r2 q2
theorem kD{a:Addr}{xs:List V}{H:Hp}(h:aN X.K H a xs):pP X "list" (.ref a) H:=fun pins σ s v I r=>jZ I r (.inl ⟨rfl,xs,h⟩)
theorem z8{y:Str}{H:Hp}:pP X "str" (.str y) H:=fun pins σ s v I r=>jZ (X:=X) I r rfl
theorem Kb{a:Addr}{xs:List V}{H:Hp}(h:cD X.K H a xs):pP X "tuple" (.ref a) H:=fun pins σ s v I r=>by
 cases r;obtain⟨its,_,p,_⟩:=I.tuple h;obtain⟨o,e,d,_⟩:=I.qF h;exact⟨p.typeIs,fun b eb=>by cases eb;exact⟨o,e,d⟩⟩
theorem my{K:Q_}{ι:List Addr}{H:Hp}{d:D}{vs:List V}(r:aB K ι H [d] vs):∃v,vs=[v]/\Rep K ι H d v:=by
 cases r with|cons r1 r2=>cases r2;exact⟨_,rfl,r1⟩
theorem kG{K:Q_}{ι:List Addr}{M M':MH}{H:Hp}{k:Nat}{a:Addr}{ds es:List D}{vs ws:List V}{u:Unit}(S:aJ K ι M H)(hi:ι[k]?=some a)(ha:H a=some (.lst vs))(r:aB K ι H es ws)(e:cY k (.lst es) M=some (.ok u,M')) :
  aJ K ι M' (upd H a (.lst ws))/\Ext K ι H ι (upd H a (.lst ws)):=by
 have e0:=j0 e;clear e;obtain⟨_,rfl⟩:=e0;have x:Ext K ι H ι (upd H a (.lst ws)):=Ext.write ha (oI _);exact⟨S.put hi ⟨_,rfl,r.mono x⟩,x⟩
theorem Ck:nq X "list.extend" (fun x vs H Q=>∃l b xs zs,x=.ref l/\vs=[.ref b]/\H l=some (.lst xs)/\cD X.K H b zs/\xs.length+zs.length<=zq/\Q .non (upd H l (.lst (xs++zs)))):=by
 intro pins s σ H x vs v us Q I rx rv h;obtain⟨l,b,xs,zs,rfl,rfl,hH,hB,hz,q⟩:=h;cases rx;obtain⟨u,rfl,ru⟩:=rv.one;cases ru;obtain⟨z,its,n,r,hl,e⟩:=I.nO hH;obtain⟨bO,r2,⟨⟨cls,dd,data,sl⟩,ho,hc,n2,hd⟩,z2⟩:=I.tuple hB;obtain⟨o2,e2,d2,d3⟩:=I.qF hB;rw[ho]at e2;cases e2;simp only at hc hd d2 d3;subst hc hd d2 d3;have qW:=r2.length;have hsz:its.toArray.size+bO.toArray.size<=zq:=by rw[zo,zo];omega
 have CD:¬ (!its.toArray.isEmpty&&Builtin.List.listTooLong (its.toArray.size+bO.toArray.size))=true:=by
  rw[t6 hsz,wP];exact zu
 refine call_meets F.slot_list_extend ⟨_,e,rfl⟩ F.entry_list_extend (F.args_list_extend_2 _ _)
  (AutoSeq1.list_extend_list_tuple_0 l its.toArray n b bO.toArray n2 CD (by rw[zo];omega) (by first|lia|omega)) ⟨e,ho,?_⟩
 refine⟨.non,_,I.qi (its':=its++bO) hH e (by simp) (r.append r2) ?_,rfl,q⟩;rw[ze];first|lia|omega
noncomputable def DR(K:Q_)(T:Bool):V->List V->Hp->VK->Prop:=fun x vs H Q=>∃l xs y j,x=.ref l/\vs=[y]/\(if T then cD K H l xs else aN K H l xs)/\gj y=true/\xs.all gj=true/\xs.findIdx? (fun z=>lC z y)=some j/\Q (.int (j:Nat)) H
theorem uw{xs:List V}{us:List Value}{y:V}{j:Nat}(r:Vals xs us)(hf:xs.all gj=true)(h:xs.findIdx? (fun z=>lC z y)=some j) :
  ∃hj:j<us.toArray.size,uL y us.toArray[j]=true/\∀m (hm:m<us.toArray.size),m<j->uL y us.toArray[m]=false:=by
 obtain⟨h1,h2,h3⟩:=yb.mp h;have hl:=r.length;have val:∀m (hm:m<us.toArray.size) (hm':m<xs.length),uL y us.toArray[m]=lC xs[m] y:=fun m hm hm'=>by
  obtain⟨u,e1,e2⟩:=r.get (zr hm');have e3:us.toArray[m]=u:=by
   have:=(zw.mp e1).2
   simpa using this
  rw[e3];exact E8 e2 (zD.mp hf _ (yM hm'))
 refine⟨by rw[zo];omega,?_,fun m hm VP=>?_⟩
 ·rw[val j _ h1];exact h2
 ·rw[val m _ (by first|lia|omega)]
  have:=h3 m VP
  simpa using this
theorem Ec:nq X "list.index" (DR X.K false):=by
 intro pins s σ H x vs v us Q I rx rv h;obtain⟨l,xs,y,j,rfl,rfl,hs,fy,fx,hj,q⟩:=h;cases rx;obtain⟨u,rfl,ru⟩:=rv.one;obtain⟨its,r,p,hz⟩:=I.list (by simpa using hs);obtain⟨⟨cls,dd,data,sl⟩,ho,hc,n,hd⟩:=id p.isList;simp only at hc hd;subst hc hd;obtain⟨h1,h2,h3⟩:=uw r fx hj;have hb:j<2 ^ 62:=by
  have:=r.length
  rw[zo]at h1;unfold zq at hz;first|lia|omega
 refine call_meets PySem.F.slot_list_index ⟨_,ho,rfl⟩ PySem.F.entry_list_index (PySem.F.args_list_index_2 _ _) (SeqAt.list_indexAt l its.toArray n dd sl u (uL y) j h1 (by first|lia|omega) h2 h3) ⟨ho,fun z hz'=>nN ru fy r fx z (by simpa using hz'),?_⟩
 exact⟨.int (j:Nat),H,I.tok _,⟨_,rfl⟩,q⟩
theorem Eb:nq X "tuple.index" (DR X.K true):=by
 intro pins s σ H x vs v us Q I rx rv h;obtain⟨l,xs,y,j,rfl,rfl,hs,fy,fx,hj,q⟩:=h;cases rx;obtain⟨u,rfl,ru⟩:=rv.one;obtain⟨its,r,p,hz⟩:=I.tuple (by simpa using hs);obtain⟨⟨cls,dd,data,sl⟩,ho,hc,n,hd⟩:=id p;simp only at hc hd;subst hc hd;obtain⟨h1,h2,h3⟩:=uw r fx hj;refine call_meets PySem.F.slot_tuple_index ⟨_,ho,rfl⟩ PySem.F.entry_tuple_index (PySem.F.args_tuple_index_2 _ _) (rL l its.toArray n dd sl u (uL y) j h1 h2 h3) ⟨ho,fun z hz'=>nN ru fy r fx z (by simpa using hz'),?_⟩;exact⟨.int (j:Nat),H,I.tok _,⟨_,rfl⟩,q⟩
theorem Hf(t:Str)(ys:List Str):Builtin.Str.glued t ys=jj t ys:=by
 have gen:∀(ys:List Str) (acc:Array Nat),(ys.foldl (fun acc p=>acc++t.cps++p.cps) acc).toList=acc.toList++(ys.map fun p=>t.cps.toList++p.cps.toList).flatten:=by
  intro ys;induction ys with
  |nil=>intro acc;simp
  |cons y r ih =>
   intro acc;rw[List.foldl_cons,ih];simp
 have gl:∀(y:Str) (r:List Str),glue t.cps.toList ((y::r).map (·.cps.toList))=y.cps.toList++(r.map fun p=>t.cps.toList++p.cps.toList).flatten:=by
  intro y r;induction r generalizing y with
  |nil=>simp[glue]
  |cons z r ih =>
   show y.cps.toList++t.cps.toList++glue t.cps.toList ((z::r).map (·.cps.toList))=_;rw[ih];simp
 unfold Builtin.Str.glued jj;congr 1;apply xM.mp;cases ys with
 |nil=>rfl
 |cons y r =>
  rw[gl];simp only[List.drop_succ_cons,xw,List.headD_cons];rw[gen]
noncomputable def rJoin(K:Q_):V->List V->Hp->VK->Prop:=fun x vs H Q=>∃t l ys,x=.str t/\vs=[.ref l]/\aN K H l (ys.map V.str)/\(ys.map (·.length)).sum+ys.length*t.length<=16777216/\Q (.str (jj t ys)) H
theorem sV:∀{ys:List Str} {us:List Value},Vals (ys.map V.str) us->StrsAre us ys
 |[],_,.nil=>.nil
 |y::ys,_,.cons ⟨t,e⟩ r=>by subst e;exact .cons y t (sV r)
noncomputable def O4:V->List V->Hp->VK->Prop:=fun x vs H Q=>∃a b,x=.str a/\vs=[.str b]/\Q (.int (findS a b)) H
theorem Kz:nq X "str.find" O4:=by
 intro pins s σ H x vs v us Q I rx rv h;obtain⟨a,b,rfl,rfl,q⟩:=h;obtain⟨tk,rfl⟩:=rx;obtain⟨u,rfl,ru⟩:=rv.one;obtain⟨t2,rfl⟩:=ru;exact SC.find ⟨.int _,H,I.tok _,⟨_,rfl⟩,q⟩
theorem Kx:nq X "str.join" (rJoin X.K):=by
 intro pins s σ H x vs v us Q I rx rv h;obtain⟨t,l,ys,rfl,rfl,hs,hz,q⟩:=h;obtain⟨tk,rfl⟩:=rx;obtain⟨u,rfl,ru⟩:=rv.one;cases ru;obtain⟨its,r,p,_⟩:=I.list hs;refine PyProof.Rows.join_list p.isList (sV (by simpa using r)) hz fun t' k=>?_;have e:PySem.Txt.join t ys=jj t ys:=Hf t ys;rw[e];exact⟨.str _,H,I.tok _,⟨t',rfl⟩,q⟩
end
end L3
namespace L3
open PySem PySem.Spec PyProof.Rows L2
theorem TK(xs:List V)(lo hi:Option Int):nW xs lo hi=cutD xs lo hi:=rfl
theorem nC{K:Q_}{ι:List Addr}{H:Hp}{ds:List D}{vs:List V}(r:aB K ι H ds vs)(lo hi:Option Int):aB K ι H (cutD ds lo hi) (cutD vs lo hi):=by
 unfold cutD;rw[<- r.length];exact(r.drop _).take _
theorem rm{α:Type}{xs:List α}{lo hi:Option Int}(h:(cutD xs lo hi).length=xs.length):cutD xs lo hi=xs:=by
 unfold cutD at h ⊢;rw[zW,zX]at h;have h1:dD xs.length 0 lo=0\/xs.length=0:=by first|lia|omega
 rcases h1 with h1|h1
 ·rw[h1]at h ⊢
  rw[xw,xv (by first|lia|omega)]
 ·have e:xs=[]:=xN.mp h1
  subst e;simp
section
variable {X:Cx}
theorem DF(x:Str)(lo hi:Option Int):Txt.slice x lo hi=⟨(cutD x.cps.toList lo hi).toArray⟩:=by
 have ext:∀(a b:Str),a.cps.toList=b.cps.toList->a=b:=fun a b h=>by
  cases a;cases b;simp only at h;congr 1;exact xM.mp h
 have uk:x.length=x.cps.toList.length:=by simp[Str.length]
 have key:∀(i j n:Nat),i<=n->j<=n->Builtin.Str.strSliceIndices lo hi 1 n=sliceRange (i:Int) (j:Int) 1->((Builtin.Str.strSliceIndices lo hi 1 n).filterMap (x.cps[·]?))=((x.cps.toList.drop i).take (j-i))\/n≠x.length:=by
  intro i j n hi' hj e;by_cases hn:n=x.length
  ·left
   rw[e];unfold sliceRange;simp only[show (1:Int) > 0 by decide,if_true];have hc:(if (i:Int)<(j:Int) then ((j:Int)-(i:Int)+1-1) / 1 else 0).toNat=j-i:=by split <;> omega
   rw[hc,xf];have hf:((fun k=>x.cps[k]?) ∘ fun (k:Nat)=>((i:Int)+1*(k:Int)).toNat)=fun k:Nat=>x.cps.toList[i+k]?:=by
    funext k;simp only[Function.comp]
    have:((i:Int)+1*(k:Int)).toNat=i+k:=by first|lia|omega
    rw[this];simp
   rw[hf];have hlen:j<=x.cps.toList.length:=by rw[<- uk,<- hn];exact hj
   clear e hc hf;have gen:∀(m:Nat) (l:List Nat),m<=l.length->(List.range m).filterMap (fun k=>l[k]?)=l.take m:=by
    intro m;induction m with
    |zero=>intro l _;rfl
    |succ m ih =>
     intro l hl;cases l with
     |nil=>simp at hl
     |cons a r =>
      rw[xQ,yk];simp only[List.getElem?_cons_zero,wy,xf];congr 1;rw[<- ih r (by simpa using hl)];rfl
   have PB:∀k:Nat,x.cps.toList[i+k]?=(x.cps.toList.drop i)[k]?:=fun k=>by rw[wm]
   simp only[PB];exact gen (j-i) (x.cps.toList.drop i) (by rw[zX];omega)
  ·exact .inr hn
 have hbnd:∀(o:Option Int) (d n:Nat),d<=n->dD n d o<=n:=fun o d n hd=>by
  cases o with
  |none=>exact hd
  |some v=>simp only[dD];split <;> omega
 have NJ:Builtin.Str.strSliceIndices lo hi 1 x.length=sliceRange ((dD x.length 0 lo:Nat):Int) ((dD x.length x.length hi:Nat):Int) 1:=by
  unfold Builtin.Str.strSliceIndices;have c:∀(o:Option Int) (d:Nat),(match o with
    |none=>(d:Int)
    |some i=>max 0 (min (if i<0 then i+(x.length:Int) else i) (x.length:Int)))=((dD x.length d o:Nat):Int):=fun o d=>by
   cases o with
   |none=>rfl
   |some v=>simp only[dD];split <;> omega
  have c1:=c lo 0;have c2:=c hi x.length;simp only[show (1:Int) > 0 by decide,if_true]at c1 c2 ⊢;rw[<- c1,<- c2];cases lo <;> cases hi <;> rfl
 have hk:=key _ _ _ (hbnd lo 0 x.length (zZ _)) (hbnd hi x.length x.length (zp _)) NJ;rcases hk with hk|hk
 ·have So:((Builtin.Str.strSliceIndices lo hi 1 x.length).filterMap (x.cps[·]?))=cutD x.cps.toList lo hi:=by
   rw[hk];unfold cutD;rw[<- uk]
  have hlen:(Builtin.Str.strSliceIndices lo hi 1 x.length).length=(cutD x.cps.toList lo hi).length:=by
   rw[NJ];unfold sliceRange cutD;rw[<- uk,zW,zX,<- uk];simp only[show (1:Int) > 0 by decide,if_true,zl,yG];have b1:=hbnd lo 0 x.length (zZ _);have b2:=hbnd hi x.length x.length (zp _);split <;> omega
  unfold Txt.slice;split
  ·rename_i hw
   apply ext;show x.cps.toList=cutD x.cps.toList lo hi;symm;apply rm;rw[<- hlen];simp at hw;rw[hw,uk]
  ·rw[So]
 ·exact absurd rfl hk
theorem LP:FD X (fun x lo hi H Q=>∃y,x=.str y/\y.length<=zq/\Q (.str ⟨(cutD y.cps.toList lo hi).toArray⟩) H):=by
 intro pins s σ H x v vl vu lo hi sl Q I rx hs pl pu h;obtain⟨y,rfl,hy,q⟩:=h;obtain⟨t,rfl⟩:=rx;refine⟨"str",_,PySem.F.slot_str_getitem.lookup,typeIs_str _ _ _,?_⟩;have part:∀{u:Value} {o:Option Int},IsPart u o->∃p:Option (Int×Tok),partValue p=u/\p.map (·.1)=o:=fun {u o} z=>by
  cases z
  ·exact⟨none,rfl,rfl⟩
  ·exact⟨some (_,_),rfl,rfl⟩
 obtain⟨l,e1,e2⟩:=part pl;obtain⟨r,e3,e4⟩:=part pu;have hs':s.heap.IsSlice sl l r none:=by
  obtain⟨o,h1,h2,h3⟩:=hs;exact⟨o,h1,h2,by rw[h3,<- e1,<- e3];rfl⟩
 refine wpAny_getItem_str_slice hs' rfl ?_;have e:(if (((none:Option (Int×Tok)).map (·.1)).getD 1==1&&(slicePicked y l r none).length==y.length)=true then y else ⟨((slicePicked y l r none).filterMap (y.cps[·]?)).toArray⟩)=Txt.slice y lo hi:=by
  unfold slicePicked Txt.slice;rw[e2,e4];rfl
 refine post_val_or_str ?_;rw[e];refine⟨zN (Txt.slice_le y _ _) hy,fun t' k=>?_⟩;rw[DF];exact⟨.str _,H,I.tok _,⟨t',rfl⟩,q⟩
noncomputable def Rb(K:Q_):V->Option Int->Option Int->Hp->VK->Prop:=fun x lo hi H Q=>∃ι M M' dx d,aJ K ι M H/\Rep K ι H dx x/\fR dx lo hi M=some (.ok d,M') /\
 ∀v H' ι',Rep K ι' H' d v->aJ K ι' M' H'->Ext K ι H ι' H'->Q v H'
theorem LQ:FD X (Rb X.K):=by
 intro pins s σ H x v vl vu lo hi sl Q I rx hs pl pu h;obtain⟨ι,M,M',dx,d,S,r,e,k⟩:=h;cases r with
 |str y =>
  have e0:=ae e;clear e;obtain⟨_,_,e1,e⟩:=e0;have aE:=aG e1;clear e1;obtain⟨hn,rfl⟩:=aE;have e0:=ah e;clear e;obtain⟨rfl,rfl⟩:=e0;exact LP pins s σ H _ v vl vu lo hi sl Q I rx hs pl pu ⟨y,rfl,hn,k _ H ι (.str _) S Ext.refl⟩
 |ob t =>
  have e0:=ae e;clear e;obtain⟨ds,_,e1,e⟩:=e0;have aE:=bB e1;clear e1;obtain⟨g,rfl⟩:=aE;obtain⟨a,vs,h1,_,h3,h4⟩:=aK S (.ob t) g;cases h1;exact w6 pins s σ H _ v vl vu lo hi sl Q I rx hs pl pu ⟨_,vs,rfl,aN.of h3,fF S (nC h4 lo hi) e k⟩
 |fl t q=>exact w6 pins s σ H _ v vl vu lo hi sl Q I rx hs pl pu ⟨_,_,rfl,t.seq,fF S (nC q lo hi) e k⟩
 |tup t q =>
  have e0:=ah e;clear e;obtain⟨rfl,rfl⟩:=e0;rename_i a vs ds;by_cases hn:dD ds.length 0 lo=0/\dD ds.length ds.length hi=ds.length
  ·cases rx
   obtain⟨its,r,ht,hz⟩:=I.tuple (bY t);have hlen:its.toArray.size=ds.length:=by rw[zo,<- r.length,q.length]
   refine⟨"tuple",_,PyProof.Rows.slot_tuple_getitem.lookup,ht.typeIs,lI ht hs pl pu (by rw[hlen];exact hn) ⟨.ref a,H,I,rfl,?_⟩⟩;have e:cutD ds lo hi=ds:=rm (by
    unfold cutD;rw[hn.1,hn.2,xw,xS,zY])
   rw[e]at k;exact k _ H ι (.tup t q) S Ext.refl
  ·exact LN pins s σ H _ v vl vu lo hi sl Q I rx hs pl pu ⟨_,_,rfl,bY t,by rw[<- q.length];exact hn,ke S (nC q lo hi) k⟩
 |_=>exact(ai e).elim
theorem JY:Ou X (fun x H Q=>∃ι M M' d b,aJ X.K ι M H/\Rep X.K ι H d x/\kx d M=some (.ok b,M')/\(M'=M->Q b H)):=by
 intro pins s σ H x v Q I rx h;obtain⟨ι,M,M',d,b,S,r,e,k⟩:=h;refine Lp pins s σ H x v Q I rx ?_;cases r with
 |non=>have e0:=ah e;clear e;obtain⟨rfl,rfl⟩:=e0;exact⟨_,rfl,k rfl⟩
 |bl c=>have e0:=ah e;clear e;obtain⟨rfl,rfl⟩:=e0;exact⟨_,rfl,k rfl⟩
 |int i=>have e0:=ah e;clear e;obtain⟨rfl,rfl⟩:=e0;exact⟨_,rfl,k rfl⟩
 |str y =>
  have e0:=ae e;clear e;obtain⟨_,_,e1,e⟩:=e0;have aE:=aG e1;clear e1;obtain⟨hn,rfl⟩:=aE;have e0:=ah e;clear e;obtain⟨rfl,rfl⟩:=e0;exact⟨_,⟨hn,rfl⟩,k rfl⟩
 |tup t q =>
  have e0:=ah e;clear e;obtain⟨rfl,rfl⟩:=e0;refine⟨_,.inr (.inl ⟨_,bY t,rfl⟩),?_⟩;cases q <;> exact k rfl
 |fl t q =>
  have e0:=ah e;clear e;obtain⟨rfl,rfl⟩:=e0;refine⟨_,.inl ⟨_,t.seq,rfl⟩,?_⟩;cases q <;> exact k rfl
 |ob t =>
  have e0:=ae e;clear e;obtain⟨o,_,e1,e⟩:=e0;have aE:=eh e1;clear e1;obtain⟨g,rfl⟩:=aE;cases o with
  |lst ds =>
   have e0:=ah e;clear e;obtain⟨rfl,rfl⟩:=e0;obtain⟨a,vs,h1,_,h3,h4⟩:=aK S (.ob t) g;cases h1;refine⟨_,.inl ⟨_,aN.of h3,rfl⟩,?_⟩;cases h4 <;> exact k rfl
  |ins _ _=>exact(ai e).elim
  |aW kvs =>
   have e0:=ah e;clear e;obtain⟨rfl,rfl⟩:=e0;obtain⟨a,vs,h1,_,h3,h4⟩:=dw S (.ob t) g;cases h1;refine⟨_,.inr (.inr ⟨_,h3,rfl⟩),?_⟩;cases h4 <;> exact k rfl
noncomputable def Rc(K:Q_)(g:List D->Mo D):List V->Hp->VK->Prop:=fun xs H Q=>∃ι M M' ds d,aJ K ι M H/\aB K ι H ds xs/\g ds M=some (.ok d,M') /\
 ∀v H' ι',Rep K ι' H' d v->aJ K ι' M' H'->Ext K ι H ι' H'->Q v H'
theorem nX{K:Q_}{ι:List Addr}{H:Hp}:∀{ds:List D} {vs:List V} {bs:List Bool},aB K ι H ds vs->ds.mapM bD=some bs->vs=bs.map V.bl
 |_,_,_,.nil,h=>by simp at h;subst h;rfl
 |_,_,_,.cons (d:=d) r t,h=>by
  rw[xA]at h;simp only[wx,xO,wK,Option.some.injEq]at h;obtain⟨b,hb,bs',qY,rfl⟩:=h;rw[nX t qY];cases r <;> simp[bD]at hb;subst hb;rfl
theorem all_range(bs:List Bool):((List.range bs.length).all fun i=>bs.getD i false)=bs.all id:=by
 rw[xl];simp only[zD,xz];constructor
 ·intro h b hb
  obtain⟨i,hi,rfl⟩:=yB hb
  have:=h i hi
  rw[zT,zr hi]at this;exact this
 ·intro h i hi
  rw[zT,zr hi];exact h _ (yM hi)
theorem any_range(bs:List Bool):((List.range bs.length).any fun i=>bs.getD i false)=bs.any id:=by
 rw[xl];simp only[xr,xz];constructor
 ·rintro ⟨i,hi,h⟩
  rw[zT,zr hi]at h;exact⟨_,yM hi,h⟩
 ·rintro ⟨b,hb,h⟩
  obtain⟨i,hi,rfl⟩:=yB hb;refine⟨i,hi,?_⟩;rw[zT,zr hi];exact h
theorem pL(hc:X.calm=true){pins:List (Addr×Obj)}{s:Shared}{σ:St}{H:Hp}{a:Addr}{bs:List Bool}{Q:Value->Shared->Prop}(f:Nat->(Nat->Bool)->Bool)(I:Inv X pins σ H s)(h:H a=some (.lst (bs.map V.bl)))
  (q:∀s',Inv X pins σ H s'->Q (.bool (f bs.length fun i=>bs.getD i false)) s') :
  wpAny (model X.prog X.w) X.A.in1 (pyIter (.ref a)) (fun it s₂=>∃I fp wr n P St tr,it=.ref I/\Walks X.prog X.w X.A.in1 I fp wr n P St/\St 0 s₂.heap/\TruthOf X.prog X.w X.A.in1 P tr /\
   ∀h' tk,(∀b o,b ∉ wr->s₂.heap.get? b=some o->h'.get? b=some o)->Q (.bool (f n tr)) { s₂ with heap:=h',toks:=tk }) X.xe s:=by
 obtain⟨its,rv,p,hz⟩:=I.list (aN.of h);have bW:a<s.heap.objs.size:=by obtain⟨_,_,e,_⟩:=p;exact zn e
 have hlen:its.toArray.size=bs.length:=by have:=rv.length;simp at this ⊢;omega
 refine wpAny_pyIter_list p.isList ?_;have hh:X.A.in1.handled=none:=I.ok.hd hc;refine⟨s.heap.objs.size,_,_,_,_,_,fun i=>bs.getD i false,rfl,Walks.list hh s.heap.objs.size a (zC bW) its.toArray,⟨⟨_,zk _ rfl,rfl,rfl⟩,p.isList.push _⟩,?_,fun h' tk kk=>?_⟩
 ·intro i v s' Q' E' hv hq
  have hv':its[i]?=some v:=by simpa using hv
  have hi:i<bs.length:=by
   have:=(zw.mp hv').1
   rw[<- hlen];simpa using this
  have hb:(bs.map V.bl)[i]?=some (V.bl bs[i]):=by rw[zA,zr hi];rfl
  obtain⟨u,hu,ru⟩:=rv.get hb;rw[hv']at hu;cases hu;cases ru;refine wpAny_truthy_bool ?_;have hq':Q' (bs.getD i false) s':=hq;rw[zT,zr hi]at hq';exact hq'
 ·rw[hlen]
  have I1:Inv X pins σ H { s with heap:=s.heap.push { cls:=.type "list_iterator",data:=.fields #[.ref a,.int 0 0] } }:=I.kept (t':=s.toks) fun b o e=>zy _ e;refine q _ (I1.turned (it:=s.heap.objs.size) (fun b o hb e=>kk b o (by simpa using hb) e) (I.ax.fresh (zp _)) (zI I.lt) (.inr I.sz) (fun y c e z=>?_) fun p hp z=>?_)
  ·obtain⟨v,o,ho,_⟩:=I.cell y c e
   exact absurd (zn ho) (by rw[z];exact yu _)
  ·exact absurd (zn (I.pin p hp).1) (by rw[z];exact yu _)
noncomputable def Fz:Bl->String
 |.len=>"len" |.tuple=>"tuple" |.list=>"list" |.repr=>"repr" |.all=>"all" |.any=>"any" |.min2=>"min" |.max2=>"max" |.abs=>"abs" |.dict1=>"dict" |.minL=>"min"
noncomputable def SA:Bl->Bool
 |.tuple=>true|.list=>true|.dict1=>true|_=>false
noncomputable def C0(b:Bl):Value:=if SA b then .type (Fz b) else .builtin (Fz b)
theorem Lb(hc:X.calm=true)(hu:X.A.units+100<cLine)(b:Bl):cI X (C0 b) (Rc X.K (eJ b)):=by
 intro pins s σ H xs us Q I rv h;obtain⟨ι,M,M',ds,d,S,r,e,k⟩:=h;have fin:∀{w':V},M'=M->Rep X.K ι H d w'->Q w' H:=fun {w'} z r=>by subst z;exact k w' H ι r S Ext.refl
 cases b
 ·rcases ds with _|⟨x,t⟩
  ·exact(ai e).elim
  cases x <;> first|exact(ai e).elim|(cases t <;> first|exact(ai e).elim|skip)
  ·delta eJ at e
   dsimp only at e;have e0:=ae e;clear e;obtain⟨_,_,e1,e⟩:=e0;have aE:=aG e1;clear e1;obtain⟨hn,rfl⟩:=aE;have e0:=ah e;clear e;obtain⟨rfl,rfl⟩:=e0;cases r with|cons r1 r2=>cases r2;cases r1;exact uZ pins s σ H _ us Q I rv ⟨_,rfl,hn,fin rfl (.int _)⟩
  ·delta eJ at e
   dsimp only at e;have e0:=ah e;clear e;obtain⟨rfl,rfl⟩:=e0;cases r with|cons r1 r2 =>
   cases r2;cases r1 with|tup t q=>exact i9 pins s σ H _ us Q I rv ⟨_,_,rfl,.inr (bY t),by rw[<- q.length];exact fin rfl (.int _)⟩
  ·delta eJ at e
   dsimp only at e;have e0:=ah e;clear e;obtain⟨rfl,rfl⟩:=e0;cases r with|cons r1 r2 =>
   cases r2;cases r1 with|fl t q=>exact i9 pins s σ H _ us Q I rv ⟨_,_,rfl,.inl t.seq,by rw[<- q.length];exact fin rfl (.int _)⟩
  ·delta eJ at e
   dsimp only at e;have e0:=ae e;clear e;obtain⟨o,_,e1,e⟩:=e0;have aE:=eh e1;clear e1;obtain⟨g,rfl⟩:=aE;cases r with|cons r1 r2 =>
   cases r2;cases o with
   |lst ds =>
    have e0:=ah e;clear e;obtain⟨rfl,rfl⟩:=e0;obtain⟨a,vs,rfl,_,h3,h4⟩:=aK S r1 g;exact i9 pins s σ H _ us Q I rv ⟨a,vs,rfl,.inl (aN.of h3),by rw[<- h4.length];exact fin rfl (.int _)⟩
   |ins _ _=>exact(ai e).elim
   |aW kvs =>
    have e0:=ah e;clear e;obtain⟨rfl,rfl⟩:=e0;obtain⟨a,ws,rfl,_,h3,h4⟩:=dw S r1 g;obtain⟨u,rfl,ru⟩:=vals1 rv;cases ru;exact PL I (.inl h3) fun t s' I'=>⟨.int ws.length,H,I',⟨t,rfl⟩,by rw[<- h4.len];exact fin rfl (.int _)⟩
 ·rcases ds with _|⟨x,t⟩
  ·exact(ai e).elim
  cases x <;> first|exact(ai e).elim|(cases t <;> first|exact(ai e).elim|skip)
  ·delta eJ at e
   dsimp only at e;have e0:=ah e;clear e;obtain⟨rfl,rfl⟩:=e0;cases r with|cons r1 r2 =>
   cases r2;cases r1 with|tup t q=>exact iC pins s σ H _ us Q I rv ⟨_,_,rfl,.inr ⟨bY t,fin rfl (.tup t q)⟩⟩
  ·delta eJ at e
   dsimp only at e;have e0:=ah e;clear e;obtain⟨rfl,rfl⟩:=e0;cases r with|cons r1 r2 =>
   cases r2;cases r1 with|fl t q=>exact iC pins s σ H _ us Q I rv ⟨_,_,rfl,.inl ⟨t.seq,ke S q k⟩⟩
  ·delta eJ at e
   dsimp only at e;have e0:=ae e;clear e;obtain⟨ds,_,e1,e⟩:=e0;have aE:=bB e1;clear e1;obtain⟨g,rfl⟩:=aE;have e0:=ah e;clear e;obtain⟨rfl,rfl⟩:=e0;cases r with|cons r1 r2 =>
   cases r2;obtain⟨a,vs,rfl,_,h3,h4⟩:=aK S r1 g;exact iC pins s σ H _ us Q I rv ⟨_,_,rfl,.inl ⟨aN.of h3,ke S h4 k⟩⟩
 ·rcases ds with _|⟨x,t⟩
  ·exact(ai e).elim
  cases t <;> first|exact(ai e).elim|skip
  ·delta eJ at e
   dsimp only at e;have e0:=ae e;clear e;obtain⟨ds,M1,e1,e⟩:=e0;cases r with|cons r1 r2 =>
   cases r2;obtain⟨rfl,a,vs,rfl,hs,hr⟩:=LV S r1 e1;exact uX pins s σ H _ us Q I rv ⟨a,vs,rfl,hs,fF S hr e k⟩
 ·exact(ai e).elim
 ·rcases ds with _|⟨x,t⟩
  ·exact(ai e).elim
  cases x <;> first|exact(ai e).elim|(cases t <;> first|exact(ai e).elim|skip)
  ·delta eJ at e
   dsimp only at e;have e0:=ae e;clear e;obtain⟨ds,_,e1,e⟩:=e0;have aE:=bB e1;clear e1;obtain⟨g,rfl⟩:=aE;have e0:=ae e;clear e;obtain⟨bs,_,e1,e⟩:=e0;have aE:=bj e1;clear e1;obtain⟨hb,rfl⟩:=aE;have e0:=ah e;clear e;obtain⟨rfl,rfl⟩:=e0;cases r with|cons r1 r2 =>
   cases r2;obtain⟨a,vs,rfl,_,h3,h4⟩:=aK S r1 g;obtain⟨u,rfl,ru⟩:=vals1 rv;cases ru;rw[nX h4 hb]at h3;exact call_all_walk (pL hc (fun n tr=>(List.range n).all tr) I h3 fun s' I'=>⟨.bl (bs.all id),H,I',by rw[all_range];rfl,fin rfl (.bl _)⟩)
 ·rcases ds with _|⟨x,t⟩
  ·exact(ai e).elim
  cases x <;> first|exact(ai e).elim|(cases t <;> first|exact(ai e).elim|skip)
  ·delta eJ at e
   dsimp only at e;have e0:=ae e;clear e;obtain⟨ds,_,e1,e⟩:=e0;have aE:=bB e1;clear e1;obtain⟨g,rfl⟩:=aE;have e0:=ae e;clear e;obtain⟨bs,_,e1,e⟩:=e0;have aE:=bj e1;clear e1;obtain⟨hb,rfl⟩:=aE;have e0:=ah e;clear e;obtain⟨rfl,rfl⟩:=e0;cases r with|cons r1 r2 =>
   cases r2;obtain⟨a,vs,rfl,_,h3,h4⟩:=aK S r1 g;obtain⟨u,rfl,ru⟩:=vals1 rv;cases ru;rw[nX h4 hb]at h3;exact call_any_walk (pL hc (fun n tr=>(List.range n).any tr) I h3 fun s' I'=>⟨.bl (bs.any id),H,I',by rw[any_range];rfl,fin rfl (.bl _)⟩)
 ·exact(ai e).elim
 ·rcases ds with _|⟨x,t⟩
  ·exact(ai e).elim
  rcases t with _|⟨y,t⟩
  ·cases x <;> exact(ai e).elim
  cases x <;> first|exact(ai e).elim|(cases y <;> first|exact(ai e).elim|(cases t <;> first|exact(ai e).elim|skip))
  ·delta eJ at e
   dsimp only at e;have e0:=ah e;clear e;obtain⟨rfl,rfl⟩:=e0;cases r with|cons r1 r2 =>
   cases r2 with|cons r2 r3 =>
   cases r3;cases r1;cases r2;exact Ft hc pins s σ H _ us Q I rv ⟨_,_,rfl,fin rfl (.int _)⟩
 ·exact(ai e).elim
 ·exact(ai e).elim
 ·exact(ai e).elim
end
end L3
namespace L3
open PySem PySem.Spec PyProof.Rows L2
section
variable {X:Cx}
noncomputable def GN(m:Mt)(x:D):String:=match m,x with
 |.append,_=>"list.append"
 |.insert,_=>"list.insert"
 |.extend,_=>"list.extend"
 |.index,.tup _=>"tuple.index"
 |.index,_=>"list.index"
 |.join,_=>"str.join"
 |.find,_=>"str.find"
 |.get,_=>"dict.get"
noncomputable def ub:Mt->Str
 |.append=>"append" |.insert=>"insert" |.join=>"join" |.get=>"get"
 |.index=>"index"
 |.extend=>"extend"
 |.find=>"find"
theorem Kw{m:Str}{n:Nat}{k:Mt}(h:GL m n=some k):m=ub k:=by
 unfold GL at h;have key:∀(y:String) (k:Nat),(m==(Str.ofString y)&&n==k)=true->m=Str.ofString y:=fun y k e=>by
  simp only[zx,beq_iff_eq]at e;exact e.1
 split at h
 ·rename_i e;cases h;exact key _ _ e
 split at h
 ·rename_i e;cases h;exact key _ _ e
 split at h
 ·rename_i e;cases h;exact key _ _ e
 split at h
 ·rename_i e;cases h;exact key _ _ e
 split at h
 ·rename_i e;cases h;exact key _ _ e
 split at h
 ·rename_i e;cases h;exact key _ _ e
 split at h
 ·rename_i e;cases h;exact key _ _ e
 ·cases h
noncomputable def RM(K:Q_)(m:Mt)(id:String):V->List V->Hp->VK->Prop:=fun x xs H Q=>∃ι M M' dx ds d,aJ K ι M H/\Rep K ι H dx x/\aB K ι H ds xs/\GN m dx=id/\iq m dx ds M=some (.ok d,M') /\
 ∀v H' ι',Rep K ι' H' d v->aJ K ι' M' H'->Ext K ι H ι' H'->Q v H'
theorem nU{K:Q_}{ι:List Addr}{H:Hp}{e:D}{u:V}(q:Rep K ι H e u)(h':bE e=true):∀{ds:List D} {vs:List V} {j:Nat},aB K ι H ds vs->ds.all bE=true->ds.findIdx? (fun d=>eY d e)=some j->vs.findIdx? (fun v=>lC v u)=some j
 |_,_,_,.nil,_,h=>by simp at h
 |d::ds,v::vs,j,.cons r t,h,hf=>by
  rw[zL,zx]at h;rw[wl]at hf ⊢;rw[E7 r q h.1 h'];split at hf
  ·rename_i hc;rw[if_pos hc];exact hf
  ·rename_i hc
   rw[if_neg hc];cases e1:ds.findIdx? (fun d=>eY d e) with
   |none=>rw[e1]at hf;cases hf
   |some i =>
    rw[e1]at hf;rw[nU q h' t h.2 e1];exact hf
theorem nY{K:Q_}{ι:List Addr}{H:Hp}:∀{ds:List D} {vs:List V},aB K ι H ds vs->ds.all bE=true->vs.all gj=true
 |_,_,.nil,_=>rfl
 |_,_,.cons r t,h=>by
  rw[zL,zx]at h;rw[zL,i8 r h.1,nY t h.2];rfl
theorem lP{K:Q_}{ι:List Addr}{H:Hp}:∀{ds:List D} {vs:List V} {ys:List Str},aB K ι H ds vs->ds.mapM sW=some ys->vs=ys.map V.str
 |_,_,_,.nil,h=>by simp at h;subst h;rfl
 |_,_,_,.cons (d:=d) r t,h=>by
  rw[xA]at h;simp only[wx,xO,wK,Option.some.injEq]at h;obtain⟨b,hb,bs',qY,rfl⟩:=h;rw[lP t qY];cases r <;> simp[sW]at hb;subst hb;rfl
theorem MZ(hu:X.A.units+100<cLine)(m:Mt)(id:String):nq X id (RM X.K m id):=by
 intro pins s σ H x vs v us Q I rx rv h;obtain⟨ι,M,M',dx,ds,d,S,r,rs,rfl,e,k⟩:=h;have fin:∀{w':V},M'=M->Rep X.K ι H d w'->Q w' H:=fun {w'} z r=>by subst z;exact k w' H ι r S Ext.refl
 cases m
 case append =>
  cases dx <;> first|exact(ai e).elim|(rcases ds with _|⟨_,_|⟨_,_⟩⟩ <;> first|exact(ai e).elim|skip)
  ·delta iq at e
   dsimp only at e;rename_i a y;obtain⟨vy,rfl,ry⟩:=my rs;have e0:=ae e;clear e;obtain⟨xs,_,e1,e⟩:=e0;have aE:=bB e1;clear e1;obtain⟨g,rfl⟩:=aE;have e0:=ae e;clear e;obtain⟨_,_,e1,e⟩:=e0;have aE:=aG e1;clear e1;obtain⟨hn,rfl⟩:=aE;have e0:=ae e;clear e;obtain⟨u,M2,e1,e⟩:=e0;have e0:=ah e;clear e;obtain⟨rfl,rfl⟩:=e0;obtain⟨p,ws,rfl,hi,h3,h4⟩:=aK S r g;obtain⟨S2,X2⟩:=kG (ds:=xs) S hi h3 (h4.append (.cons ry .nil)) e1;exact lU pins s σ H _ _ v us Q I rx rv ⟨p,ws,vy,rfl,rfl,h3,by rw[<- h4.length];exact hn,k .non _ ι .non S2 X2⟩
 case insert=>exact(ai e).elim
 case index =>
  cases dx <;> first|exact(ai e).elim|(rcases ds with _|⟨_,_|⟨_,_⟩⟩ <;> first|exact(ai e).elim|skip)
  ·delta iq at e
   dsimp only at e;obtain⟨vy,rfl,ry⟩:=my rs;have e0:=ae e;clear e;obtain⟨_,_,e1,e⟩:=e0;have aE:=aG e1;clear e1;obtain⟨hn,rfl⟩:=aE;have e0:=ae e;clear e;obtain⟨j,_,e1,e⟩:=e0;have aE:=bj e1;clear e1;obtain⟨hj,rfl⟩:=aE;have e0:=ah e;clear e;obtain⟨rfl,rfl⟩:=e0;cases r with
   |tup t q=>exact Eb pins s σ H _ _ v us Q I rx rv ⟨_,_,vy,j,rfl,rfl,bY t,i8 ry hn.1,nY q hn.2,nU ry hn.1 q hn.2 hj,fin rfl (.int _)⟩
  ·delta iq at e
   dsimp only at e;obtain⟨vy,rfl,ry⟩:=my rs;have e0:=ae e;clear e;obtain⟨xs,_,e1,e⟩:=e0;have aE:=bB e1;clear e1;obtain⟨g,rfl⟩:=aE;have e0:=ae e;clear e;obtain⟨_,_,e1,e⟩:=e0;have aE:=aG e1;clear e1;obtain⟨hn,rfl⟩:=aE;have e0:=ae e;clear e;obtain⟨j,_,e1,e⟩:=e0;have aE:=bj e1;clear e1;obtain⟨hj,rfl⟩:=aE;have e0:=ah e;clear e;obtain⟨rfl,rfl⟩:=e0;obtain⟨p,ws,rfl,hi,h3,h4⟩:=aK S r g;exact Ec pins s σ H _ _ v us Q I rx rv ⟨p,ws,vy,j,rfl,rfl,aN.of h3,i8 ry hn.1,nY h4 hn.2,nU ry hn.1 h4 hn.2 hj,fin rfl (.int _)⟩
 case join =>
  cases dx <;> first|exact(ai e).elim|(rcases ds with _|⟨x,_|⟨_,_⟩⟩ <;> first|exact(ai e).elim|(cases x <;> first|exact(ai e).elim|skip))
  ·delta iq at e
   dsimp only at e;obtain⟨vy,rfl,ry⟩:=my rs;have e0:=ae e;clear e;obtain⟨xs,_,e1,e⟩:=e0;have aE:=bB e1;clear e1;obtain⟨g,rfl⟩:=aE;have e0:=ae e;clear e;obtain⟨ys,_,e1,e⟩:=e0;have aE:=bj e1;clear e1;obtain⟨hj,rfl⟩:=aE;have e0:=ae e;clear e;obtain⟨_,_,e1,e⟩:=e0;have aE:=aG e1;clear e1;obtain⟨hn,rfl⟩:=aE;have e0:=ah e;clear e;obtain⟨rfl,rfl⟩:=e0;obtain⟨p,ws,rfl,hi,h3,h4⟩:=aK S ry g;cases r;have hw:=lP h4 hj;subst hw;exact Kx pins s σ H _ _ v us Q I rx rv ⟨_,p,ys,rfl,rfl,aN.of h3,hn,fin rfl (.str _)⟩
 case find =>
  cases dx <;> first|exact(ai e).elim|(rcases ds with _|⟨x,_|⟨_,_⟩⟩ <;> first|exact(ai e).elim|(cases x <;> first|exact(ai e).elim|skip))
  ·delta iq at e
   dsimp only at e;obtain⟨vy,rfl,ry⟩:=my rs;have e0:=ah e;clear e;obtain⟨rfl,rfl⟩:=e0;cases r;cases ry;exact Kz pins s σ H _ _ v us Q I rx rv ⟨_,_,rfl,rfl,fin rfl (.int _)⟩
 case extend =>
  cases dx <;> first|exact(ai e).elim|(rcases ds with _|⟨_,_|⟨_,_⟩⟩ <;> first|exact(ai e).elim|skip)
  ·delta iq at e
   dsimp only at e;rename_i kk y;obtain⟨vy,rfl,ry⟩:=my rs;have e0:=ae e;clear e;obtain⟨es,_,e1,e⟩:=e0;have e0:=ae e;clear e;obtain⟨xs,_,e2,e⟩:=e0;have aQ:=bB e2;clear e2;obtain⟨g,rfl⟩:=aQ;have e0:=ae e;clear e;obtain⟨_,_,e3,e⟩:=e0;have bf:=aG e3;clear e3;obtain⟨⟨hn,_⟩,rfl⟩:=bf;have e0:=ae e;clear e;obtain⟨u,M2,e4,e⟩:=e0;have e0:=ah e;clear e;obtain⟨rfl,rfl⟩:=e0;cases ry with
   |tup t q =>
    have aE:=ah e1;clear e1;obtain⟨rfl,rfl⟩:=aE;obtain⟨p,ws,rfl,hi,h3,h4⟩:=aK S r g;obtain⟨S2,X2⟩:=kG (ds:=xs) S hi h3 (h4.append q) e4;exact Ck pins s σ H _ _ v us Q I rx rv ⟨p,_,ws,_,rfl,rfl,h3,bY t,by rw[<- h4.length,<- q.length];exact hn,k .non _ ι .non S2 X2⟩
   |ob t =>
    have aE:=bB e1;clear e1;obtain⟨g2,rfl⟩:=aE;obtain⟨p,ws,rfl,hi,h3,h4⟩:=aK S r g;obtain⟨p2,PY,e5,Je,h5,h6⟩:=aK S (.ob t) g2;cases e5;obtain⟨S2,X2⟩:=kG (ds:=xs) S hi h3 (h4.append h6) e4;exact Ed pins s σ H _ _ v us Q I rx rv ⟨p,_,ws,PY,rfl,rfl,h3,h5,by rw[<- h4.length,<- h6.length];exact hn,k .non _ ι .non S2 X2⟩
   |_=>exact(ai e1).elim
 case get=>exact(ai e).elim
theorem LE.mth{m:Mt}{fo:DE}{fa:Ev->Mo (List D)}(σ:St)(H:Hp)(Q:VK)(h:LE X.K (fun ρ=>do let x<-fo ρ;iU m x;let xs<-fa ρ;iq m x xs) σ H Q):Lx X (ub m) (RM X.K m) (LE X.K fo) (LA X.K fa) σ H Q:=by
 obtain⟨ι,ρ,M,d,M',S,R,e,k⟩:=h;have e0:=ae e;clear e;obtain⟨x,M1,e1,e⟩:=e0;have e0:=ae e;clear e;obtain⟨u,M2,e2,e⟩:=e0;have e0:=ae e;clear e;obtain⟨xs,M3,e3,e⟩:=e0;refine⟨ι,ρ,M,x,M1,S,R,e1,fun v H1 ι1 r1 S1 X1=>?_⟩;have fact:M2=M1/\∃T,JE T (ub m) (GN m x)/\pP X T v H1:=by
  unfold iU at e2;split at e2
  ·have e0:=ae e2;clear e2;obtain⟨ds,_,e4,e5⟩:=e0
   have cA:=bB e4;clear e4;obtain⟨g,rfl⟩:=cA;obtain⟨p,ws,rfl,hi,h3,h4⟩:=aK S1 r1 g;exact⟨(ah e5).2,"list",⟨PySem.F.plainAttrs_list,PySem.F.slot_list_append,PySem.F.type_list_append⟩,kD (aN.of h3)⟩
  ·have e0:=ae e2;clear e2;obtain⟨ds,_,e4,e5⟩:=e0
   have cA:=bB e4;clear e4;obtain⟨g,rfl⟩:=cA;obtain⟨p,ws,rfl,hi,h3,h4⟩:=aK S1 r1 g;exact⟨(ah e5).2,"list",⟨PySem.F.plainAttrs_list,PySem.F.slot_list_insert,PySem.F.type_list_insert⟩,kD (aN.of h3)⟩
  ·have e0:=ae e2;clear e2;obtain⟨ds,_,e4,e5⟩:=e0
   have cA:=bB e4;clear e4;obtain⟨g,rfl⟩:=cA;obtain⟨p,ws,rfl,hi,h3,h4⟩:=aK S1 r1 g;exact⟨(ah e5).2,"list",⟨PySem.F.plainAttrs_list,PySem.F.slot_list_extend,PySem.F.type_list_extend⟩,kD (aN.of h3)⟩
  ·have e0:=ae e2;clear e2;obtain⟨ds,_,e4,e5⟩:=e0
   have cA:=bB e4;clear e4;obtain⟨g,rfl⟩:=cA;obtain⟨p,ws,rfl,hi,h3,h4⟩:=aK S1 r1 g;exact⟨(ah e5).2,"list",⟨PySem.F.plainAttrs_list,PySem.F.slot_list_index,PySem.F.type_list_index⟩,kD (aN.of h3)⟩
  ·cases r1 with
   |tup t q=>exact⟨(ah e2).2,"tuple",⟨PySem.F.plainAttrs_tuple,PySem.F.slot_tuple_index,PySem.F.type_tuple_index⟩,Kb (bY t)⟩
  ·cases r1 with
   |str y=>exact⟨(ah e2).2,"str",⟨PySem.F.plainAttrs_str,PySem.F.slot_str_join,PySem.F.type_str_join⟩,z8⟩
  ·cases r1 with
   |str y=>exact⟨(ah e2).2,"str",⟨PySem.F.plainAttrs_str,PySem.F.slot_str_find,PySem.F.type_str_find⟩,z8⟩
  ·have e0:=ae e2;clear e2;obtain⟨ds,_,e4,e5⟩:=e0
   have cA:=qm e4;clear e4;obtain⟨g,rfl⟩:=cA;obtain⟨p,ws,rfl,hi,h3,h4⟩:=dw S1 r1 g;exact⟨(ah e5).2,"dict",⟨PySem.F.plainAttrs_dict,PySem.F.slot_dict_get,PySem.F.type_dict_get⟩,fun pins σ s v I r=>jZ I r (.inr (.inr (.inl ⟨rfl,.inl ⟨ws,h3⟩⟩)))⟩
  ·exact(ai e2).elim
 obtain⟨rfl,T,f1,f2⟩:=fact;refine⟨T,GN m x,f1,f2,?_⟩;refine⟨ι1,ρ,_,xs,M3,S1,R.mono X1,e3,fun vs H2 ι2 r2 S2 X2=>?_⟩;exact⟨ι2,M3,M',x,xs,d,S2,r1.mono X2,r2,rfl,e,fun v' H' ι' r' S' X'=>k v' H' ι' r' S' ((X1.trans X2).trans X')⟩
noncomputable def tyName:Ty->String
 |.int=>"int" |.str=>"str" |.bool=>"bool" |.list=>"list" |.tuple=>"tuple" |.dict=>"dict"
theorem pU{t:Str}{k:Ty}(h:lL t=some k):bootBuiltins t=some (.type (tyName k)):=by
 unfold lL at h;have key:∀(y:String),(t==(Str.ofString y))=true->t=Str.ofString y:=fun y e=>by simpa using e
 split at h
 ·rename_i e;cases h;rw[key _ e];decide +kernel
 split at h
 ·rename_i e;cases h;rw[key _ e];decide +kernel
 split at h
 ·rename_i e;cases h;rw[key _ e];decide +kernel
 split at h
 ·rename_i e;cases h;rw[key _ e];decide +kernel
 split at h
 ·rename_i e;cases h;rw[key _ e];decide +kernel
 split at h
 ·rename_i e;cases h;rw[key _ e];decide +kernel
 ·cases h
noncomputable def Ox(K:Q_)(k:Ty):List V->Hp->VK->Prop:=fun xs H Q=>∃ι M M' dx x b,xs=[x,.ty (tyName k)]/\aJ K ι M H/\Rep K ι H dx x/\dz k dx M=some (.ok b,M')/\(M'=M->Q (.bl b) H)
theorem Hx(k:Ty):cI X (.builtin "isinstance") (Ox X.K k):=by
 intro pins s σ H xs us Q I rv h;obtain⟨ι,M,M',dx,x,b,rfl,S,r,e,q⟩:=h;obtain⟨u,w',rfl,ru,rw'⟩:=vals2 rv;cases rw';have yes:∀{c:Bool},Q (.bl c) H->EP X pins σ Q (.bool c) s:=fun h=>⟨.bl _,H,I,rfl,h⟩;have no:∀{c:Bool},Q (.bl c) H->EP X pins σ Q (.bool c) { s with toks:=s.toks+1 }:=fun h=>⟨.bl _,H,I.tok _,rfl,h⟩;have lst:∀{a:Addr} {vs:List V},aN X.K H a vs->Q (.bl (k==.list)) H->wpAny (model X.prog X.w) X.A (call (.builtin "isinstance") [.ref a,.type (tyName k)]) (EP X pins σ Q) X.xe s:=fun {a vs} hs q=>by
  obtain⟨its,_,⟨o,n,ho,hc,_⟩,_⟩:=I.list hs;cases k
  ·exact IsiPair.list_int ho hc (no q)
  ·exact IsiPair.list_str ho hc (no q)
  ·exact IsiPair.list_bool ho hc (no q)
  ·exact IsiPair.list_list ho hc (yes q)
  ·exact IsiPair.list_tuple ho hc (no q)
  ·exact IsiPair.list_dict ho hc (no q)
 cases r with
 |non =>
  cases ru;have e0:=ah e;clear e;obtain⟨rfl,rfl⟩:=e0;have q:=q rfl;cases k
  ·exact IsiPair.NoneType_int (no q)
  ·exact IsiPair.NoneType_str (no q)
  ·exact IsiPair.NoneType_bool (no q)
  ·exact IsiPair.NoneType_list (no q)
  ·exact IsiPair.NoneType_tuple (no q)
  ·exact IsiPair.NoneType_dict (no q)
 |bl c =>
  cases ru;have e0:=ah e;clear e;obtain⟨rfl,rfl⟩:=e0;have q:=q rfl;cases k
  ·exact IsiPair.bool_int (yes q)
  ·exact IsiPair.bool_str (no q)
  ·exact IsiPair.bool_bool (yes q)
  ·exact IsiPair.bool_list (no q)
  ·exact IsiPair.bool_tuple (no q)
  ·exact IsiPair.bool_dict (no q)
 |int c =>
  obtain⟨t,rfl⟩:=ru;have e0:=ah e;clear e;obtain⟨rfl,rfl⟩:=e0;have q:=q rfl;cases k
  ·exact IsiPair.int_int (yes q)
  ·exact IsiPair.int_str (no q)
  ·exact IsiPair.int_bool (no q)
  ·exact IsiPair.int_list (no q)
  ·exact IsiPair.int_tuple (no q)
  ·exact IsiPair.int_dict (no q)
 |str c =>
  obtain⟨t,rfl⟩:=ru;have e0:=ah e;clear e;obtain⟨rfl,rfl⟩:=e0;have q:=q rfl;cases k
  ·exact IsiPair.str_int (no q)
  ·exact IsiPair.str_str (yes q)
  ·exact IsiPair.str_bool (no q)
  ·exact IsiPair.str_list (no q)
  ·exact IsiPair.str_tuple (no q)
  ·exact IsiPair.str_dict (no q)
 |tup t qq =>
  cases ru;have e0:=ah e;clear e;obtain⟨rfl,rfl⟩:=e0;have q:=q rfl;obtain⟨its,_,⟨o,ho,hc,_⟩,_⟩:=I.tuple (bY t);cases k
  ·exact IsiPair.tuple_int ho hc (no q)
  ·exact IsiPair.tuple_str ho hc (no q)
  ·exact IsiPair.tuple_bool ho hc (no q)
  ·exact IsiPair.tuple_list ho hc (no q)
  ·exact IsiPair.tuple_tuple ho hc (yes q)
  ·exact IsiPair.tuple_dict ho hc (no q)
 |fl t qq =>
  cases ru;have e0:=ah e;clear e;obtain⟨rfl,rfl⟩:=e0;exact lst t.seq (q rfl)
 |ob t =>
  cases ru;have e0:=ae e;clear e;obtain⟨o,_,e1,e⟩:=e0;have aE:=eh e1;clear e1;obtain⟨g,rfl⟩:=aE;cases o with
  |lst ds =>
   have e0:=ah e;clear e;obtain⟨rfl,rfl⟩:=e0;obtain⟨p,ws,e1,hi,h3,h4⟩:=aK S (.ob t) g;cases e1;exact lst (aN.of h3) (q rfl)
  |ins _ _=>exact(ai e).elim
  |aW kvs =>
   have e0:=ah e;clear e;obtain⟨rfl,rfl⟩:=e0;obtain⟨p,ws,e1,hi,h3,h4⟩:=dw S (.ob t) g;cases e1;have q:=q rfl;obtain⟨z,hd,rs,rel,o,es,ep,ho,⟨hc,_⟩,_⟩:=jB I.ax (.inl h3);cases k
   ·exact IsiPair.dict_int ho hc (no q)
   ·exact IsiPair.dict_str ho hc (no q)
   ·exact IsiPair.dict_bool ho hc (no q)
   ·exact IsiPair.dict_list ho hc (no q)
   ·exact IsiPair.dict_tuple ho hc (no q)
   ·exact IsiPair.dict_dict ho hc (yes q)
theorem LE.isI{k:Ty}{fa:DE}(σ:St)(H:Hp)(Q:VK)(h:LE X.K (fun ρ=>do let x<-fa ρ;let b<-dz k x;pure (.bl b)) σ H Q):vU (Ox X.K k) (cR (LE X.K fa) (cR (tC (.ty (tyName k))) gS)) σ H Q:=by
 obtain⟨ι,ρ,M,d,M',S,R,e,q⟩:=h;have e0:=ae e;clear e;obtain⟨x,M1,e1,e⟩:=e0;have e0:=ae e;clear e;obtain⟨b,M2,e2,e⟩:=e0;have e0:=ah e;clear e;obtain⟨rfl,rfl⟩:=e0;refine⟨ι,ρ,M,x,M1,S,R,e1,fun v H1 ι1 r1 S1 X1=>?_⟩;exact⟨ι1,M1,_,x,v,b,rfl,S1,r1,e2,fun z=>by subst z;exact q _ H1 ι1 (.bl b) S1 X1⟩
end
end L3
namespace L3
open PySem PySem.Spec PyProof.Rows L2
section
variable {X:Cx}
end
end L3
namespace L3
open PySem PySem.Spec PyProof.Rows L2
noncomputable def fC(K:Q_)(n:Nat)(g:List D->Mo D):Sp:=fun vs H Q _=>vs.length=n/\∃ι M M' ds d,aJ K ι M H/\aB K ι H ds vs/\g ds M=some (.ok d,M') /\
 ∀v H' ι',Rep K ι' H' d v->aJ K ι' M' H'->Ext K ι H ι' H'->Q v H'
noncomputable def Rl(X:Cx)(g:List D->Mo D)(f:Str):Prop:=∃(k:Nat) (fa:Addr) (fd:FuncData) (ps:List Str),X.mg f=some (.ref fa)/\Z0 X.K (.ref fa)=true/\Binds X.K fd ps [] /\
 cf X.prog X.w X.K X.mg X.base jP k fa fd ps (fC X.K ps.length g)/\bJ k X.A/\∀ds M d M',g ds M=some (.ok d,M')->ds.length=ps.length
noncomputable def SO(X:Cx)(C:Addr)(g:List D->Mo D)(m:Str):Prop:=∃(k:Nat) (fa:Addr) (fd:FuncData) (ps:List Str),Meth X.K C m fa/\Binds X.K fd ps [] /\
 cf X.prog X.w X.K X.mg X.base jP k fa fd ps (fC X.K ps.length g)/\bJ k X.A/\∀ds M d M',g ds M=some (.ok d,M')->ds.length=ps.length
noncomputable def WV(X:Cx)(C:Addr)(g:List D->Mo D):Prop:=∃(k:Nat) (fa:Addr) (fd:FuncData) (ps:List Str),Mk X.K C fa/\X.mg "House" = some (.ref C)/\Binds X.K fd ps [] /\
 cf X.prog X.w X.K X.mg X.base jP k fa fd ps (fC X.K ps.length g)/\bJ (k+1) X.A/\∀ds M d M',g ds M=some (.ok d,M')->ds.length=ps.length
structure aL (Γ:Ctx) (S:Sc) (X:Cx):Prop where
 n:X.N=S.N
 sc:∀x k,S.sc.names.lookup x=some k->∃k',X.env.scope.names.lookup x=some k'/\(k'=k\/(k=.free/\k'=.cell))
 calm:X.calm=true
 hu:X.A.units+100<cLine
 dX:X.xe=fun _ _=>False
 fns:∀f∈S.fns,Rl X (Γ.fn f) f
 gls:∀x∈S.gls,∃d u v,Γ.gl x=some d/\X.mg x=some u/\RelV v u/\∀ι H,Rep X.K ι H d v
 bu:∀x∈S.bu,X.mg x=none
 cls:iz X.K Γ.hc
 kJ:∀f∈kW,eK X.K Γ.hc f
 lV:∀m∈kU,SO X Γ.hc (Γ.fn (av m)) m
 Ir:WV X Γ.hc (Γ.fn "House.__init__")
 rfs:Rl X (z0 Γ) "_law_unknown"
 nd:X.N.Nodup
section
variable {Γ:Ctx}{S:Sc}{X:Cx}
theorem aL.qD(C:aL Γ S X){x:Str}(h:S.qD x=true):u6 X.env.scope x:=by
 unfold Sc.qD Sc.kind at h;simp only[yW,beq_iff_eq]at h;rcases h with (h|h)|h
 ·obtain⟨k',h1,rfl|⟨h2,_⟩⟩:=C.sc _ _ h
  ·exact .inl h1
  ·cases h2
 ·obtain⟨k',h1,rfl|⟨h2,_⟩⟩:=C.sc _ _ h
  ·exact .inr (.inl h1)
  ·cases h2
 ·obtain⟨k',h1,rfl|⟨_,rfl⟩⟩:=C.sc _ _ h
  ·exact .inr (.inr h1)
  ·exact .inr (.inl h1)
theorem aL.loc(C:aL Γ S X){x:Str}(h:S.loc x=true):Loc X.env.scope x:=by
 unfold Sc.loc Sc.kind at h;simp only[yW,beq_iff_eq]at h;rcases h with h|h
 ·obtain⟨k',h1,rfl|⟨h2,_⟩⟩:=C.sc _ _ h
  ·exact .inl h1
  ·cases h2
 ·obtain⟨k',h1,rfl|⟨h2,_⟩⟩:=C.sc _ _ h
  ·exact .inr h1
  ·cases h2
theorem aL.bA(C:aL Γ S X){x:Str}(h:S.bA x=true):Gl X x:=by
 unfold Sc.bA Sc.kind at h;simp only[beq_iff_eq]at h;obtain⟨k',h1,rfl|⟨h2,_⟩⟩:=C.sc _ _ h
 ·exact h1
 ·cases h2
theorem slot_get{N:List Str}{x:Str}{i:Nat}(h:slot N x=some i):N[i]?=some x:=by
 unfold slot at h;obtain⟨hi,h1,_⟩:=yb.mp h;rw[zr hi];simpa using h1
theorem aX{x:Str}(h:bR x=true):(x==("__debug__":Str))=false/\(x==("__classdict__":Str))=false/\x≠"__name__":=by
 unfold bR at h;simp only[zx,bne_iff_ne,ne_eq]at h;exact⟨beq_eq_false_iff_ne.mpr h.1.1,beq_eq_false_iff_ne.mpr h.1.2,h.2⟩
theorem ay{e:Expr}{es:List Expr}{env:Env}(h:aV e=true):starEach (e::es) env=(false,eval e env)::starEach es env:=by
 cases e <;> first|rfl|cases h
theorem bH{pos:Pos}{env:Env}:∀{es:List Expr},es.all aV=true->(backTo pos (starEach es env)).any (·.1)=false
 |[],_=>rfl
 |e::es,h=>by
  rw[zL,zx]at h;rw[ay h.1];show (false||(backTo pos (starEach es env)).any (·.1))=false;rw[bH h.2];rfl
noncomputable def Rj(y:Str):It:=⟨fun i _=>i<y.cps.size,fun i H x H'=>H'=H/\∃c,y.cps[i]?=some c/\x=.str ⟨#[c]⟩,fun i _=>i=y.cps.size⟩
theorem sQ{P:Program}{w:World}{K:Q_}{tg:Expr}{it:Addr}{y:Str}{t:Tok}{ty:String}(hW:∀A':Around,A'.handled=none->Walks P w A' it [it] [it] y.cps.size (SignAt y) (fun i h=>h.IsStrIter it ty y t i))
  (hn:["enumerate","zip","dict_itemiterator","dict_reverseitemiterator","odict_iterator","itertools.zip_longest","itertools.pairwise"].contains ty=false)
  (Pt:∀(A:Around) (i:Nat) (s:Shared) (Q:Value->Shared->Prop) (E:Value->Shared->Prop),s.heap.IsStrIter it ty y t i->Q (.ref it) s->wpAny (model P w) A (pyIter (.ref it)) Q E s) :
  Turn P w K tg (Rj y) [it] it (fun i h=>h.IsStrIter it ty y t i) where
 mem:=by simp
 obj:=fun i h st b hb=>by
  have e:b=it:=by simpa using hb
  subst e;obtain⟨o,h1,h2,h3⟩:=st;exact⟨o,h1,fun v z=>by rw[h3]at z;cases z⟩
 keep:=fun i h h' st k=>by
  obtain⟨o,h1,h2⟩:=st;exact⟨o,k it (by simp) o h1,h2⟩
 item:=by
  intro X hP hw hK hc i pins s σ H E I hf st hg;subst hP hw hK;obtain⟨f0,f1,f2,f3,f4,f5⟩:=hf it (by simp);refine(hW X.A (I.ok.hd hc)).item i s _ _ hg st fun v h' tk hv st' kk=>?_;obtain⟨c,t',hc',rfl⟩:=hv;have I1:Inv X pins σ H { s with heap:=h',toks:=tk }:=I.turned (fun b o hb e=>kk b o (by simpa using hb) e) f0 f1 f3 f4 f5;obtain⟨o,h1,h2,h3⟩:=id st';exact⟨_,rfl,pq (s:={ s with heap:=h',toks:=tk }) h1 h2 h3 hn ⟨.str ⟨#[c]⟩,H,I1,⟨t',rfl⟩,⟨rfl,c,hc',rfl⟩,st',fun b hb=>(hf b hb).1⟩⟩
 done:=by
  intro X hP hw hK hc i pins s σ H E I hf st hg;subst hP hw hK;obtain⟨f0,f1,f2,f3,f4,f5⟩:=hf it (by simp);have hg':i=y.cps.size:=hg;subst hg';exact(hW X.A (I.ok.hd hc)).done s _ _ st fun h' tk kk=>⟨rfl,I.turned (fun b o hb e=>kk b o (by simpa using hb) e) f0 f1 f3 f4 f5⟩
 self:=Pt
noncomputable def Nt(K:Q_)(tl:TE):TI:=fun σ H R=>tl σ H fun x H1=>(∃a xs,x=.ref a/\aN K H1 a xs/\R (Rk K a) H1)\/(∃a xs,x=.ref a/\cD K H1 a xs/\R (Ri K a) H1)\/∃y,x=.str y/\R (Rj y) H1
theorem tQ{X:Cx}{tg l:Expr}{tl:TE}(hl:PE X l tl):PI X tg l (Nt X.K tl):=by
 intro pins s σ H R I h;refine aH (hl pins s σ H _ I h) fun v s1 ⟨x,H1,I1,r1,q1⟩=>?_;rcases q1 with ⟨a,xs,e,hq,q⟩|⟨a,xs,e,hq,q⟩|⟨y,e,q⟩
 ·subst e
  cases r1;obtain⟨its,rv,p,hz⟩:=I1.list hq;refine wpAny_pyIter_list p.isList ?_;refine⟨s1.heap.objs.size,[s1.heap.objs.size],_,_,H1,rfl,I1.kept (t':=s1.toks) fun b o e=>zy _ e,Dw a _,⟨_,zk _ rfl,rfl,rfl⟩,fun b hb=>?_,q⟩;have e:b=s1.heap.objs.size:=by simpa using hb
  subst e;exact I1.nS (zp _) (I1.ax.fresh (zp _))
 ·subst e
  cases r1;obtain⟨its,rv,p,hz⟩:=I1.tuple hq;refine wpAny_pyIter_tuple (show s1.heap.IsTuple a its.toArray from p) ?_;refine⟨s1.heap.objs.size,[s1.heap.objs.size],_,_,H1,rfl,I1.kept (t':=s1.toks) fun b o e=>zy _ e,A5 a _,⟨_,zk _ rfl,rfl,rfl⟩,fun b hb=>?_,q⟩;have e:b=s1.heap.objs.size:=by simpa using hb
  subst e;exact I1.nS (zp _) (I1.ax.fresh (zp _))
 ·subst e
  obtain⟨t,rfl⟩:=r1;cases ha:y.cps.all (·<128)
  ·refine wpAny_pyIter_wide ha ?_
   refine⟨s1.heap.objs.size,[s1.heap.objs.size],_,_,H1,rfl,I1.kept (t':=s1.toks) fun b o e=>zy _ e,sQ (t:=t) (fun A' hA=>Walks.strWide hA _ y t) (by decide) (fun _ _ _ _ _ st hQ=>wpAny_pyIter_striter_wide st hQ),⟨_,zk _ rfl,rfl,rfl⟩,fun b hb=>?_,q⟩;have e:b=s1.heap.objs.size:=by simpa using hb
   subst e;exact I1.nS (zp _) (I1.ax.fresh (zp _))
  ·refine wpAny_pyIter_ascii ha ?_
   refine⟨s1.heap.objs.size,[s1.heap.objs.size],_,_,H1,rfl,I1.kept (t':=s1.toks) fun b o e=>zy _ e,sQ (t:=t) (fun A' hA=>Walks.strAscii hA _ y t) (by decide) (fun _ _ _ _ _ st hQ=>wpAny_pyIter_striter_ascii st hQ),⟨_,zk _ rfl,rfl,rfl⟩,fun b hb=>?_,q⟩;have e:b=s1.heap.objs.size:=by simpa using hb
   subst e;exact I1.nS (zp _) (I1.ax.fresh (zp _))
noncomputable def Oy(K:Q_)(ι:List Addr)(H:Hp)(src:Src)(J:It):Prop:=∀(ι2:List Addr) (H2:Hp) (M2:MH),Ext K ι H ι2 H2->aJ K ι2 M2 H2->gK src.ck M2 ->
 (∀(i:Nat) (d:D),src.ds[i]?=some d->J.go i H2/\∀x H',J.jf i H2 x H'->H'=H2/\Rep K ι2 H2 d x)/\J.stop src.ds.length H2
inductive LI (K:Q_) (f:Ev->Mo Src) (σ:St) (H:Hp) (R:It->Hp->Prop):Prop
 |mk (ι:List Addr) (ρ:Ev) (M:MH) (src:Src) (M':MH) (S0:aJ K ι M H) (R0:bL K ι H ρ σ) (e:f ρ M=some (.ok src,M')) (k:∀J H' ι',aJ K ι' M' H'->Ext K ι H ι' H'->Oy K ι' H' src J->R J H')
theorem PI.imp{X:Cx}{tg e:Expr}{t t':TI}(h:PI X tg e t)(k:∀σ H R,t' σ H R->t σ H R):PI X tg e t':=fun pins s σ H R I q=>h pins s σ H R I (k σ H R q)
theorem LI.seq{K:Q_}{f:DE}(σ:St)(H:Hp)(R:It->Hp->Prop)(h:LI K (fun ρ=>do let x<-f ρ;fw x) σ H R):Nt K (LE K f) σ H R:=by
 obtain⟨ι,ρ,M,src,M',S,Rr,e,k⟩:=h;have e0:=ae e;clear e;obtain⟨x,M1,e1,e⟩:=e0;refine⟨ι,ρ,M,x,M1,S,Rr,e1,fun v H1 ι1 r1 S1 X1=>?_⟩;cases r1 with
 |tup t q =>
  have e0:=ah e;clear e;obtain⟨rfl,rfl⟩:=e0;refine .inr (.inl ⟨_,_,rfl,bY t,k _ H1 ι1 S1 X1 fun ι2 H2 M2 x2 S2 ok=>⟨fun i d hd=>?_,⟨_,bY (x2.tup _ _ t),yE (q.length.symm)⟩⟩⟩);obtain⟨v,hv,rv⟩:=(q.mono x2).get hd;exact⟨⟨_,v,bY (x2.tup _ _ t),hv⟩,fun x' H' y=>⟨y.1,by have:=y.2 _ (bY (x2.tup _ _ t));rw[hv]at this;cases this;exact rv⟩⟩
 |fl t q =>
  have e0:=ah e;clear e;obtain⟨rfl,rfl⟩:=e0;refine .inl ⟨_,_,rfl,t.seq,k _ H1 ι1 S1 X1 fun ι2 H2 M2 x2 S2 ok=>⟨fun i d hd=>?_,⟨_,(x2.fz _ _ t).seq,yE (q.length.symm)⟩⟩⟩;obtain⟨v,hv,rv⟩:=(q.mono x2).get hd;exact⟨⟨_,v,(x2.fz _ _ t).seq,hv⟩,fun x' H' y=>⟨y.1,by have:=y.2 _ (x2.fz _ _ t).seq;rw[hv]at this;cases this;exact rv⟩⟩
 |str y =>
  have e0:=ae e;clear e;obtain⟨_,_,e2,e⟩:=e0;have aQ:=aG e2;clear e2;obtain⟨hn,rfl⟩:=aQ;have e0:=ah e;clear e;obtain⟨rfl,rfl⟩:=e0;refine .inr (.inr ⟨y,rfl,k _ H1 ι1 S1 X1 fun ι2 H2 M2 x2 S2 ok=>⟨fun i d hd=>?_,?_⟩⟩)
  ·rw[zA]at hd
   cases hc:y.cps.toList[i]? with
   |none=>rw[hc]at hd;cases hd
   |some c =>
    rw[hc]at hd;cases hd;have hc':y.cps[i]?=some c:=by simpa using hc
    refine⟨?_,fun x' H' yy=>?_⟩
    ·exact(ym.mp hc').1
    ·obtain⟨h1,c',h2,rfl⟩:=yy
     rw[hc']at h2;cases h2;exact⟨h1,.str _⟩
  ·show (y.cps.toList.map sgn).length=y.cps.size
   simp
 |ob t =>
  have e0:=ae e;clear e;obtain⟨ds,_,e2,e⟩:=e0;have aQ:=bB e2;clear e2;obtain⟨g,rfl⟩:=aQ;have e0:=ah e;clear e;obtain⟨rfl,rfl⟩:=e0;obtain⟨a,vs,h1,h2,h3,h4⟩:=aK S1 (.ob t) g;cases h1;refine .inl ⟨_,vs,rfl,aN.of h3,k _ H1 ι1 S1 X1 fun ι2 H2 M2 x2 S2 ok=>?_⟩;have ok':M2[_]?=some (MO.lst ds):=ok;obtain⟨a2,Lk,g1,g2,g3,g4⟩:=aK S2 (.ob (x2.pre _ _ h2)) ok';cases g1;refine⟨fun i d hd=>?_,⟨Lk,aN.of g3,yE (g4.length.symm)⟩⟩;obtain⟨v,hv,rv⟩:=g4.get hd;exact⟨⟨_,v,aN.of g3,hv⟩,fun x' H' y=>⟨y.1,by have:=y.2 _ (aN.of g3);rw[hv]at this;cases this;exact rv⟩⟩
 |_=>exact(ai e).elim
theorem Ew{K:Q_}{ι:List Addr}{H:Hp}{lo hi:Int}:Oy K ι H ⟨none,fE lo hi⟩ (rJ lo (hi-lo).toNat):=fun ι2 H2 M2 x2 S2 _=>by
 refine⟨fun i d hd=>?_,?_⟩
 ·unfold fE at hd
  rw[zA]at hd;cases hc:(List.range (hi-lo).toNat)[i]? with
  |none=>rw[hc]at hd;cases hd
  |some c =>
   rw[hc]at hd;cases hd;obtain⟨h1,h2⟩:=zw.mp hc;rw[yG]at h1;rw[wk]at h2;subst h2;refine⟨h1,fun x' H' y=>?_⟩;obtain⟨y1,rfl⟩:=y;exact⟨y1,.int _⟩
 ·show (hi-lo).toNat<=(fE lo hi).length
  unfold fE;rw[zl,yG];exact zp _
theorem LI.rng1{K:Q_}{f:DE}(σ:St)(H:Hp)(R:It->Hp->Prop)(h:LI K (fun ρ=>do
  let x<-f ρ
  (match x with
  |.int i=>do need (small i);pure ⟨none,fE 0 i⟩
  |_=>Mo.stop)) σ H R):II (cR (LE K f) gS) σ H R:=by
 obtain⟨ι,ρ,M,src,M',S,Rr,e,k⟩:=h;have e0:=ae e;clear e;obtain⟨x,M1,e1,e⟩:=e0;refine⟨ι,ρ,M,x,M1,S,Rr,e1,fun v H1 ι1 r1 S1 X1=>?_⟩;cases r1 with
 |int i =>
  have e0:=ae e;clear e;obtain⟨_,_,e2,e⟩:=e0;have aQ:=aG e2;clear e2;obtain⟨hn,rfl⟩:=aQ;have e0:=ah e;clear e;obtain⟨rfl,rfl⟩:=e0;refine⟨i,rfl,hn.1,hn.2,k _ H1 ι1 S1 X1 ?_⟩
  have:=@Ew K ι1 H1 0 i
  rw[Int.sub_zero]at this;exact this
 |_=>exact(ai e).elim
theorem LI.tq{K:Q_}{f g:DE}(σ:St)(H:Hp)(R:It->Hp->Prop)(h:LI K (fun ρ=>do
  let x<-f ρ
  let y<-g ρ
  (match x,y with
  |.int i,.int j=>do need (small i/\small j);pure ⟨none,fE i j⟩
  |_,_=>Mo.stop)) σ H R):IH (cR (LE K f) (cR (LE K g) gS)) σ H R:=by
 obtain⟨ι,ρ,M,src,M',S,Rr,e,k⟩:=h;have e0:=ae e;clear e;obtain⟨x,M1,e1,e⟩:=e0;have e0:=ae e;clear e;obtain⟨y,M2,e2,e⟩:=e0;refine⟨ι,ρ,M,x,M1,S,Rr,e1,fun v H1 ι1 r1 S1 X1=>?_⟩;refine⟨ι1,ρ,M1,y,M2,S1,Rr.mono X1,e2,fun u H2 ι2 r2 S2 X2=>?_⟩;cases r1 with
 |int i =>
  cases r2 with
  |int j =>
   have e0:=ae e;clear e;obtain⟨_,_,e2,e⟩:=e0;have aQ:=aG e2;clear e2;obtain⟨hn,rfl⟩:=aQ;have e0:=ah e;clear e;obtain⟨rfl,rfl⟩:=e0;exact⟨i,j,rfl,⟨hn.1.1,hn.1.2,hn.2.1,hn.2.2⟩,k _ H2 ι2 S2 (X1.trans X2) Ew⟩
  |_=>exact(ai e).elim
 |_=>exact(ai e).elim
theorem cw{ck:Option (Nat×List D)}{M M':MH}{u:Unit}(h:bN ck M=some (.ok u,M')):gK ck M/\M'=M:=by
 unfold bN at h;split at h
 ·rename_i hp;cases h;exact⟨hp,rfl⟩
 ·cases h
theorem LS.loop{K:Q_}{i:Nat}{fs:Ev->Mo Src}{fb:Ev->Mo Fl}(D:Ends)(σ:St)(H:Hp)(h:LS K (fun ρ=>do let s<-fs ρ;dB s.ck i fb s.ds ρ) D σ H):Bb (LI K fs) (dC i) (LS K fb) D σ H:=by
 obtain⟨ι,ρ,M,fl,M',S,R,e,k⟩:=h;have e0:=ae e;clear e;obtain⟨src,M1,e1,e⟩:=e0;refine⟨ι,ρ,M,src,M1,S,R,e1,fun J H1 ι1 S1 X1 hJ=>?_⟩;refine⟨fun j m σ' H'=>m=src.ds.length-j/\j<=src.ds.length/\∃ι' ρ' M2,aJ K ι' M2 H'/\bL K ι' H' ρ' σ'/\Ext K ι1 H1 ι' H'/\dB src.ck i fb (src.ds.drop j) ρ' M2=some (.ok fl,M'),
  ⟨_,rfl,zZ _,ι1,ρ,M1,S1,R.mono X1,Ext.refl,e⟩,?_⟩
 rintro j m σ' H' ⟨rfl,hj,ι',ρ',M2,S2,R2,X2,e2⟩;by_cases bW:j<src.ds.length
 ·right
  rw[yi bW]at e2;have aQ:=ae e2;clear e2;obtain⟨_,_,e3,e2⟩:=aQ;have bf:=cw e3;clear e3;obtain⟨ok,rfl⟩:=bf;have aQ:=ae e2;clear e2;obtain⟨f,M3,e3,e2⟩:=aQ;obtain⟨go,jf⟩:=(hJ ι' H' _ X2 S2 ok).1 j _ (zr bW);refine⟨go,fun σ3 H3=>∃ι3 ρ3 M4,aJ K ι3 M4 H3/\bL K ι3 H3 ρ3 σ3/\Ext K ι1 H1 ι3 H3/\dB src.ck i fb (src.ds.drop (j+1)) ρ3 M4=some (.ok fl,M'),
   fun σ3 H3 ⟨ι3,ρ3,M4,h1,h2,h3,h4⟩=>⟨src.ds.length-(j+1),by omega,rfl,bW,ι3,ρ3,M4,h1,h2,h3,h4⟩,fun x H'' y=>?_⟩
  obtain⟨rfl,rx⟩:=jf x H'' y;refine⟨ι',_,_,f,M3,S2,R2.set rx i,e3,fun H3 ι3 S3 X3=>?_⟩;cases f with
  |nx ρ3=>exact fun σ3 R3=>⟨ι3,ρ3,M3,S3,R3,X2.trans X3,e2⟩
  |ct ρ3=>exact fun σ3 R3=>⟨ι3,ρ3,M3,S3,R3,X2.trans X3,e2⟩
  |bk ρ3 =>
   have aQ:=ah e2;clear e2;obtain⟨rfl,rfl⟩:=aQ;exact fun σ3 R3=>k H3 ι3 S3 ((X1.trans X2).trans X3) σ3 R3
  |rt v =>
   have aQ:=ah e2;clear e2;obtain⟨rfl,rfl⟩:=aQ;exact fun v' r'=>k H3 ι3 S3 ((X1.trans X2).trans X3) v' r'
 ·left
  have ej:j=src.ds.length:=by first|lia|omega
  subst ej;rw[yC]at e2;have aQ:=ae e2;clear e2;obtain⟨_,_,e3,e2⟩:=aQ;have bf:=cw e3;clear e3;obtain⟨ok,rfl⟩:=bf;have aQ:=ah e2;clear e2;obtain⟨rfl,rfl⟩:=aQ;exact⟨(hJ ι' H' _ X2 S2 ok).2,k H' ι' S2 (X1.trans X2) σ' R2⟩
theorem LE.comp{K:Q_}{j:Nat}{fs:Ev->Mo Src}{fc:Ev->Mo Bool}{fe:DE}(σ:St)(H:Hp)(Q:VK)(h:LE K (fun ρ=>do
  let s<-fs ρ
  need (s.ds.length<=zq)
  let ys<-dQ s.ck fc fe (ρ.set j none) s.ds
  bz (.lst ys)) σ H Q):rX (LI K fs) (dC 0) 1 (LT K fc) (LE K fe) σ H Q:=by
 obtain⟨ι,ρ,M,d,M',S,R,e,k⟩:=h;have e0:=ae e;clear e;obtain⟨src,M1,e1,e⟩:=e0;have e0:=ae e;clear e;obtain⟨_,_,e2,e⟩:=e0;have aQ:=aG e2;clear e2;obtain⟨hn,rfl⟩:=aQ;have e0:=ae e;clear e;obtain⟨all,M2,e2,e⟩:=e0;refine⟨ι,ρ,M,src,_,S,R,e1,fun J H1 ι1 S1 X1 hJ=>?_⟩;refine⟨fun i m ys H'=>m=src.ds.length-i/\i<=src.ds.length/\ys.length<=i/\∃ι' ds rest M3,aJ K ι' M3 H'/\Ext K ι1 H1 ι' H'/\aB K ι' H' ds ys/\dQ src.ck fc fe (ρ.set j none) (src.ds.drop i) M3=some (.ok rest,M2)/\all=ds++rest,
  ⟨_,rfl,zZ _,zp _,ι1,[],all,_,S1,Ext.refl,.nil,e2,rfl⟩,?_⟩
 rintro i m ys H' ⟨rfl,hi,hy,ι',ds,rest,M3,S3,X3,r3,e3,ea⟩;by_cases bW:i<src.ds.length
 ·right
  rw[yi bW]at e3;have bf:=ae e3;clear e3;obtain⟨_,_,e4,e3⟩:=bf;have cA:=cw e4;clear e4;obtain⟨ok,rfl⟩:=cA;have bf:=ae e3;clear e3;obtain⟨b,M4,e4,e3⟩:=bf;obtain⟨go,jf⟩:=(hJ ι' H' _ X3 S3 ok).1 i _ (zr bW);refine⟨go,by omega,fun v H'' os ho y=>?_⟩;obtain⟨rfl,rx⟩:=jf v H'' y;obtain⟨o1,rfl⟩:=List.length_eq_one_iff.mp ho;refine⟨[some v],rfl,rfl,?_⟩;have RR:bL K ι' H'' (some src.ds[i]::ρ.set j none) (some v::σ):=((R.mono X1).mono X3).comp rx j;refine⟨ι',_,_,b,M4,S3,RR,e4,fun H4 ι4 S4 X4=>?_⟩;cases b with
  |true =>
   rw[if_pos rfl]at e3 ⊢;have bf:=ae e3;clear e3;obtain⟨y',M5,e5,e3⟩:=bf;have bf:=ae e3;clear e3;obtain⟨ys',M6,e6,e3⟩:=bf;have bf:=ah e3;clear e3;obtain⟨rfl,rfl⟩:=bf;refine⟨ι4,_,_,y',M5,S4,RR.mono X4,e5,fun v5 H5 ι5 r5 S5 X5=>?_⟩;exact⟨src.ds.length-(i+1),by omega,rfl,bW,by rw[ze];exact xP hy,ι5,ds++[y'],ys',M5,S5,(X3.trans X4).trans X5,((r3.mono X4).mono X5).append (.cons r5 .nil),e6,by rw[ea,wA];rfl⟩
  |false =>
   rw[if_neg zu]at e3 ⊢;exact⟨src.ds.length-(i+1),by omega,rfl,bW,wB hy,ι4,ds,rest,M4,S4,X3.trans X4,r3.mono X4,e3,ea⟩
 ·left
  have ei:i=src.ds.length:=by first|lia|omega
  subst ei;rw[yC]at e3;have bf:=ae e3;clear e3;obtain⟨_,_,e4,e3⟩:=bf;have cA:=cw e4;clear e4;obtain⟨ok,rfl⟩:=cA;have bf:=ah e3;clear e3;obtain⟨rfl,rfl⟩:=bf;rw[zJ]at ea;subst ea;refine⟨(hJ ι' H' _ X3 S3 ok).2,by omega,fF S3 r3 e fun v H5 ι5 r5 S5 X5=>k v H5 ι5 r5 S5 ((X1.trans X3).trans X5)⟩
end
end L3
namespace L3
open PySem PySem.Spec PyProof.Rows L2
section
variable {X:Cx}{pins:List (Addr×Obj)}{σ:St}{H:Hp}{s:Shared}{h':Heap}
structure C8 (X:Cx) (pins:List (Addr×Obj)) (a:Addr):Prop where
 lo:X.s₀.heap.objs.size<=a
 fr:a≠X.env.locals
 cl:∀y c,X.env.cells.lookup y=some c->c≠a
 pn:∀p∈X.pn++pins,p.1≠a
theorem sG(I:Inv X pins σ H s){a:Addr}(h:s.heap.objs.size<=a):C8 X pins a:=by
 refine⟨zN I.sz h,zI (zj I.lt h),fun y c e z=>?_,fun p hp z=>?_⟩
 ·obtain⟨v,o,ho,_⟩:=I.cell y c e
  exact absurd (zj (zn ho) (by rw[z];exact h)) (yu _)
 ·exact absurd (zj (zn (I.pin p hp).1) (by rw[z];exact h)) (yu _)
theorem qT(I:Inv X pins σ H s){a:Addr}{o:HO}(hn:H a=none)(y:C8 X pins a)(new:bK X.prog X.w (upd H a o) s.heap a o):Inv X pins σ (upd H a o) s where
 ok:=I.ok
 os:=I.os
 bare:=I.bare
 base:=Un.adopt I.base (yh y.lo) hn
 loc:=I.loc
 cell:=I.cell
 free:=by rw[aA (Ne.symm y.fr)];exact I.free
 dj:=fun x c e=>by rw[aA (y.cl x c e)];exact I.dj x c e
 pin:=fun p hp=>by
  obtain⟨h1,h2,h3⟩:=I.pin p hp;exact⟨h1,by rw[aA (y.pn p hp)];exact h2,h3⟩
 ax:=cj.adopt I.ax hn new
 len:=I.len
end
section
variable {prog:Program}{w:World}{A:Around}{E:Value->Shared->Prop}{s:Shared}
theorem mR{it t:Addr}{i:Nat}{items:Array Value}{x:Value}{Q:Value->Shared->Prop}(hit:IsTupIter s.heap it t i)(ht:IsTup s.heap t items)(hx:items[i]?=some x)
  (hQ:∀h',IsTupIter h' it t (i+1)->Heap.SameBut it s.heap h'->Q x { s with heap:=h' }):wpAny (model prog w) A (Builtin.SmallTypes.nextOf (.ref it)) Q E s:=by
 obtain⟨o,ho,hc,hd⟩:=id hit;obtain⟨ol,uz,_,nl,EO⟩:=ht;unfold Builtin.SmallTypes.nextOf;refine zz (wpAny_callSpecial?_slot (name:=Str.ofString "__next__") hit.typeIs slot_tupleiter_next (wpAny_call_entry slot_tupleiter_next hit.typeIs entry_tupleiter_next ?_ (args_tupleiter_next _)));show wpAny _ _ (field (.ref it) 0 >>= _) _ _ s;refine zz (wpAny_field ho hd (x:=.ref t) rfl ?_);show wpAny _ _ (if (Value.ref t==Value.none)=true then _ else _) _ _ s;rw[if_neg (show ¬ ((Value.ref t==Value.none)=true) from zu)];show wpAny _ _ (field (.ref it) 1 >>= _) _ _ s;refine zz (wpAny_field ho hd (x:=.int i 0) rfl ?_);show wpAny _ _ (seqItems? (.ref t) >>= _) _ _ s;refine zz (wpAny_seqItems uz EO ?_);simp only[wC,hx];refine zz (wpAny_setField ho hd (by simp) (zt ⟨x,rfl,zt (hQ _ ?_ (Heap.SameBut.update ..))⟩));exact⟨_,yr _ ho (Obj.isFreed_of_fields (Obj.data_mapFields hd _)),(Obj.cls_mapFields ..).trans hc,by rw[Obj.data_mapFields hd];simp[rawInt]⟩
theorem nL{it t:Addr}{i:Nat}{items:Array Value}{Q:Value->Shared->Prop}(hh:A.handled=none)(hit:IsTupIter s.heap it t i)(ht:IsTup s.heap t items)(hx:items[i]?=none)
  (hE:∀h' e,Heap.ExtBut it s.heap h'->(∃o,h'.get? e=some o/\o.cls=.type "StopIteration")->E (.ref e) { s with heap:=h' }):wpAny (model prog w) A (Builtin.SmallTypes.nextOf (.ref it)) Q E s:=by
 obtain⟨o,ho,hc,hd⟩:=id hit;obtain⟨ol,uz,_,nl,EO⟩:=ht;unfold Builtin.SmallTypes.nextOf;refine zz (wpAny_callSpecial?_slot (name:=Str.ofString "__next__") hit.typeIs slot_tupleiter_next (wpAny_call_entry slot_tupleiter_next hit.typeIs entry_tupleiter_next ?_ (args_tupleiter_next _)));show wpAny _ _ (field (.ref it) 0 >>= _) _ _ s;refine zz (wpAny_field ho hd (x:=.ref t) rfl ?_);show wpAny _ _ (if (Value.ref t==Value.none)=true then _ else _) _ _ s;rw[if_neg (show ¬ ((Value.ref t==Value.none)=true) from zu)];show wpAny _ _ (field (.ref it) 1 >>= _) _ _ s;refine zz (wpAny_field ho hd (x:=.int i 0) rfl ?_);show wpAny _ _ (seqItems? (.ref t) >>= _) _ _ s;refine zz (wpAny_seqItems uz EO ?_);simp only[wC,hx];refine zz (wpAny_rule (zz (wpAny_setField ho hd (by simp) ?_)));show wpAny _ _ (newExc (.type "StopIteration") [] >>= _) _ _ _;refine zz ?_;simp only[newExc,newTuple];refine zz (wpAny_newObj_type ?_ (by size_fits));refine zz (m:=firstArgMember _ _) (wpAny_of_eq (a:=Value.none) (by first|rfl|(simp only[firstArgMember];rfl)) ?_)
 refine wpAny_newObj_type ?_ (by size_fits);simp only[raiseNew];refine zz (wpAny_handled ?_);first|rw[show A.in1.handled=none from hh]|rw[hh]
 refine zz (zt (wpAny_throw ?_));exact hE _ _ (((Heap.SameBut.update ..).extBut.push _).push _) ⟨_,zk _ rfl,rfl⟩
theorem Ff(hh:A.handled=none)(it t:Addr)(iE:t≠it)(items:Array Value):Draws prog w A it [it,t] items.size (fun i v=>items[i]?=some v) (fun i h=>IsTupIter h it t i/\IsTup h t items) where
 live:=fun _ _ st=>let ⟨o,ho,_⟩:=st.1;⟨o,ho⟩
 frame:=fun _ _ _ st hk=>⟨let ⟨o,ho,r⟩:=st.1;⟨o,hk it (by simp) _ ho,r⟩,let ⟨o,ho,r⟩:=st.2;⟨o,hk t (by simp) _ ho,r⟩⟩
 item:=fun i s Q E hi st hQ=>by
  refine mR st.1 st.2 (x:=items[i]) (by simp[hi]) fun h' hit' hs'=>?_;exact hQ _ h' s.toks (by simp[hi]) ⟨hit',let ⟨o,ho,r⟩:=st.2;⟨o,hs'.extBut t o iE ho,r⟩⟩ hs'
 done:=fun s Q E st hE=>nL hh st.1 st.2 (by simp) hE
end
noncomputable def PU(K:Q_)(ι:List Addr)(H:Hp)(src:Src)(J:It):Prop:=∀(ι2:List Addr) (H2:Hp) (M2:MH),Ext K ι H ι2 H2->aJ K ι2 M2 H2->gK src.ck M2 ->
 (∀(i:Nat) (d:D),src.ds[i]?=some d->J.go i H2/\∀x H',J.jf i H2 x H'->aJ K ι2 M2 H'/\Ext K ι2 H2 ι2 H'/\Rep K ι2 H' d x)/\J.stop src.ds.length H2
noncomputable def u7(K:Q_)(f:Ev->Mo Src):TI:=fun σ H R=>∃ι ρ M src M',aJ K ι M H/\bL K ι H ρ σ/\f ρ M=some (.ok src,M') /\
 ∀J H' ι',aJ K ι' M' H'->Ext K ι H ι' H'->PU K ι' H' src J->R J H'
theorem u7.to{K:Q_}{f:Ev->Mo Src}(σ:St)(H:Hp)(R:It->Hp->Prop)(h:u7 K f σ H R):LI K f σ H R:=by
 obtain⟨ι,ρ,M,src,M',S,Rr,e,k⟩:=h;refine⟨ι,ρ,M,src,M',S,Rr,e,fun J H' ι' S' X' ok=>k J H' ι' S' X' fun ι2 H2 M2 x2 S2 hk=>?_⟩;obtain⟨h1,h2⟩:=ok ι2 H2 M2 x2 S2 hk;refine⟨fun i d hd=>?_,h2⟩;obtain⟨go,y⟩:=h1 i d hd;refine⟨go,fun x H'' hy=>?_⟩;obtain⟨rfl,r⟩:=y x H'' hy;exact⟨S2,Ext.refl,r⟩
theorem GG{d:D}{p:D×D}(h:pairD d=some p):d=.tup [p.1,p.2]:=by
 unfold pairD at h;split at h
 ·cases h;rfl
 ·cases h
theorem LS.Pn{K:Q_}{i j:Nat}{fs:Ev->Mo Src}{fb:Ev->Mo Fl}(D:Ends)(σ:St)(H:Hp)(h:LS K (fun ρ=>do let s<-fs ρ;fg s.ck i j fb s.ds ρ) D σ H):Bb (u7 K fs) (uG K 2 (jA (dC i) (jA (dC j) uH))) (LS K fb) D σ H:=by
 obtain⟨ι,ρ,M,fl,M',S,R,e,k⟩:=h;have e0:=ae e;clear e;obtain⟨src,M1,e1,e⟩:=e0;refine⟨ι,ρ,M,src,M1,S,R,e1,fun J H1 ι1 S1 X1 hJ=>?_⟩;refine⟨fun n m σ' H'=>m=src.ds.length-n/\n<=src.ds.length/\∃ι' ρ' M2,aJ K ι' M2 H'/\bL K ι' H' ρ' σ'/\Ext K ι1 H1 ι' H'/\fg src.ck i j fb (src.ds.drop n) ρ' M2=some (.ok fl,M'),
  ⟨_,rfl,zZ _,ι1,ρ,M1,S1,R.mono X1,Ext.refl,e⟩,?_⟩
 rintro n m σ' H' ⟨rfl,hj,ι',ρ',M2,S2,R2,X2,e2⟩;by_cases bW:n<src.ds.length
 ·right
  rw[yi bW]at e2;have aQ:=ae e2;clear e2;obtain⟨_,_,e3,e2⟩:=aQ;have bf:=cw e3;clear e3;obtain⟨ok,rfl⟩:=bf;have aQ:=ae e2;clear e2;obtain⟨pr,_,e3,e2⟩:=aQ;have bf:=bj e3;clear e3;obtain⟨VJ,rfl⟩:=bf;have aQ:=ae e2;clear e2;obtain⟨f,M3,e3,e2⟩:=aQ;obtain⟨go,jf⟩:=(hJ ι' H' _ X2 S2 ok).1 n _ (zr bW);refine⟨go,fun σ3 H3=>∃ι3 ρ3 M4,aJ K ι3 M4 H3/\bL K ι3 H3 ρ3 σ3/\Ext K ι1 H1 ι3 H3/\fg src.ck i j fb (src.ds.drop (n+1)) ρ3 M4=some (.ok fl,M'),
   fun σ3 H3 ⟨ι3,ρ3,M4,h1,h2,h3,h4⟩=>⟨src.ds.length-(n+1),by omega,rfl,bW,ι3,ρ3,M4,h1,h2,h3,h4⟩,fun x H'' y=>?_⟩
  obtain⟨S5,X5,rx⟩:=jf x H'' y;rw[GG VJ]at rx;cases rx with
  |tup t q =>
   cases q with
   |cons q1 q2 =>
    cases q2 with
    |cons q2 q3 =>
     cases q3;refine⟨_,_,rfl,bY t,rfl,_,_,rfl,_,_,rfl,rfl,?_⟩;refine⟨ι',_,_,f,M3,S5,((R2.mono X5).set q1 i).set q2 j,e3,fun H3 ι3 S3 X3=>?_⟩;have X6:=X2.trans (X5.trans X3);cases f with
     |nx ρ3=>exact fun σ3 R3=>⟨ι3,ρ3,M3,S3,R3,X6,e2⟩
     |ct ρ3=>exact fun σ3 R3=>⟨ι3,ρ3,M3,S3,R3,X6,e2⟩
     |bk ρ3 =>
      have aQ:=ah e2;clear e2;obtain⟨rfl,rfl⟩:=aQ;exact fun σ3 R3=>k H3 ι3 S3 (X1.trans X6) σ3 R3
     |rt v =>
      have aQ:=ah e2;clear e2;obtain⟨rfl,rfl⟩:=aQ;exact fun v' r'=>k H3 ι3 S3 (X1.trans X6) v' r'
 ·left
  have ej:n=src.ds.length:=by first|lia|omega
  subst ej;rw[yC]at e2;have aQ:=ae e2;clear e2;obtain⟨_,_,e3,e2⟩:=aQ;have bf:=cw e3;clear e3;obtain⟨ok,rfl⟩:=bf;have aQ:=ah e2;clear e2;obtain⟨rfl,rfl⟩:=aQ;exact⟨(hJ ι' H' _ X2 S2 ok).2,k H' ι' S2 (X1.trans X2) σ' R2⟩
end L3
namespace L3
open PySem PySem.Spec PyProof.Rows L2
section
variable {prog:Program}{w:World}{A:Around}{E:Value->Shared->Prop}{s:Shared}
structure AL (z TI TO i1 i2:Addr) (f1 f2:List Addr):Prop where
 TIz:TI≠z
 TOz:TO≠z
 i1z:i1≠z
 i2z:i2≠z
 TITO:TI≠TO
 TIi1:TI≠i1
 TIi2:TI≠i2
 TOi1:TO≠i1
 TOi2:TO≠i2
 z1:z ∉ f1
 z2:z ∉ f2
 t1:TO ∉ f1
 t2:TO ∉ f2
 Vi:i1 ∉ f2
 Vh:i2 ∉ f1
theorem FK{z TI TO i1 i2:Addr}{f1 f2:List Addr}{n1 n2 i:Nat}{P1 P2:Nat->Value->Prop}{S1 S2:Nat->Heap->Prop}{a b:Value}{Q:Value->Shared->Prop}(D:AL z TI TO i1 i2 f1 f2)
  (D1:Draws prog w A i1 f1 n1 P1 S1) (D2:Draws prog w A i2 f2 n2 P2 S2)
  (hz:IsZip s.heap z TI TO .none) (iy:IsPair s.heap TI (.ref i1) (.ref i2)) (ng:IsPair s.heap TO a b) (oq:S1 i s.heap) (st2:S2 i s.heap) (l1:i<n1) (l2:i<n2)
  (hQ:∀x y h' tk,P1 i x->P2 i y->IsZip h' z TI TO (rawInt s.heap.objs.size)->IsPair h' TO x y->S1 (i+1) h'->S2 (i+1) h'->IsPair h' s.heap.objs.size x y ->
   (∀c o,c≠z->c≠TO->c≠i1->c≠i2->s.heap.get? c=some o->h'.get? c=some o)->Q (.ref s.heap.objs.size) { s with heap:=h',toks:=tk }) :
  wpAny (model prog w) A (Builtin.«zip.__next__» ⟨[.ref z],[]⟩) (fun fin s'=>∃v,fin=.done (.ret v)/\Q v s') E s:=by
 show wpAny _ _ (field (.ref z) 2 >>= _) _ _ _;refine zz (wpAny_field hz rfl (x:=.bool false) rfl ?_);show wpAny _ _ (field (.ref z) 3 >>= _) _ _ _;refine zz (wpAny_field hz rfl (x:=.ref TI) rfl ?_);refine zz (wpAny_seqItems iy rfl ?_);show wpAny _ _ (Builtin.SmallTypes.ownedTupleIsFree (.ref z) >>= _) _ _ _;refine zz ?_;unfold Builtin.SmallTypes.ownedTupleIsFree;refine zz (wpAny_field hz rfl (x:=.none) rfl (zt ?_));simp only[if_true];refine zz (wpAny_rule ?_);refine zz (wpAny_field hz rfl (x:=.ref TO) rfl ?_);refine zz (wpAny_setField_rec hz (by simp) fun h₁ kP jz=>?_);replace kP:IsZip h₁ z TI TO .ellipsis:=kP;refine zz ?_;simp only[wG,wL,xU,wQ];refine zz (zz (wpAny_onRaise ?_));show wpAny _ _ (Builtin.SmallTypes.nextOf (.ref i1) >>= _) _ _ _;have k1:∀b∈f1,∀o,s.heap.get? b=some o->h₁.get? b=some o:=fun b hb o e=>jz.extBut b o (fun q=>D.z1 (q▸hb)) e;refine zz (D1.item i { s with heap:=h₁ } _ _ l1 (D1.frame _ _ _ oq k1) fun x h₂ A9 p1 LH hs₂=>zt ?_);replace hs₂:Heap.SameBut i1 h₁ h₂:=hs₂;have EV:IsPair h₂ TO a b:=hs₂.extBut _ _ D.TOi1 (jz.extBut _ _ D.TOz ng);refine zz (wpAny_seqItems (s:={ s with heap:=h₂,toks:=A9 }) EV rfl ?_);refine zz (wpAny_updateSeq_pair (s:={ s with heap:=h₂,toks:=A9 }) EV fun h₃ uC hU=>?_);replace uC:IsPair h₃ TO x b:=uC;replace hU:Heap.SameBut TO h₂ h₃:=hU;refine zz (wpAny_letGo (zt ?_));refine zz (zz (wpAny_onRaise ?_));show wpAny _ _ (Builtin.SmallTypes.nextOf (.ref i2) >>= _) _ _ _;have k2:∀b∈f2,∀o,s.heap.get? b=some o->h₃.get? b=some o:=fun b hb o e =>
  hU.extBut b o (fun q=>D.t2 (q▸hb)) (hs₂.extBut b o (fun q=>D.Vi (q▸hb)) (jz.extBut b o (fun q=>D.z2 (q▸hb)) e))
 refine zz (D2.item i { s with heap:=h₃,toks:=A9 } _ _ l2 (D2.frame _ _ _ st2 k2) fun y h₄ mq p2 LF kR=>zt ?_);replace kR:Heap.SameBut i2 h₃ h₄:=kR;have EU:IsPair h₄ TO x b:=kR.extBut _ _ D.TOi2 uC;refine zz (wpAny_seqItems (s:={ s with heap:=h₄,toks:=mq }) EU rfl ?_);refine zz (wpAny_updateSeq_pair (s:={ s with heap:=h₄,toks:=mq }) EU fun h₅ oZ kQ=>?_);replace oZ:IsPair h₅ TO x y:=oZ;replace kQ:Heap.SameBut TO h₄ h₅:=kQ;refine zz (wpAny_letGo (zt (zt ?_)));refine zz (wpAny_seqItems (s:={ s with heap:=h₅,toks:=mq }) oZ rfl ?_);refine zz (wpAny_newTuple ?_);have hsz:h₅.objs.size=s.heap.objs.size:=by rw[kQ.1,kR.1,hU.1,hs₂.1,jz.1]
 have IJ:IsZip h₅ z TI TO .ellipsis:=kQ.extBut _ _ D.TOz.symm (kR.extBut _ _ D.i2z.symm (hU.extBut _ _ D.TOz.symm (hs₂.extBut _ _ D.i1z.symm kP)));have hk₅:∀c o,c≠z->c≠TO->c≠i1->c≠i2->s.heap.get? c=some o->h₅.get? c=some o:=fun c o c1 c2 c3 c4 e =>
  kQ.extBut _ _ c2 (kR.extBut _ _ c4 (hU.extBut _ _ c2 (hs₂.extBut _ _ c3 (jz.extBut _ _ c1 e))))
 have LG:S1 (i+1) h₅:=D1.frame _ _ _ LH fun b hb o e=>kQ.extBut b o (fun q=>D.t1 (q▸hb)) (kR.extBut b o (fun q=>D.Vh (q▸hb)) (hU.extBut b o (fun q=>D.t1 (q▸hb)) e));have LD:S2 (i+1) h₅:=D2.frame _ _ _ LF fun b hb o e=>kQ.extBut b o (fun q=>D.t2 (q▸hb)) e;have Nu:z<h₅.objs.size:=zn IJ;show wpAny _ _ (Builtin.SmallTypes.ownedTupleHandOut (.ref z) (.ref h₅.objs.size) >>= _) _ _ _;refine zz ?_;unfold Builtin.SmallTypes.ownedTupleHandOut;have Pr:IsZip (h₅.push { cls:=.type "tuple",data:=.seq #[x,y] }) z TI TO .ellipsis:=zy _ IJ;refine zz (wpAny_setField_rec (s:={ s with heap:=h₅.push { cls:=.type "tuple",data:=.seq #[x,y] },toks:=mq }) Pr (by simp) fun h₇ CB IV=>?_);replace CB:IsZip h₇ z TI TO (rawInt h₅.objs.size):=CB;refine wpAny_setField_rec (s:={ s with heap:=h₇,toks:=mq }) CB (by simp) fun h₈ rZ IU=>?_;replace rZ:IsZip h₈ z TI TO (rawInt h₅.objs.size):=rZ;have up:∀c o,c≠z->h₅.get? c=some o->h₈.get? c=some o:=fun c o c1 e=>IU.extBut _ _ c1 (IV.extBut _ _ c1 (zy _ e));have Jl:IsPair h₈ h₅.objs.size x y:=IU.extBut _ _ (zI Nu) (IV.extBut _ _ (zI Nu) (zk _ rfl));rw[hsz]at rZ Jl;refine zt ⟨_,rfl,?_⟩;show Q (.ref h₅.objs.size) _;rw[hsz];exact hQ x y h₈ mq p1 p2 rZ (up _ _ D.TOz oZ) (D1.frame _ _ _ LG fun b hb o e=>up b o (fun q=>D.z1 (q▸hb)) e) (D2.frame _ _ _ LD fun b hb o e=>up b o (fun q=>D.z2 (q▸hb)) e) Jl fun c o c1 c2 c3 c4 e=>up c o c1 (hk₅ c o c1 c2 c3 c4 e)
theorem JI{z TI TO i1 i2:Addr}{f1 f2:List Addr}{n1:Nat}{P1:Nat->Value->Prop}{S1:Nat->Heap->Prop}{Q:Fin->Shared->Prop}(D:AL z TI TO i1 i2 f1 f2)(D1:Draws prog w A i1 f1 n1 P1 S1)
  (hz:IsZip s.heap z TI TO .none) (iy:IsPair s.heap TI (.ref i1) (.ref i2)) (oq:S1 n1 s.heap)
  (hE:∀h' e,(∀c o,c≠z->c≠i1->s.heap.get? c=some o->h'.get? c=some o)->(∃o,h'.get? e=some o/\o.cls=.type "StopIteration")->E (.ref e) { s with heap:=h' }) :
  wpAny (model prog w) A (Builtin.«zip.__next__» ⟨[.ref z],[]⟩) Q E s:=by
 show wpAny _ _ (field (.ref z) 2 >>= _) _ _ _;refine zz (wpAny_field hz rfl (x:=.bool false) rfl ?_);show wpAny _ _ (field (.ref z) 3 >>= _) _ _ _;refine zz (wpAny_field hz rfl (x:=.ref TI) rfl ?_);refine zz (wpAny_seqItems iy rfl ?_);show wpAny _ _ (Builtin.SmallTypes.ownedTupleIsFree (.ref z) >>= _) _ _ _;refine zz ?_;unfold Builtin.SmallTypes.ownedTupleIsFree;refine zz (wpAny_field hz rfl (x:=.none) rfl (zt ?_));simp only[if_true];refine zz (wpAny_rule ?_);refine zz (wpAny_field hz rfl (x:=.ref TO) rfl ?_);refine zz (wpAny_setField_rec hz (by simp) fun h₁ kP jz=>?_);replace kP:IsZip h₁ z TI TO .ellipsis:=kP;refine zz ?_;simp only[wG,wL,xU,wQ];refine zz (zz (wpAny_onRaise ?_));show wpAny _ _ (Builtin.SmallTypes.nextOf (.ref i1) >>= _) _ _ _;have k1:∀b∈f1,∀o,s.heap.get? b=some o->h₁.get? b=some o:=fun b hb o e=>jz.extBut b o (fun q=>D.z1 (q▸hb)) e;refine zz (D1.done { s with heap:=h₁ } _ _ (D1.frame _ _ _ oq k1) fun h₂ e hs₂ he=>?_);replace hs₂:Heap.ExtBut i1 h₁ h₂:=hs₂;obtain⟨oe,ND,QL⟩:=he;have IK:IsZip h₂ z TI TO .ellipsis:=hs₂ _ _ D.i1z.symm kP;have V2:e≠z:=fun x=>by subst x;rw[IK]at ND;cases ND;simp at QL
 refine wpAny_setField_rec (s:={ s with heap:=h₂ }) IK (by simp) fun h₃ _ hU=>hE h₃ e (fun c o c1 c3 x=>hU.extBut _ _ c1 (hs₂ _ _ c3 (jz.extBut _ _ c1 x))) ⟨oe,hU.extBut _ _ V2 ND,QL⟩
theorem oC{z TI TO i1 i2:Addr}{f1 f2:List Addr}{n1 n2 i:Nat}{P1 P2:Nat->Value->Prop}{S1 S2:Nat->Heap->Prop}{a b:Value}{Q:Option Value->Shared->Prop}(D:AL z TI TO i1 i2 f1 f2)
  (D1:Draws prog w A.in1 i1 f1 n1 P1 S1) (D2:Draws prog w A.in1 i2 f2 n2 P2 S2)
  (hz:IsZip s.heap z TI TO .none) (iy:IsPair s.heap TI (.ref i1) (.ref i2)) (ng:IsPair s.heap TO a b) (oq:S1 i s.heap) (st2:S2 i s.heap) (l1:i<n1) (l2:i<n2)
  (hQ:∀x y h' tk,P1 i x->P2 i y->IsZip h' z TI TO (rawInt s.heap.objs.size)->IsPair h' TO x y->S1 (i+1) h'->S2 (i+1) h'->IsPair h' s.heap.objs.size x y ->
   (∀c o,c≠z->c≠TO->c≠i1->c≠i2->s.heap.get? c=some o->h'.get? c=some o)->Q (some (.ref s.heap.objs.size)) { s with heap:=h',toks:=tk }) :
  wpAny (model prog w) A (pyNext (.ref z)) Q E s:=by
 have hT:s.TypeIs (.ref z) "zip":=⟨_,hz,rfl⟩;unfold pyNext;exact zz (wpAny_attempt (wpAny_callSpecial?_slot (name:=Str.ofString "__next__") hT F.slot_zip_next
  (wpAny_call_entry F.slot_zip_next hT F.entry_zip_next
   (FK D D1 D2 hz iy ng oq st2 l1 l2 fun x y h' tk a1 a2 a3 a4 a5 a6 a7 a8=>zt (hQ x y h' tk a1 a2 a3 a4 a5 a6 a7 a8)) (F.args_zip_next_1 _))))
theorem p6{z TI TO i1 i2:Addr}{f1 f2:List Addr}{n1:Nat}{P1:Nat->Value->Prop}{S1:Nat->Heap->Prop}{Q:Option Value->Shared->Prop}(D:AL z TI TO i1 i2 f1 f2)(D1:Draws prog w A.in1 i1 f1 n1 P1 S1)
  (hz:IsZip s.heap z TI TO .none) (iy:IsPair s.heap TI (.ref i1) (.ref i2)) (oq:S1 n1 s.heap)
  (hQ:∀h',(∀c o,c≠z->c≠i1->s.heap.get? c=some o->h'.get? c=some o)->Q none { s with heap:=h' }):wpAny (model prog w) A (pyNext (.ref z)) Q E s:=by
 have hT:s.TypeIs (.ref z) "zip":=⟨_,hz,rfl⟩;unfold pyNext;refine zz (wpAny_attempt (wpAny_callSpecial?_slot (name:=Str.ofString "__next__") hT F.slot_zip_next
  (wpAny_call_entry F.slot_zip_next hT F.entry_zip_next (JI D D1 hz iy oq fun h' e hk he=>?_) (F.args_zip_next_1 _))))
 obtain⟨o,ho,hc⟩:=he;refine zz (wpAny_isInstance (T:="StopIteration") (b:=true) ⟨o,ho,hc⟩ isSubtype_stop ?_);exact zt (hQ _ hk)
noncomputable def c9(n:String)(h:Heap)(l1 l2:Addr):Heap :=
 ((((h.push { cls:=.type n,data:=.fields #[.ref l1,.int 0 0] }).push { cls:=.type n,data:=.fields #[.ref l2,.int 0 0] }).push { cls:=.type "tuple",data:=.seq #[.ref h.objs.size,.ref (h.objs.size+1)] }).push
  { cls:=.type "tuple",data:=.seq #[.none,.none] }).push { cls:=.type "zip",data:=.fields #[.none,.bool false,.bool false,.ref (h.objs.size+2),.ref (h.objs.size+3)] }
theorem qf(l1 l2:Addr)(xs ys:Array Value) :
  Meets (Builtin.«zip.__new__» ⟨[.type "zip",.ref l1,.ref l2],[]⟩) (fun _ R s=>IsTup s.heap l1 xs/\IsTup s.heap l2 ys /\
   R (.ok (.ret (.ref (s.heap.objs.size+4)))) { s with heap:=c9 "tuple_iterator" s.heap l1 l2 }) :=
 .of_wp fun prog w A R s h=>by
  obtain⟨hp,g,d,tk,os⟩:=s;obtain⟨EI,qW,h⟩:=h;have Yq:=sub_zip;have Wk:IsTup (Shared.heap ⟨hp,g,d,tk,os⟩) l1 xs:=EI;have Wj:IsTup (Shared.heap ⟨hp.push { cls:=.type "tuple_iterator",data:=.fields #[.ref l1,.int 0 0] },g,d,tk,os⟩) l2 ys:=let ⟨o,e,r⟩:=qW;⟨o,zy _ e,r⟩;unfold c9 at h;simp only[zV]at h;wp_walk using iter_tuple Wk,iter_tuple Wj;simp only[zV];exact⟨_,rfl,h⟩
end
section
variable {prog:Program}{w:World}{A:Around}{E:Value->Shared->Prop}{s:Shared}
theorem zip_parts(n:String)(h:Heap)(l1 l2:Addr):IsZip (c9 n h l1 l2) (h.objs.size+4) (h.objs.size+2) (h.objs.size+3) .none/\IsPair (c9 n h l1 l2) (h.objs.size+2) (.ref h.objs.size) (.ref (h.objs.size+1)) /\
  IsPair (c9 n h l1 l2) (h.objs.size+3) .none .none/\(c9 n h l1 l2).get? h.objs.size=some { cls:=.type n,data:=.fields #[.ref l1,.int 0 0] }/\(c9 n h l1 l2).get? (h.objs.size+1)=some { cls:=.type n,data:=.fields #[.ref l2,.int 0 0] } /\
  ∀c o,h.get? c=some o->(c9 n h l1 l2).get? c=some o:=by
 have z1:(h.push { cls:=.type n,data:=.fields #[.ref l1,.int 0 0] }).objs.size=h.objs.size+1:=zV ..;have z2:((h.push { cls:=.type n,data:=.fields #[.ref l1,.int 0 0] }).push { cls:=.type n,data:=.fields #[.ref l2,.int 0 0] }).objs.size=h.objs.size+2:=by rw[zV,z1]
 have z3:(((h.push { cls:=.type n,data:=.fields #[.ref l1,.int 0 0] }).push { cls:=.type n,data:=.fields #[.ref l2,.int 0 0] }).push { cls:=.type "tuple",data:=.seq #[.ref h.objs.size,.ref (h.objs.size+1)] }).objs.size=h.objs.size+3:=by rw[zV,z2]
 have z4:((((h.push { cls:=.type n,data:=.fields #[.ref l1,.int 0 0] }).push { cls:=.type n,data:=.fields #[.ref l2,.int 0 0] }).push { cls:=.type "tuple",data:=.seq #[.ref h.objs.size,.ref (h.objs.size+1)] }).push
  { cls:=.type "tuple",data:=.seq #[.none,.none] }).objs.size=h.objs.size+4:=by rw[zV,z3]
 unfold c9;refine⟨?_,?_,?_,?_,?_,fun c o e=>zy _ (zy _ (zy _ (zy _ (zy _ e))))⟩
 ·rw[<- z4];exact zk _ rfl
 ·refine zy _ (zy _ ?_)
  rw[<- z2];exact zk _ rfl
 ·refine zy _ ?_
  rw[<- z3];exact zk _ rfl
 ·exact zy _ (zy _ (zy _ (zy _ (zk _ rfl))))
 ·refine zy _ (zy _ (zy _ ?_))
  rw[<- z1];exact zk _ rfl
theorem Fo{l1 l2:Addr}{xs ys:Array Value}{Q:Value->Shared->Prop}(EI:IsTup s.heap l1 xs)(qW:IsTup s.heap l2 ys)(h:Q (.ref (s.heap.objs.size+4)) { s with heap:=c9 "tuple_iterator" s.heap l1 l2 }) :
  wpAny (model prog w) A (call (.type "zip") [.ref l1,.ref l2]) Q E s:=by
 refine callType_new F.called_zip (by decide) (F.typeCall_zip_2 _ _) (F.newCall_zip_2 _ _) (fun obj=>F.args_object_init_3 obj _ _) F.entry_zip_new (qf l1 l2 xs ys) ⟨EI,qW,?_⟩;show _/\_;exact⟨⟨_,(zip_parts _ _ _ _).1,rfl⟩,h⟩
theorem Fp{l1 l2:Addr}{xs ys:Array Value}{Q:Value->Shared->Prop}(EI:s.heap.IsList l1 xs)(qW:s.heap.IsList l2 ys)(h:Q (.ref (s.heap.objs.size+4)) { s with heap:=c9 "list_iterator" s.heap l1 l2 }) :
  wpAny (model prog w) A (call (.type "zip") [.ref l1,.ref l2]) Q E s:=by
 refine callType_new F.called_zip (by decide) (F.typeCall_zip_2 _ _) (F.newCall_zip_2 _ _) (fun obj=>F.args_object_init_3 obj _ _) F.entry_zip_new (meets_zip_new l1 l2 xs ys) ⟨EI,qW,?_⟩;have e:zipH5 s.heap l1 l2=c9 "list_iterator" s.heap l1 l2:=by
  unfold c9;simp only[zipH5,zipH4,zipH3,zipH2,zipH1,zV,wT,wU]
 have e4:(zipH4 s.heap l1 l2).objs.size=s.heap.objs.size+4:=by simp only[zipH4,zipH3,zipH2,zipH1,zV,wT,wU]
 rw[e,e4];show _/\_;exact⟨⟨_,(zip_parts _ _ _ _).1,rfl⟩,h⟩
end
section
variable {X:Cx}{pins:List (Addr×Obj)}{σ:St}{H:Hp}{s:Shared}{h':Heap}
theorem vS{t':Nat}(ch:List Addr)(I:Inv X pins σ H s)(k':∀c o,c ∉ ch->s.heap.get? c=some o->h'.get? c=some o)(f:∀b∈ch,fG X pins H b):Inv X pins σ H { s with heap:=h',toks:=t' }:=by
 have na:∀c u,H c=some u->c ∉ ch:=fun c u e hc=>by have:=(f c hc).1;rw[e]at this;cases this
 refine I.step (g':=s.gens) (d':=s.drawn) (ch:=ch) (fun c hc=>?_) (fun c o _ _ hc e _=>k' c o hc e) (fun c o _ _ hc e _=>⟨o.slots,k' c o hc e⟩) (fun _ _ _ _ n=>n)
  (fun c o hc e=>⟨o,k' c o hc e⟩) (fun _ _ e=>e) (fun _ _ _ e=>e) (fun c ps e=>⟨#[],by rw[e];simp⟩) (fun m hm=>?_) (fun c u e=>?_) I.bare
 ·obtain⟨_,a1,_,a3,a4,a5⟩:=f c hc
  exact⟨a3,a1,a4,a5⟩
 ·obtain⟨o,es,ep,ho,r⟩:=hm
  exact⟨o,es,ep,k' _ o (fun hc=>(f _ hc).2.1 rfl) ho,r⟩
 ·refine(I.ax c u e).jR (fun d v hd q=>?_) (fun _ q=>q) fun _ _ q=>q
  rcases hd with z|z
  ·exact k' d v (by rw[z];exact na c u e) q
  ·exact k' d v (na d _ z) q
end
noncomputable def JF(q:Hp->Addr->List V->Prop)(a b:Addr):It :=
 ⟨fun i H=>∃xs ys x y,q H a xs/\q H b ys/\xs[i]?=some x/\ys[i]?=some y,fun i H v H'=>∃p x y,v=.ref p/\H p=none/\H'=upd H p (.tup [x,y])/\(∀xs,q H a xs->xs[i]?=some x)/\∀ys,q H b ys->ys[i]?=some y,
  fun i H=>∃xs ys,q H a xs/\q H b ys/\xs.length=i⟩
structure C7 (P:Program) (w:World) (K:Q_) (q:Hp->Addr->List V->Prop) (S:Nat->Addr->Addr->Heap->Prop) (T:Addr->Array Value->Heap->Prop) (n:String):Prop where
 it:∀i it a h,S i it a h->∃o vs,h.get? it=some o/\o.cls=.type n/\o.data=.fields vs
 fr:∀i it a h h',S i it a h->(∀o,h.get? it=some o->h'.get? it=some o)->S i it a h'
 dr:∀(A:Around) (it a:Addr) (items:Array Value),A.handled=none->a≠it->Draws P w A it [it,a] items.size (fun i v=>items[i]?=some v) (fun i h=>S i it a h/\T a items h)
 tt:∀a items h,T a items h->∃o,h.get? a=some o/\(o.cls=.type "list"\/o.cls=.type "tuple")
 sq:∀(X:Cx) (pins:List (Addr×Obj)) (σ:St) (H:Hp) (s:Shared) (a:Addr) (xs:List V),X.prog=P->X.w=w->X.K=K->Inv X pins σ H s->q H a xs->∃its,Vals xs its/\T a its.toArray s.heap
 inj:∀(X:Cx) (pins:List (Addr×Obj)) (σ:St) (H:Hp) (s:Shared) (a:Addr) (xs ys:List V),X.prog=P->X.w=w->X.K=K->Inv X pins σ H s->q H a xs->q H a ys->xs=ys
 ne:n≠"list"/\n≠"tuple"
theorem JG{P:Program}{w:World}{K:Q_}:C7 P w K (aN K) (fun i it a h=>h.IsListIter it a i) (fun a items h=>h.IsList a items) "list_iterator" where
 it:=fun i it a h st=>let ⟨o,h1,c,d⟩:=st;⟨o,_,h1,c,d⟩
 fr:=fun i it a h h' st k=>st.at k
 dr:=fun A it a items hh ne=>Draws.list hh it a ne items
 tt:=fun a items h t=>let ⟨o,h1,c,_⟩:=t;⟨o,h1,.inl c⟩
 sq:=fun X pins σ H s a xs hP hw hK I hq=>by
  subst hP hw hK;obtain⟨its,rv,p,hz⟩:=I.list hq;exact⟨its,rv,p.isList⟩
 inj:=fun X pins σ H s a xs ys hP hw hK I h1 h2=>by subst hP hw hK;exact I.uj h1 h2
 ne:=⟨by decide,by decide⟩
theorem Lh{P:Program}{w:World}{K:Q_}:C7 P w K (cD K) (fun i it a h=>IsTupIter h it a i) (fun a items h=>IsTup h a items) "tuple_iterator" where
 it:=fun i it a h st=>let ⟨o,h1,c,d⟩:=st;⟨o,_,h1,c,d⟩
 fr:=fun i it a h h' st k=>let ⟨o,h1,r⟩:=st;⟨o,k _ h1,r⟩
 dr:=fun A it a items hh ne=>Ff hh it a ne items
 tt:=fun a items h t=>let ⟨o,h1,c,_⟩:=t;⟨o,h1,.inr c⟩
 sq:=fun X pins σ H s a xs hP hw hK I hq=>by
  subst hP hw hK;obtain⟨its,rv,p,hz⟩:=I.tuple hq;exact⟨its,rv,p⟩
 inj:=fun X pins σ H s a xs ys hP hw hK I h1 h2=>by subst hP hw hK;exact I.lM h1 h2
 ne:=⟨by decide,by decide⟩
structure Q8 (z TI TO i1 i2:Addr):Prop where
 TIz:TI≠z
 TOz:TO≠z
 i1z:i1≠z
 i2z:i2≠z
 TITO:TI≠TO
 TIi1:TI≠i1
 TIi2:TI≠i2
 TOi1:TO≠i1
 TOi2:TO≠i2
 i12:i1≠i2
theorem TL(n:Nat):Q8 (n+4) (n+2) (n+3) n (n+1):=by
 constructor <;> (intro h;have h:(_:Nat)=_:=h;omega)
theorem sP{P:Program}{w:World}{K:Q_}{q:Hp->Addr->List V->Prop}{S:Nat->Addr->Addr->Heap->Prop}{T:Addr->Array Value->Heap->Prop}{n:String}(Z:C7 P w K q S T n){es:List Expr}{x1:Nat}{pos:Pos}{a b z TI TO i1 i2:Addr}(ne:Q8 z TI TO i1 i2)
  (fr:∀c∈[z,TI,TO,i1,i2],c≠a/\c≠b) :
  Turn P w K (.Tuple es x1 pos) (JF q a b) [z,TI,TO,i1,i2] z (fun i h=>IsZip h z TI TO .none/\IsPair h TI (.ref i1) (.ref i2)/\(∃u v,IsPair h TO u v)/\S i i1 a h/\S i i2 b h) where
 mem:=by simp
 obj:=fun i h st c hc=>by
  obtain⟨hz,iy,⟨u,v,ng⟩,s1,s2⟩:=st;simp only[zi,zB,or_false]at hc;rcases hc with rfl|rfl|rfl|rfl|rfl
  ·exact⟨_,hz,fun v e=>by cases e⟩
  ·exact⟨_,iy,fun v e=>by cases e⟩
  ·exact⟨_,ng,fun v e=>by cases e⟩
  ·obtain⟨o,vs,h1,_,d⟩:=Z.it _ _ _ _ s1
   exact⟨o,h1,fun v e=>by rw[d]at e;cases e⟩
  ·obtain⟨o,vs,h1,_,d⟩:=Z.it _ _ _ _ s2
   exact⟨o,h1,fun v e=>by rw[d]at e;cases e⟩
 keep:=fun i h h' st k=>by
  obtain⟨hz,iy,⟨u,v,ng⟩,s1,s2⟩:=st;exact⟨k z (by simp) _ hz,k TI (by simp) _ iy,⟨u,v,k TO (by simp) _ ng⟩,Z.fr _ _ _ _ _ s1 fun o e=>k i1 (by simp) o e,Z.fr _ _ _ _ _ s2 fun o e=>k i2 (by simp) o e⟩
 item:=by
  intro X hP hw hK hc i pins s σ H E I hf st hg;obtain⟨hz,iy,⟨u,v,ng⟩,s1,s2⟩:=st;obtain⟨xs,ys,x,y,IY,NA,hx,hy⟩:=hg;obtain⟨ur,DL,T1⟩:=Z.sq X pins σ H s a xs hP hw hK I IY;obtain⟨Iz,DK,T2⟩:=Z.sq X pins σ H s b ys hP hw hK I NA;obtain⟨u1,Qw,UN⟩:=DL.get hx;obtain⟨u2,Qv,L5⟩:=DK.get hy;have na:∀c∈[z,TI,TO,i1,i2],c≠a:=fun c hc=>(fr c hc).1;have nb:∀c∈[z,TI,TO,i1,i2],c≠b:=fun c hc=>(fr c hc).2;have D1:=Z.dr X.A.in1 i1 a ur.toArray (I.ok.hd hc) (Ne.symm (na i1 (by simp)));have D2:=Z.dr X.A.in1 i2 b Iz.toArray (I.ok.hd hc) (Ne.symm (nb i2 (by simp)));have D:AL z TI TO i1 i2 [i1,a] [i2,b]:=⟨ne.TIz,ne.TOz,ne.i1z,ne.i2z,ne.TITO,ne.TIi1,ne.TIi2,ne.TOi1,ne.TOi2,by simp[Ne.symm ne.i1z,na z],by simp[Ne.symm ne.i2z,nb z],by simp[ne.TOi1,na TO],by simp[ne.TOi2,nb TO],by simp[ne.i12,nb i1],by simp[Ne.symm ne.i12,na i2]⟩;refine oC D D1 D2 hz iy ng ⟨s1,T1⟩ ⟨s2,T2⟩ (by rw[zo];exact(zw.mp Qw).1) (by rw[zo];exact(zw.mp Qv).1) fun v1 v2 h1 tk p1 p2 ho Sq oq st2 hT hk=>?_;have e1:v1=u1:=by
   have:ur.toArray[i]?=some u1:=by simpa using Qw
   rw[this]at p1;cases p1;rfl
  have e2:v2=u2:=by
   have:Iz.toArray[i]?=some u2:=by simpa using Qv
   rw[this]at p2;cases p2;rfl
  subst e1 e2;refine⟨_,rfl,wpAny_letOwnedTupleGo_zip (s:={ s with heap:=h1,toks:=tk }) ho fun h2 Vy sb=>?_⟩;replace sb:Heap.SameBut z h1 h2:=sb;have Qp:z<s.heap.objs.size:=zn hz;have keep:∀c o,c ∉ [z,TI,TO,i1,i2]->s.heap.get? c=some o->h2.get? c=some o:=fun c o hc e=>by
   simp only[zi,zB,or_false,not_or]at hc;exact(sb.2 c hc.1).trans (hk c o hc.1 hc.2.2.1 hc.2.2.2.1 hc.2.2.2.2 e)
  have I1:Inv X pins σ H { s with heap:=h2,toks:=tk }:=vS _ I keep hf;have dZ:H s.heap.objs.size=none:=I.ax.fresh (zp _);have Qx:h2.get? s.heap.objs.size=some { cls:=.type "tuple",data:=.seq #[v1,v2] }:=(sb.2 _ (zI Qp)).trans hT;have yg:C8 X pins s.heap.objs.size:=sG I (zp _);have I2:Inv X pins σ (upd H s.heap.objs.size (.tup [x,y])) { s with heap:=h2,toks:=tk } :=
   qT I1 dZ yg ⟨by show 2<=zq;decide,[v1,v2],.cons UN (.cons L5 .nil),⟨⟨_,Qx,rfl,0,rfl⟩,fun o q=>by rw[Qx]at q;cases q;exact⟨rfl,rfl⟩⟩⟩
  refine⟨.ref s.heap.objs.size,_,I2,rfl,⟨_,x,y,rfl,dZ,rfl,fun zs hz=>by rw[Z.inj X pins σ H s a _ _ hP hw hK I hz IY];exact hx,fun zs hz=>by rw[Z.inj X pins σ H s b _ _ hP hw hK I hz NA];exact hy⟩,⟨Vy,?_,⟨_,_,(sb.2 _ ne.TOz).trans Sq⟩,?_,?_⟩,fun c hc=>?_⟩
  ·exact(sb.2 _ ne.TIz).trans (hk _ _ ne.TIz ne.TITO ne.TIi1 ne.TIi2 iy)
  ·exact Z.fr _ _ _ _ _ oq.1 fun o e=>(sb.2 _ ne.i1z).trans e
  ·exact Z.fr _ _ _ _ _ st2.1 fun o e=>(sb.2 _ ne.i2z).trans e
  ·have V9:H c=none:=(hf c hc).1
   have lt:c<s.heap.objs.size:=by
    simp only[zi,zB,or_false]at hc;rcases hc with rfl|rfl|rfl|rfl|rfl
    ·exact Qp
    ·exact zn iy
    ·exact zn ng
    ·obtain⟨o,vs,h1,_⟩:=Z.it _ _ _ _ s1
     exact zn h1
    ·obtain⟨o,vs,h1,_⟩:=Z.it _ _ _ _ s2
     exact zn h1
   rw[aA (zC lt)];exact V9
 done:=by
  intro X hP hw hK hc i pins s σ H E I hf st hg;obtain⟨hz,iy,_,s1,s2⟩:=st;obtain⟨xs,ys,IY,NA,hx⟩:=hg;obtain⟨ur,DL,T1⟩:=Z.sq X pins σ H s a xs hP hw hK I IY;have na:∀c∈[z,TI,TO,i1,i2],c≠a:=fun c hc=>(fr c hc).1;have nb:∀c∈[z,TI,TO,i1,i2],c≠b:=fun c hc=>(fr c hc).2;have D1:=Z.dr X.A.in1 i1 a ur.toArray (I.ok.hd hc) (Ne.symm (na i1 (by simp)));have D:AL z TI TO i1 i2 [i1,a] [i2,b]:=⟨ne.TIz,ne.TOz,ne.i1z,ne.i2z,ne.TITO,ne.TIi1,ne.TIi2,ne.TOi1,ne.TOi2,by simp[Ne.symm ne.i1z,na z],by simp[Ne.symm ne.i2z,nb z],by simp[ne.TOi1,na TO],by simp[ne.TOi2,nb TO],by simp[ne.i12,nb i1],by simp[Ne.symm ne.i12,na i2]⟩;have e:ur.toArray.size=i:=by rw[zo,<- DL.length];exact hx
  exact p6 D D1 hz iy ⟨by rw[e];exact s1,T1⟩ fun h' hk=>⟨rfl,vS (t':=s.toks) [z,TI,TO,i1,i2] I (fun c o hc e=>by
   simp only[zi,zB,or_false,not_or]at hc;exact hk c o hc.1 hc.2.2.2.1 e) hf⟩
 self:=fun _ _ _ _ _ st h=>wpAny_pyIter_zip st.1 h
noncomputable def Nr(K:Q_)(ta:TA):TI:=fun σ H R=>ta σ H fun vs H1=>∃a b,vs=[.ref a,.ref b]/\(((∃xs ys,aN K H1 a xs/\aN K H1 b ys)/\R (JF (aN K) a b) H1)\/((∃xs ys,cD K H1 a xs/\cD K H1 b ys)/\R (JF (cD K) a b) H1))
theorem MA{X:Cx}{es:List Expr}{x1:Nat}{tp:Pos}{e1 e2:Expr}{ta:TA}{p pos:Pos}(hg:Gl X "zip")(hm:X.mg "zip" = none)(ha:PA X [e1,e2] ta)(hs:starEach [e1,e2] X.env=[(false,eval e1 X.env),(false,eval e2 X.env)])(gN:starEach [e2] X.env=[(false,eval e2 X.env)]) :
  PI X (.Tuple es x1 tp) (.Call (.Name "zip" p) [e1,e2] [] pos) (Nr X.K ta):=by
 intro pins s σ H R I h;refine Call_ (iu I hg hm boot_zip (q_ (aH (ha pos pins s σ H _ I h) fun us s1 ⟨vs,H1,I1,r1,q1⟩=>?_) (by rw[hs,gN]) (by rw[gN];rfl)));obtain⟨a,b,e,q⟩:=q1;subst e;cases r1 with
 |cons r rr =>
  cases rr with
  |cons r' rr =>
   cases rr;cases r;cases r';have ne:=TL s1.heap.objs.size;have ge:∀c∈[s1.heap.objs.size+4,s1.heap.objs.size+2,s1.heap.objs.size+3,s1.heap.objs.size,s1.heap.objs.size+1],s1.heap.objs.size<=c:=fun c hc=>by
    simp only[zi,zB,or_false]at hc;omega
   have fp:∀c∈[s1.heap.objs.size+4,s1.heap.objs.size+2,s1.heap.objs.size+3,s1.heap.objs.size,s1.heap.objs.size+1],fG X pins H1 c:=fun c hc=>I1.nS (ge c hc) (I1.ax.fresh (ge c hc));rcases q with ⟨⟨xs,ys,h1,h2⟩,q⟩|⟨⟨xs,ys,h1,h2⟩,q⟩
   ·obtain⟨ur,DL,p1,_⟩:=I1.list h1
    obtain⟨Iz,DK,p2,_⟩:=I1.list h2;obtain⟨g1,g2,g3,g4,g5,g6⟩:=zip_parts "list_iterator" s1.heap a b;obtain⟨o1,w1,_⟩:=id p1.isList;obtain⟨o2,w2,_⟩:=id p2.isList;have la:=zn w1;have lb:=zn w2;refine Fp p1.isList p2.isList ?_;have I2:Inv X pins σ H1 { s1 with heap:=c9 "list_iterator" s1.heap a b }:=I1.kept (t':=s1.toks) g6;refine wpAny_pyIter_zip (s:={ s1 with heap:=c9 "list_iterator" s1.heap a b }) g1 ?_;exact⟨_,_,_,_,H1,rfl,I2,sP JG ne (fun c hc=>⟨zI (zj la (ge c hc)),zI (zj lb (ge c hc))⟩),⟨g1,g2,⟨_,_,g3⟩,⟨_,g4,rfl,rfl⟩,⟨_,g5,rfl,rfl⟩⟩,fp,q⟩
   ·obtain⟨ur,DL,p1,_⟩:=I1.tuple h1
    obtain⟨Iz,DK,p2,_⟩:=I1.tuple h2;obtain⟨g1,g2,g3,g4,g5,g6⟩:=zip_parts "tuple_iterator" s1.heap a b;obtain⟨o1,w1,_⟩:=id p1;obtain⟨o2,w2,_⟩:=id p2;have la:=zn w1;have lb:=zn w2;refine Fo p1 p2 ?_;have I2:Inv X pins σ H1 { s1 with heap:=c9 "tuple_iterator" s1.heap a b }:=I1.kept (t':=s1.toks) g6;refine wpAny_pyIter_zip (s:={ s1 with heap:=c9 "tuple_iterator" s1.heap a b }) g1 ?_;exact⟨_,_,_,_,H1,rfl,I2,sP Lh ne (fun c hc=>⟨zI (zj la (ge c hc)),zI (zj lb (ge c hc))⟩),⟨g1,g2,⟨_,_,g3⟩,⟨_,g4,rfl,rfl⟩,⟨_,g5,rfl,rfl⟩⟩,fp,q⟩
theorem FL{xs ys:List D}{i:Nat}(h:i<(xs.zip ys).length):xs[i]?=some ((xs.zip ys)[i]).1/\ys[i]?=some ((xs.zip ys)[i]).2:=by
 have h1:i<xs.length:=by rw[yF]at h;omega
 have h2:i<ys.length:=by rw[yF]at h;omega
 rw[List.getElem_zip,zr h1,zr h2];exact⟨rfl,rfl⟩
theorem LE.compZ{K:Q_}{i j:Nat}{fa fb fe:DE}(σ:St)(H:Hp)(Q:VK)(h:LE K (fun ρ=>do
  let x<-fa ρ
  let y<-fb ρ
  let s<-ny x y
  need (s.ds.length<=zq)
  let ys<-d9 s.c1 s.c2 fe ((ρ.set i none).set j none) s.ds
  bz (.lst ys)) σ H Q):rX (Nr K (cR (LE K fa) (cR (LE K fb) gS))) (uG K 2 (jA (dC 0) (jA (dC 1) uH))) 2 FW (LE K fe) σ H Q:=by
 obtain⟨ι,ρ,M,d,M',S,R,e,k⟩:=h;have e0:=ae e;clear e;obtain⟨x,M1,e1,e⟩:=e0;have e0:=ae e;clear e;obtain⟨y,M2,e2,e⟩:=e0;have e0:=ae e;clear e;obtain⟨src,M3,e3,e⟩:=e0;have e0:=ae e;clear e;obtain⟨_,Mb,e4,e⟩:=e0;have cA:=aG e4;clear e4;obtain⟨hn,rfl⟩:=cA;have e0:=ae e;clear e;obtain⟨all,M4,e5,e⟩:=e0;refine⟨ι,ρ,M,x,M1,S,R,e1,fun v1 H1 ι1 r1 S1 X1=>⟨ι1,ρ,M1,y,M2,S1,R.mono X1,e2,fun v2 H2 ι2 r2 S2 X2=>?_⟩⟩;have r1:=r1.mono X2;have R2:=(R.mono X1).mono X2;have key:∀(q:Hp->Addr->List V->Prop) (a b:Addr) (xs ys:List D),Mb=M2->src.ds=xs.zip ys->xs.length=ys.length->(∀ι3 H3 M3,Ext K ι2 H2 ι3 H3->aJ K ι3 M3 H3->gK src.c1 M3->gK src.c2 M3->∃us ws,q H3 a us/\q H3 b ws/\aB K ι3 H3 xs us/\aB K ι3 H3 ys ws) ->
   ∃W:Nat->Nat->List V->Hp->Prop,(∃m,W 0 m [] H2)/\pR (JF q a b) (uG K 2 (jA (dC 0) (jA (dC 1) uH))) 2 FW (LE K fe) σ (fun ys H'=>∀p,H' p=none->Q (.ref p) (upd H' p (.lst ys))) W:=by
  intro q a b xs ys hM oU hlen hq;subst hM;refine⟨fun i' m zs H'=>m=src.ds.length-i'/\i'<=src.ds.length/\zs.length<=i'/\∃ι' ds rest M5,aJ K ι' M5 H'/\Ext K ι2 H2 ι' H'/\aB K ι' H' ds zs/\d9 src.c1 src.c2 fe ((ρ.set i none).set j none) (src.ds.drop i') M5=some (.ok rest,M4)/\all=ds++rest,
   ⟨_,rfl,zZ _,zp _,ι2,[],all,_,S2,Ext.refl,.nil,e5,rfl⟩,?_⟩
  rintro n m zs H' ⟨rfl,hi,hy,ι',ds,rest,M5,S5,X5,r5,e6,ea⟩;by_cases bW:n<src.ds.length
  ·right
   rw[yi bW]at e6;have d8:=ae e6;clear e6;obtain⟨_,_,e7,e6⟩:=d8;have uO:=cw e7;clear e7;obtain⟨tY,rfl⟩:=uO;have d8:=ae e6;clear e6;obtain⟨_,_,e7,e6⟩:=d8;have uO:=cw e7;clear e7;obtain⟨tX,rfl⟩:=uO;have d8:=ae e6;clear e6;obtain⟨y',M6,e7,e6⟩:=d8;have d8:=ae e6;clear e6;obtain⟨ys',M7,e8,e6⟩:=d8;have d8:=ah e6;clear e6;obtain⟨rfl,rfl⟩:=d8;obtain⟨us,ws,q1,q2,ra,rb⟩:=hq ι' H' _ X5 S5 tY tX;have hz:xs[n]?=some (src.ds[n]).1/\ys[n]?=some (src.ds[n]).2:=by
    have h0:n<(xs.zip ys).length:=oU▸bW
    have:=FL h0
    simp only[oU];exact this
   obtain⟨u,hu,ru⟩:=ra.get hz.1;obtain⟨w,hw,rw'⟩:=rb.get hz.2;refine⟨⟨us,ws,u,w,q1,q2,hu,hw⟩,by omega,fun v H'' os ho yl=>?_⟩;obtain⟨p,x1,y1,rfl,hp,rfl,z1,z2⟩:=yl;have t1:=z1 us q1;rw[hu]at t1;cases t1;have t2:=z2 ws q2;rw[hw]at t2;cases t2;obtain⟨o1,o2,rfl⟩:∃o1 o2,os=[o1,o2]:=by
    rcases os with _|⟨o1,_|⟨o2,_|⟨o3,l⟩⟩⟩ <;> first|exact⟨_,_,rfl⟩|(exfalso;simp at ho)
   have X6:Ext K ι' H' ι' (upd H' p (.tup [u,w])):=Ext.cW hp;have S6:aJ K ι' _ (upd H' p (.tup [u,w])):=S5.cW hp;refine⟨p,[u,w],rfl,.inl (.inl aT),rfl,u,[w],rfl,w,[],rfl,rfl,[some u,some w],rfl,rfl,?_⟩;have RR:bL K ι' (upd H' p (.tup [u,w])) (some (src.ds[n]).1::some (src.ds[n]).2::(ρ.set i none).set j none) (some u::some w::σ) :=
    (((R2.mono X5).mono X6).comp (rw'.mono X6) i).comp (ru.mono X6) (j+1)
   show LE K fe (some u::some w::σ) _ _;refine⟨ι',_,_,y',M6,S6,RR,e7,fun v7 H7 ι7 r7 S7 X7=>?_⟩;exact⟨src.ds.length-(n+1),by omega,rfl,bW,by rw[ze];exact xP hy,ι7,ds++[y'],ys',M6,S7,(X5.trans X6).trans X7,((r5.mono X6).mono X7).append (.cons r7 .nil),e8,by rw[ea,wA];rfl⟩
  ·left
   have ei:n=src.ds.length:=by omega
   subst ei;rw[yC]at e6;have d8:=ae e6;clear e6;obtain⟨_,_,e7,e6⟩:=d8;have uO:=cw e7;clear e7;obtain⟨tY,rfl⟩:=uO;have d8:=ae e6;clear e6;obtain⟨_,_,e7,e6⟩:=d8;have uO:=cw e7;clear e7;obtain⟨tX,rfl⟩:=uO;have d8:=ah e6;clear e6;obtain⟨rfl,rfl⟩:=d8;rw[zJ]at ea;subst ea;obtain⟨us,ws,q1,q2,ra,rb⟩:=hq ι' H' _ X5 S5 tY tX;refine⟨⟨us,ws,q1,q2,?_⟩,by omega,fF S5 r5 e fun v H5 ι5 r5 S5 X5'=>k v H5 ι5 r5 S5 (((X1.trans X2).trans X5).trans X5')⟩;rw[<- ra.length,oU,yF,hlen,wa]
 cases r1 with
 |tup t q =>
  cases r2 with
  |tup t' q' =>
   have bf:=ae e3;clear e3;obtain⟨_,_,e6,e3⟩:=bf;have d8:=aG e6;clear e6;obtain⟨hl,rfl⟩:=d8;have bf:=ah e3;clear e3;obtain⟨rfl,rfl⟩:=bf;exact⟨_,_,rfl,.inr ⟨⟨_,_,bY t,bY t'⟩,key _ _ _ _ _ rfl rfl hl fun ι3 H3 M3 x3 _ _ _=>⟨_,_,bY (x3.tup _ _ t),bY (x3.tup _ _ t'),q.mono x3,q'.mono x3⟩⟩⟩
  |_=>exact(ai e3).elim
 |ob t =>
  cases r2 with
  |ob t' =>
   have bf:=ae e3;clear e3;obtain⟨xs,_,e6,e3⟩:=bf;have d8:=bB e6;clear e6;obtain⟨g1,rfl⟩:=d8;have bf:=ae e3;clear e3;obtain⟨ys,_,e6,e3⟩:=bf;have d8:=bB e6;clear e6;obtain⟨g2,rfl⟩:=d8;have bf:=ae e3;clear e3;obtain⟨_,_,e6,e3⟩:=bf;have d8:=aG e6;clear e6;obtain⟨hl,rfl⟩:=d8;have bf:=ah e3;clear e3;obtain⟨rfl,rfl⟩:=bf;obtain⟨a,vs,h1,h2,h3,h4⟩:=aK S2 (.ob t) g1;obtain⟨b,ws,k1,k2,k3,k4⟩:=aK S2 (.ob t') g2;cases h1;cases k1;refine⟨_,_,rfl,.inl ⟨⟨_,_,aN.of h3,aN.of k3⟩,key _ _ _ _ _ rfl rfl hl fun ι3 H3 M3 x3 S3 tY tX=>?_⟩⟩;have tY:M3[_]?=some (MO.lst xs):=tY;have tX:M3[_]?=some (MO.lst ys):=tX;obtain⟨a2,Lk,m1,m2,m3,m4⟩:=aK S3 (.ob (x3.pre _ _ h2)) tY;obtain⟨b2,PY,n1,n2,n3,n4⟩:=aK S3 (.ob (x3.pre _ _ k2)) tX;cases m1;cases n1;exact⟨_,_,aN.of m3,aN.of n3,m4,n4⟩
  |_=>exact(ai e3).elim
 |_=>exact(ai e3).elim
end L3
namespace L3
open PySem PySem.Spec PyProof.Rows L2
structure Sound (Γ:Ctx) (n:Nat):Prop where
 E:∀(S:Sc) (X:Cx) (e:Expr) (i:IE),aL Γ S X->cE S n e=some i->PE X e (LE X.K (af Γ i))
 Es:∀(S:Sc) (X:Cx) (es:List Expr) (i:cG),aL Γ S X->kn S n es=some i->PA X es (LA X.K (aR Γ i))/\es.all aV=true
 O:∀(S:Sc) (X:Cx) (e:Option Expr) (i:ml),aL Γ S X->cO S n e=some i->PO X e (LO X.K (gT Γ i))
 T:∀(S:Sc) (X:Cx) (tg e:Expr) (i:IT),aL Γ S X->cT S n e=some i->PI X tg e (LI X.K (fD Γ i))/\∀x,foldedSetIterable e X.env x=pure x
 C:∀(S:Sc) (X:Cx) (e:Expr) (i:IC),aL Γ S X->cC S n e=some i->PT X e (LT X.K (bh Γ i))
 Co:∀(S:Sc) (X:Cx) (e:List Expr) (i:nt),aL Γ S X->Fw S n e=some i->jO X e (LT X.K (iG Γ i))
section
variable {Γ:Ctx}{n:Nat}{K:Q_}
inductive WU {α β:Type} (o:Option α) (f:α->Option β) (b:β):Prop
 |mk (a:α) (e:o=some a) (h:f a=some b)
theorem ak{α β:Type}{o:Option α}{f:α->Option β}{b:β}(h:(o >>= f)=some b):WU o f b:=by
 cases o with
 |none=>cases h
 |some a=>exact⟨a,rfl,h⟩
theorem JT{ρ:Ev}{i:Nat}{M M':MH}{d:D}(e:lK ρ i M=some (.ok d,M')):ρ[i]?=some (some d)/\M'=M:=by
 unfold lK at e;cases q:ρ[i]? with
 |none=>rw[q]at e;exact(ai e).elim
 |some o =>
  cases o with
  |none=>rw[q]at e;exact(ai e).elim
  |some d'=>rw[q]at e;cases e;exact⟨rfl,rfl⟩
theorem LE.var{i:Nat}(σ:St)(H:Hp)(Q:VK)(h:LE K (af Γ (.var i)) σ H Q):cX i σ H Q:=by
 obtain⟨ι,ρ,M,d,M',S,R,e,k⟩:=h;have e:lK ρ i M=some (.ok d,M'):=e;obtain⟨hd,rfl⟩:=JT e;obtain⟨v,hv,rv⟩:=R.val i d hd;exact⟨v,hv,k v H ι rv S Ext.refl⟩
theorem LE.const{d:D}{v:V}(hv:∀ι H,Rep K ι H d v)(σ:St)(H:Hp)(Q:VK)(h:LE K (fun _=>pure d) σ H Q):tC v σ H Q:=by
 obtain⟨ι,ρ,M,d',M',S,R,e,k⟩:=h;have e0:=ah e;clear e;obtain⟨rfl,rfl⟩:=e0;exact k v H ι (hv ι H) S Ext.refl
theorem LE.chain{op op':CmpOp}{fa fb fc:DE}(σ:St)(H:Hp)(Q:VK)(h:LE K (fun ρ=>do
  let x<-fa ρ
  let y<-fb ρ
  let k<-cb op x y
  if k=true then do let z<-fc ρ;let k'<-cb op' y z;pure (.bl k') else pure (.bl false)) σ H Q):sR (AM K (uI op)) (AM K (uI op')) (LE K fa) (LE K fb) (LE K fc) σ H Q:=by
 obtain⟨ι,ρ,M,d,M',S,R,e,k⟩:=h;have e0:=ae e;clear e;obtain⟨x,M1,e1,e⟩:=e0;have e0:=ae e;clear e;obtain⟨y,M2,e2,e⟩:=e0;have e0:=ae e;clear e;obtain⟨b,M3,e3,e⟩:=e0;refine⟨ι,ρ,M,x,M1,S,R,e1,fun v1 H1 ι1 r1 S1 X1=>?_⟩;refine⟨ι1,ρ,M1,y,M2,S1,R.mono X1,e2,fun v2 H2 ι2 r2 S2 X2=>?_⟩;refine⟨ι2,M2,M3,x,y,.bl b,S2,r1.mono X2,r2,by unfold uI;rw[qb e3];rfl,fun v3 H3 ι3 r3 S3 X3=>?_⟩;cases r3;refine⟨b,rfl,?_⟩;cases b with
 |true =>
  rw[if_pos rfl]at e ⊢;have e0:=ae e;clear e;obtain⟨z,M4,e4,e⟩:=e0;have e0:=ae e;clear e;obtain⟨b',M5,e5,e⟩:=e0;refine⟨ι3,ρ,M3,z,M4,S3,((R.mono X1).mono X2).mono X3,e4,fun v4 H4 ι4 r4 S4 X4=>?_⟩;have e0:=ah e;clear e;obtain⟨rfl,rfl⟩:=e0;exact⟨ι4,M4,_,y,z,.bl b',S4,(r2.mono X3).mono X4,r4,by unfold uI;rw[qb e5];rfl,fun v5 H5 ι5 r5 S5 X5=>k v5 H5 ι5 r5 S5 ((((X1.trans X2).trans X3).trans X4).trans X5)⟩
 |false =>
  rw[if_neg zu]at e ⊢;have e0:=ah e;clear e;obtain⟨rfl,rfl⟩:=e0;exact k _ H3 ι3 (.bl _) S3 ((X1.trans X2).trans X3)
theorem LE.and{fa fb:DE}(σ:St)(H:Hp)(Q:VK)(h:LE K (fun ρ=>do let x<-fa ρ;let k<-lift (bD x);if k=true then fb ρ else pure (.bl false)) σ H Q):HV (LE K fa) (LE K fb) σ H Q:=by
 obtain⟨ι,ρ,M,d,M',S,R,e,k⟩:=h;have e0:=ae e;clear e;obtain⟨x,M1,e1,e⟩:=e0;have e0:=ae e;clear e;obtain⟨b,M2,e2,e⟩:=e0;have aQ:=bj e2;clear e2;obtain⟨hb,rfl⟩:=aQ;refine⟨ι,ρ,M,x,_,S,R,e1,fun v1 H1 ι1 r1 S1 X1=>?_⟩;cases r1 <;> simp[bD]at hb;subst hb;refine⟨_,rfl,?_⟩;split at e
 ·rename_i hb
  rw[if_pos hb];exact⟨ι1,ρ,_,d,M',S1,R.mono X1,e,fun v H' ι' r' S' X'=>k v H' ι' r' S' (X1.trans X')⟩
 ·rename_i hb
  rw[if_neg hb];have e0:=ah e;clear e;obtain⟨rfl,rfl⟩:=e0;exact k _ H1 ι1 (.bl _) S1 X1
theorem LE.or{fa fb:DE}(σ:St)(H:Hp)(Q:VK)(h:LE K (fun ρ=>do let x<-fa ρ;let k<-lift (bD x);if k=true then pure (.bl true) else fb ρ) σ H Q):Ls (LE K fa) (LE K fb) σ H Q:=by
 obtain⟨ι,ρ,M,d,M',S,R,e,k⟩:=h;have e0:=ae e;clear e;obtain⟨x,M1,e1,e⟩:=e0;have e0:=ae e;clear e;obtain⟨b,M2,e2,e⟩:=e0;have aQ:=bj e2;clear e2;obtain⟨hb,rfl⟩:=aQ;refine⟨ι,ρ,M,x,_,S,R,e1,fun v1 H1 ι1 r1 S1 X1=>?_⟩;cases r1 <;> simp[bD]at hb;subst hb;refine⟨_,rfl,?_⟩;split at e
 ·rename_i hb
  rw[if_pos hb];have e0:=ah e;clear e;obtain⟨rfl,rfl⟩:=e0;exact k _ H1 ι1 (.bl _) S1 X1
 ·rename_i hb
  rw[if_neg hb];exact⟨ι1,ρ,_,d,M',S1,R.mono X1,e,fun v H' ι' r' S' X'=>k v H' ι' r' S' (X1.trans X')⟩
theorem LE.not{fa:DE}(σ:St)(H:Hp)(Q:VK)(h:LE K (fun ρ=>do let x<-fa ρ;let k<-lift (bD x);pure (.bl (!k))) σ H Q):HP (LE K fa) σ H Q:=by
 obtain⟨ι,ρ,M,d,M',S,R,e,k⟩:=h;have e0:=ae e;clear e;obtain⟨x,M1,e1,e⟩:=e0;have e0:=ae e;clear e;obtain⟨b,M2,e2,e⟩:=e0;have aQ:=bj e2;clear e2;obtain⟨hb,rfl⟩:=aQ;have e0:=ah e;clear e;obtain⟨rfl,rfl⟩:=e0;refine⟨ι,ρ,M,x,_,S,R,e1,fun v1 H1 ι1 r1 S1 X1=>?_⟩;cases r1 <;> simp[bD]at hb;subst hb;exact⟨_,rfl,k _ H1 ι1 (.bl _) S1 X1⟩
theorem LE.ite{fc:Ev->Mo Bool}{fa fb:DE}(σ:St)(H:Hp)(Q:VK)(h:LE K (fun ρ=>do let k<-fc ρ;if k=true then fa ρ else fb ρ) σ H Q):Qe (LT K fc) (LE K fa) (LE K fb) σ H Q:=by
 obtain⟨ι,ρ,M,d,M',S,R,e,k⟩:=h;have e0:=ae e;clear e;obtain⟨b,M1,e1,e⟩:=e0;refine⟨ι,ρ,M,b,M1,S,R,e1,fun H1 ι1 S1 X1=>?_⟩;split at e
 ·rename_i hb
  rw[if_pos hb];exact⟨ι1,ρ,_,d,M',S1,R.mono X1,e,fun v H' ι' r' S' X'=>k v H' ι' r' S' (X1.trans X')⟩
 ·rename_i hb
  rw[if_neg hb];exact⟨ι1,ρ,_,d,M',S1,R.mono X1,e,fun v H' ι' r' S' X'=>k v H' ι' r' S' (X1.trans X')⟩
theorem LE.tup{fa:Ev->Mo (List D)}(σ:St)(H:Hp)(Q:VK)(h:LE K (fun ρ=>do let xs<-fa ρ;need (xs.length<=zq);pure (.tup xs)) σ H Q):FX (LA K fa) σ H Q:=by
 obtain⟨ι,ρ,M,d,M',S,R,e,k⟩:=h;have e0:=ae e;clear e;obtain⟨xs,M1,e1,e⟩:=e0;have e0:=ae e;clear e;obtain⟨_,_,e2,e⟩:=e0;have aQ:=aG e2;clear e2;obtain⟨hn,rfl⟩:=aQ;have e0:=ah e;clear e;obtain⟨rfl,rfl⟩:=e0;refine⟨ι,ρ,M,xs,_,S,R,e1,fun vs H1 ι1 r1 S1 X1=>⟨by rw[<- r1.length];exact hn,ke S1 r1 fun v H' ι' r' S' X'=>k v H' ι' r' S' (X1.trans X')⟩⟩
theorem LE.lst{fa:Ev->Mo (List D)}(σ:St)(H:Hp)(Q:VK)(h:LE K (fun ρ=>do let xs<-fa ρ;need (xs.length<=zq);bz (.lst xs)) σ H Q):FZ (LA K fa) σ H Q:=by
 obtain⟨ι,ρ,M,d,M',S,R,e,k⟩:=h;have e0:=ae e;clear e;obtain⟨xs,M1,e1,e⟩:=e0;have e0:=ae e;clear e;obtain⟨_,_,e2,e⟩:=e0;have aQ:=aG e2;clear e2;obtain⟨hn,rfl⟩:=aQ;refine⟨ι,ρ,M,xs,_,S,R,e1,fun vs H1 ι1 r1 S1 X1=>⟨by rw[<- r1.length];exact hn,fF S1 r1 e fun v H' ι' r' S' X'=>k v H' ι' r' S' (X1.trans X')⟩⟩
theorem LE.aW(σ:St)(H:Hp)(Q:VK)(h:LE K (fun _=>bz (.aW [])) σ H Q):Dz σ H Q:=by
 obtain⟨ι,ρ,M,d,M',S,R,e,k⟩:=h;intro p hp;have e0:=gW e;clear e;obtain⟨rfl,rfl⟩:=e0;exact k _ _ (ι++[p]) (.ob (by rw[<- S.len,zc (zp _),yK];rfl)) (S.new hp ⟨[],rfl,.nil⟩) (Ext.new hp)
theorem LE.slc{fa:DE}{fl fh:Ev->Mo (Option Int)}(σ:St)(H:Hp)(Q:VK)(h:LE K (fun ρ=>do let x<-fa ρ;let l<-fl ρ;let h<-fh ρ;fR x l h) σ H Q):Qc (Rb K) (LE K fa) (LO K fl) (LO K fh) σ H Q:=by
 obtain⟨ι,ρ,M,d,M',S,R,e,k⟩:=h;have e0:=ae e;clear e;obtain⟨x,M1,e1,e⟩:=e0;have e0:=ae e;clear e;obtain⟨l,M2,e2,e⟩:=e0;have e0:=ae e;clear e;obtain⟨r,M3,e3,e⟩:=e0;refine⟨ι,ρ,M,x,M1,S,R,e1,fun v1 H1 ι1 r1 S1 X1=>?_⟩;refine⟨ι1,ρ,M1,l,M2,S1,R.mono X1,e2,fun H2 ι2 S2 X2=>?_⟩;refine⟨ι2,ρ,M2,r,M3,S2,(R.mono X1).mono X2,e3,fun H3 ι3 S3 X3=>?_⟩;exact⟨ι3,M3,M',x,d,S3,(r1.mono X2).mono X3,e,fun v H' ι' r' S' X'=>k v H' ι' r' S' (((X1.trans X2).trans X3).trans X')⟩
theorem LE.call{fa:Ev->Mo (List D)}{g:List D->Mo D}{m:Nat}(σ:St)(H:Hp)(Q:VK)(hm:∀ds M d M',g ds M=some (.ok d,M')->ds.length=m)(h:LE K (fun ρ=>do let xs<-fa ρ;g xs) σ H Q):Bc (fC K m g) [] E0 (LA K fa) σ H Q:=by
 obtain⟨ι,ρ,M,d,M',S,R,e,k⟩:=h;have e0:=ae e;clear e;obtain⟨xs,M1,e1,e⟩:=e0;refine⟨ι,ρ,M,xs,M1,S,R,e1,fun vs H1 ι1 r1 S1 X1=>?_⟩;show fC K m g (vs++[]) H1 Q E0;rw[zJ];exact⟨by rw[<- r1.length];exact hm _ _ _ _ e,ι1,M1,M',xs,d,S1,r1,e,fun v H' ι' r' S' X'=>k v H' ι' r' S' (X1.trans X')⟩
theorem LE.blt{fa:Ev->Mo (List D)}{g:List D->Mo D}(σ:St)(H:Hp)(Q:VK)(h:LE K (fun ρ=>do let xs<-fa ρ;g xs) σ H Q):vU (Rc K g) (LA K fa) σ H Q:=by
 obtain⟨ι,ρ,M,d,M',S,R,e,k⟩:=h;have e0:=ae e;clear e;obtain⟨xs,M1,e1,e⟩:=e0;refine⟨ι,ρ,M,xs,M1,S,R,e1,fun vs H1 ι1 r1 S1 X1=>?_⟩;exact⟨ι1,M1,M',xs,d,S1,r1,e,fun v H' ι' r' S' X'=>k v H' ι' r' S' (X1.trans X')⟩
theorem LA.nil(σ:St)(H:Hp)(Q:List V->Hp->Prop)(h:LA K (fun _=>pure []) σ H Q):gS σ H Q:=by
 obtain⟨ι,ρ,M,d,M',S,R,e,k⟩:=h;have e0:=ah e;clear e;obtain⟨rfl,rfl⟩:=e0;exact k [] H ι .nil S Ext.refl
theorem LA.cons{fa:DE}{fs:Ev->Mo (List D)}(σ:St)(H:Hp)(Q:List V->Hp->Prop)(h:LA K (fun ρ=>do let x<-fa ρ;let xs<-fs ρ;pure (x::xs)) σ H Q):cR (LE K fa) (LA K fs) σ H Q:=by
 obtain⟨ι,ρ,M,d,M',S,R,e,k⟩:=h;have e0:=ae e;clear e;obtain⟨x,M1,e1,e⟩:=e0;have e0:=ae e;clear e;obtain⟨xs,M2,e2,e⟩:=e0;have e0:=ah e;clear e;obtain⟨rfl,rfl⟩:=e0;refine⟨ι,ρ,M,x,M1,S,R,e1,fun v1 H1 ι1 r1 S1 X1=>?_⟩;exact⟨ι1,ρ,M1,xs,_,S1,R.mono X1,e2,fun vs H2 ι2 r2 S2 X2=>k _ H2 ι2 (.cons (r1.mono X2) r2) S2 (X1.trans X2)⟩
theorem LO.none(σ:St)(H:Hp)(Q:Option Int->Hp->Prop)(h:LO K (fun _=>pure Option.none) σ H Q):vT σ H Q:=by
 obtain⟨ι,ρ,M,d,M',S,R,e,k⟩:=h;have e0:=ah e;clear e;obtain⟨rfl,rfl⟩:=e0;exact k H ι S Ext.refl
theorem LO.some{fa:DE}(σ:St)(H:Hp)(Q:Option Int->Hp->Prop)(h:LO K (fun ρ=>do
  let x<-fa ρ
  (match x with
  |.int i=>pure (Option.some i)
  |_=>Mo.stop)) σ H Q):HN (LE K fa) σ H Q:=by
 obtain⟨ι,ρ,M,d,M',S,R,e,k⟩:=h;have e0:=ae e;clear e;obtain⟨x,M1,e1,e⟩:=e0;refine⟨ι,ρ,M,x,M1,S,R,e1,fun v1 H1 ι1 r1 S1 X1=>?_⟩;cases r1 with
 |int i=>have e0:=ah e;clear e;obtain⟨rfl,rfl⟩:=e0;exact⟨i,rfl,k H1 ι1 S1 X1⟩
 |_=>exact(ai e).elim
theorem LT.test{fa:DE}(σ:St)(H:Hp)(Q:Bool->Hp->Prop)(h:LT K (fun ρ=>do let x<-fa ρ;lift (bD x)) σ H Q):Ba (LE K fa) σ H Q:=by
 obtain⟨ι,ρ,M,b,M',S,R,e,k⟩:=h;have e0:=ae e;clear e;obtain⟨x,M1,e1,e⟩:=e0;have e0:=bj e;clear e;obtain⟨hb,rfl⟩:=e0;refine⟨ι,ρ,M,x,_,S,R,e1,fun v1 H1 ι1 r1 S1 X1=>?_⟩;cases r1 <;> simp[bD]at hb;subst hb;exact⟨_,rfl,k H1 ι1 S1 X1⟩
theorem LT.not{fa:Ev->Mo Bool}(σ:St)(H:Hp)(Q:Bool->Hp->Prop)(h:LT K (fun ρ=>do let k<-fa ρ;pure (!k)) σ H Q):Lu (LT K fa) σ H Q:=by
 obtain⟨ι,ρ,M,b,M',S,R,e,k⟩:=h;have e0:=ae e;clear e;obtain⟨x,M1,e1,e⟩:=e0;have e0:=ah e;clear e;obtain⟨rfl,rfl⟩:=e0;exact⟨ι,ρ,M,x,_,S,R,e1,fun H1 ι1 S1 X1=>k H1 ι1 S1 X1⟩
theorem LT.and{fa fb:Ev->Mo Bool}(σ:St)(H:Hp)(Q:Bool->Hp->Prop)(h:LT K (fun ρ=>do let k<-fa ρ;if k=true then fb ρ else pure false) σ H Q):Ly (LT K fa) (LT K fb) σ H Q:=by
 obtain⟨ι,ρ,M,b,M',S,R,e,k⟩:=h;have e0:=ae e;clear e;obtain⟨x,M1,e1,e⟩:=e0;refine⟨ι,ρ,M,x,M1,S,R,e1,fun H1 ι1 S1 X1=>?_⟩;split at e
 ·rename_i hb
  rw[if_pos hb];exact⟨ι1,ρ,_,b,M',S1,R.mono X1,e,fun H' ι' S' X'=>k H' ι' S' (X1.trans X')⟩
 ·rename_i hb
  rw[if_neg hb];have e0:=ah e;clear e;obtain⟨rfl,rfl⟩:=e0;exact k H1 ι1 S1 X1
theorem LT.or{fa fb:Ev->Mo Bool}(σ:St)(H:Hp)(Q:Bool->Hp->Prop)(h:LT K (fun ρ=>do let k<-fa ρ;if k=true then pure true else fb ρ) σ H Q):Qd (LT K fa) (LT K fb) σ H Q:=by
 obtain⟨ι,ρ,M,b,M',S,R,e,k⟩:=h;have e0:=ae e;clear e;obtain⟨x,M1,e1,e⟩:=e0;refine⟨ι,ρ,M,x,M1,S,R,e1,fun H1 ι1 S1 X1=>?_⟩;split at e
 ·rename_i hb
  rw[if_pos hb];have e0:=ah e;clear e;obtain⟨rfl,rfl⟩:=e0;exact k H1 ι1 S1 X1
 ·rename_i hb
  rw[if_neg hb];exact⟨ι1,ρ,_,b,M',S1,R.mono X1,e,fun H' ι' S' X'=>k H' ι' S' (X1.trans X')⟩
theorem tN{X:Cx}{a:Expr}{fa:DE}(ha:PE X a (LE X.K fa))(he:∀whole,isTrue a X.env whole=(do let v<-whole;standAt a.pos;holding [v] (truthy v))):PT X a (LT X.K fun ρ=>do let x<-fa ρ;kx x):=by
 intro pins s σ H Q I h;obtain⟨ι,ρ,M,b,M',S,R,e,k⟩:=h;have e0:=ae e;clear e;obtain⟨x,M1,e1,e⟩:=e0;refine isTrue_plain (aH (ha pins s σ H (fun v H1=>∃ι M M' d b,aJ X.K ι M H1/\Rep X.K ι H1 d v/\kx d M=some (.ok b,M')/\(M'=M->Q b H1)) I ⟨ι,ρ,M,x,M1,S,R,e1,fun v1 H1 ι1 r1 S1 X1=>⟨ι1,M1,M',x,b,S1,r1,e,fun z=>by subst z;exact k H1 ι1 S1 X1⟩⟩) fun v s1 ⟨x,H1,I1,r1,q1⟩=>JY pins s1 σ H1 x v Q I1 r1 q1) (he _)
end
end L3
namespace L3
open PySem PySem.Spec PyProof.Rows L2
section
variable {Γ:Ctx}{n:Nat}
theorem aC{x:Str}{l:List Str}(h:l.contains x=true):x∈l:=by simpa using h
noncomputable def eI(cells:List (Str×Addr)):List (Str×NameKind)->List (Str×Addr)->List (Str×Addr)
 |[],acc=>acc
 |p::r,acc=>eI cells r (if p.2==.free then (p.1,(cells.lookup p.1).getD 0)::acc else acc)
theorem rA{cells:List (Str×Addr)}{y:Str}{c:Addr}:∀{names:List (Str×NameKind)} {acc:List (Str×Addr)},(∀p∈names,p.2=.free->∃c,cells.lookup p.1=some c)->(acc.lookup y=some c->cells.lookup y=some c) ->
  (eI cells names acc).lookup y=some c->cells.lookup y=some c
 |[],acc,_,ha,h=>ha h
 |p::r,acc,hf,ha,h=>by
  unfold eI at h;refine rA (names:=r) (fun q hq=>hf q (zU _ hq)) (fun h'=>?_) h;by_cases hp:p.2=.free
  ·rw[if_pos (by simpa using hp)]at h'
   obtain⟨c',hc'⟩:=hf p zR hp;rw[hc',yL,yq]at h';by_cases hy:y=p.1
   ·subst hy
    simp at h';subst h';exact hc'
   ·have:(y==p.1)=false:=beq_eq_false_iff_ne.mpr hy
    rw[this]at h';exact ha h'
  ·rw[if_neg (by simpa using hp)]at h'
   exact ha h'
theorem uV{cells:List (Str×Addr)}{y:Str}:∀{names:List (Str×NameKind)} {acc:List (Str×Addr)},(∃c,acc.lookup y=some c)->∃c,(eI cells names acc).lookup y=some c
 |[],_,h=>h
 |p::r,acc,h=>by
  unfold eI;refine uV (names:=r) ?_;split
  ·rw[yq]
   split
   ·exact⟨_,rfl⟩
   ·exact h
  ·exact h
theorem uU{cells:List (Str×Addr)}{y:Str}:∀{names:List (Str×NameKind)} {acc:List (Str×Addr)},(y,NameKind.free)∈names->∃c,(eI cells names acc).lookup y=some c
 |[],_,h=>by simp at h
 |p::r,acc,h=>by
  unfold eI;rcases zi.mp h with h|h
  ·subst h
   refine uV ?_;rw[if_pos (by simp),yq];simp
  ·exact uU h
theorem rR{scope:Scope}{env:Env}(h:∀p∈scope.names,p.2=.free->∃c,env.cells.lookup p.1=some c):closureFor scope env=pure (eI env.cells scope.names []):=by
 have gen:∀(names:List (Str×NameKind)) (acc:List (Str×Addr)),(∀p∈names,p.2=.free->∃c,env.cells.lookup p.1=some c) ->
   (forIn names acc (fun (x:Str×NameKind) (r:List (Str×Addr))=>if (x.2==NameKind.free)=true then (cellOf env x.1 >>= fun a=>(pure (ForInStep.yield ((x.1,a)::r)):Sem (ForInStep (List (Str×Addr))))) else pure (ForInStep.yield r)):Sem (List (Str×Addr)))=pure (eI env.cells names acc):=by
  intro names;induction names with
  |nil=>intro acc _;rfl
  |cons p r ih =>
   intro acc hf;rw[xU];obtain⟨name,kind⟩:=p;dsimp only;by_cases hk:kind=.free
   ·subst hk
    obtain⟨c,hc⟩:=hf (name,.free) zR rfl;have e:cellOf env name=pure c:=by unfold cellOf;rw[hc]
    rw[if_pos (by rfl),e];simp only[pure_bind];rw[ih _ fun q hq=>hf q (zU _ hq)]
    conv=>rhs;unfold eI
    dsimp only;rw[if_pos (by rfl),hc];rfl
   ·have hb:(kind==NameKind.free)=false:=by simpa using hk
    rw[if_neg (by rw[hb];exact zu)];simp only[pure_bind];rw[ih _ fun q hq=>hf q (zU _ hq)]
    conv=>rhs;unfold eI
    dsimp only;rw[if_neg (by rw[hb];exact zu)]
 unfold closureFor;refine Eq.trans ?_ (gen scope.names [] h);exact bind_pure _
theorem rp{S:Sc}{X:Cx}{sc:Scope}{xs:List Str}(cn:X.N=S.N)(dJ:∀x k,S.sc.names.lookup x=some k->∃k',X.env.scope.names.lookup x=some k'/\(k'=k\/(k=.free/\k'=.cell)))(hx:X.Ok)(h:dk S sc xs=true):ef X sc (eI X.env.cells sc.names []) xs (xs++blank S.N xs):=by
 unfold dk at h;simp only[zx,zD,bne_iff_ne,ne_eq,beq_iff_eq,yW,decide_eq_true_eq]at h;obtain⟨⟨⟨⟨⟨⟨h1,h2⟩,h5⟩,h6⟩,h7⟩,h8⟩,h9⟩:=h;have hout:∀y,sc.names.lookup y=some .free->X.env.kindOf y=some .cell\/X.env.kindOf y=some .free:=fun y hy=>by
  rcases h6 _ (lookup_mem hy) with z|z
  ·exact absurd rfl z
  ·have z':S.sc.names.lookup y=some .cell\/S.sc.names.lookup y=some .free:=z
   rcases z' with z|z
   ·obtain⟨k',q1,rfl|⟨q2,_⟩⟩:=dJ _ _ z
    ·exact .inl q1
    ·cases q2
   ·obtain⟨k',q1,rfl|⟨_,rfl⟩⟩:=dJ _ _ z
    ·exact .inr q1
    ·exact .inl q1
 have oS:∀p∈sc.names,p.2=.free->∃c,X.env.cells.lookup p.1=some c:=fun p hp hf=>by
  refine hx.has p.1 (hout p.1 ?_);rw[(h7 p hp).1,hf]
 refine⟨h1,fun y hy=>(h5 y hy).1,fun x hx=>(h2 x hx).1.1,fun y hy hl=>by rw[(h7 y hy).1,hl],fun y hy=>?_,rR oS,fun y c=>rA oS (fun z=>by cases z),fun y hy=>uU (lookup_mem hy),hout,h9,fun i y hy=>?_,fun i y hy=>?_,?_⟩
 ·rcases (h5 _ (lookup_mem hy)).2 with z|z
  ·exact absurd rfl z
  ·rcases z with z|z
   ·exact .inl (by simpa using z)
   ·exact .inr z
 ·rw[zG (zw.mp hy).1]
  exact hy
 ·have hy':(blank S.N xs)[i]?=some y:=by
   rw[zc (Nat.le_add_left ..),wo]at hy;exact hy
  unfold blank at hy';rw[zA]at hy';cases q:S.N[i]? with
  |none=>rw[q]at hy';cases hy'
  |some z =>
   rw[q]at hy';simp only[yV,Option.some.injEq]at hy';by_cases hz:z∈xs
   ·rw[if_pos (by simpa using hz)]at hy'
    subst hy';refine⟨fun e=>(h2 _ e).2 rfl,by decide,.inr fun hv=>?_⟩;have nb:∀k,sc.names.lookup ("":Str)=some k->False:=fun k e=>(h7 _ (lookup_mem e)).2 rfl;rcases hv with e|e|e
    ·exact nb _ e
    ·exact nb _ e
    ·exact nb _ e
   ·rw[if_neg (by simpa using hz)]at hy'
    subst hy';exact⟨hz,h8 _ (zF q),.inl (by rw[cn];exact q)⟩
 ·show (xs++blank S.N xs).length=X.N.length+xs.length
  unfold blank;rw[ze,zl,cn,wY]
theorem me{S:Sc}{X:Cx}{sc:Scope}{xs:List Str}(C:aL Γ S X)(hx:X.Ok)(h:dk S sc xs=true):ef X sc (eI X.env.cells sc.names []) xs (xs++blank S.N xs):=rp C.n C.sc hx h
theorem km{S:Sc}{X:Cx}{sc:Scope}{x:List Str}(C:aL Γ S X)(h:dk S sc x=true)(cl:List (Str×Addr))(Ca:Addr)(s:Shared)(H:Hp)(fp:List Addr):aL Γ (S.comp sc x) (bo X sc cl Ca (x++blank S.N x) s H fp) where
 n:=rfl
 sc:=fun y k hy=>by
  have e:(relabel sc X.env).names.lookup y=(sc.names.lookup y).map fun k=>if (k==NameKind.free&&X.env.scope.kind==.function&&X.env.kindOf y==some .cell) then NameKind.cell else k:=fW;have hy':sc.names.lookup y=some k:=hy;rw[hy']at e;refine⟨_,e,?_⟩;dsimp only;split
  ·rename_i hc
   simp only[zx,beq_iff_eq]at hc;exact .inr ⟨hc.1.1,rfl⟩
  ·exact .inl rfl
 calm:=C.calm
 hu:=C.hu
 dX:=rfl
 fns:=C.fns
 gls:=C.gls
 bu:=C.bu
 cls:=C.cls
 kJ:=C.kJ
 lV:=C.lV
 Ir:=C.Ir
 rfs:=C.rfs
 nd:=by
  unfold dk at h;simp only[zx,decide_eq_true_eq]at h;exact h.2
theorem lT{X:Cx}{sc:Scope}{cl:List (Str×Addr)}{xs N':List Str}(CS:ef X sc cl xs N'){i:Nat}{x:Str}{px:Pos}(h:xs[i]?=some x)(Ca:Addr)(s:Shared)(H:Hp)(fp:List Addr):PG (bo X sc cl Ca N' s H fp) (.Name x px) (dC i) :=
 ka CS.nd (CS.n0 i x h) (.inl (lookup_relabel_local (CS.loc x (zF h)))) (.inr (lookup_relabel_local (CS.loc x (zF h))))
theorem GB{S:Sc}{X:Cx}{sc:Scope}{x:Str}{px pos:Pos}{elt iter:Expr}{ifs:List Expr}{j:Nat}{fs:Ev->Mo Src}{fc:Ev->Mo Bool}{fe:DE}(C:aL Γ S X)(h:dk S sc [x]=true)(hi:PI X (.Name x px) iter (LI X.K fs))(hs:∀x,foldedSetIterable iter X.env x=pure x)
  (htc:∀X',aL Γ (S.comp sc [x]) X'->X'.K=X.K->jO X' ifs (LT X'.K fc)) (hte:∀X',aL Γ (S.comp sc [x]) X'->X'.K=X.K->PE X' elt (LE X'.K fe)) :
  PE X (.ListComp elt [⟨.Name x px,iter,ifs,0⟩] sc pos) (LE X.K (fun ρ=>do
   let s<-fs ρ
   need (s.ds.length<=zq)
   let ys<-dQ s.ck fc fe (ρ.set j none) s.ds
   bz (.lst ys))):=by
 intro pins s σ H Q I q;have CS:=me C I.ok h;exact p9 C.calm CS (fun _ _ _ _=>lT CS rfl _ _ _ _) hi (fun Ca s H fp=>htc _ (km C h _ Ca s H fp) rfl) (fun Ca s H fp=>hte _ (km C h _ Ca s H fp) rfl) hs pins s σ H Q I (LE.comp σ H Q q)
theorem Lc{x:Str}{m:Nat}{b:Bl}(h:C2 x m=some b):bootBuiltins x=some (C0 b)/\∃y:String,x=Str.ofString y:=by
 unfold C2 at h;have key:∀(y:String) (k:Nat),(x==(Str.ofString y)&&m==k)=true->x=Str.ofString y:=fun y k e=>by
  simp only[zx,beq_iff_eq]at e;exact e.1
 split at h
 ·rename_i e;cases h;rw[key _ _ e];exact⟨by decide +kernel,_,rfl⟩
 split at h
 ·rename_i e;cases h;rw[key _ _ e];exact⟨by decide +kernel,_,rfl⟩
 split at h
 ·rename_i e;cases h;rw[key _ _ e];exact⟨by decide +kernel,_,rfl⟩
 split at h
 ·rename_i e;cases h;rw[key _ _ e];exact⟨by decide +kernel,_,rfl⟩
 split at h
 ·rename_i e;cases h;rw[key _ _ e];exact⟨by decide +kernel,_,rfl⟩
 split at h
 ·rename_i e;cases h;rw[key _ _ e];exact⟨by decide +kernel,_,rfl⟩
 split at h
 ·rename_i e;cases h;rw[key _ _ e];exact⟨by decide +kernel,_,rfl⟩
 split at h
 ·rename_i e;cases h;rw[key _ _ e];exact⟨by decide +kernel,_,rfl⟩
 split at h
 ·rename_i e;cases h;rw[key _ _ e];exact⟨by decide +kernel,_,rfl⟩
 split at h
 ·rename_i e;cases h;rw[key _ _ e];exact⟨by decide +kernel,_,rfl⟩
 split at h
 ·rename_i e;cases h;rw[key _ _ e];exact⟨by decide +kernel,_,rfl⟩
 ·cases h
theorem kH{b:Expr}(h:Iv b=true):AN b:=by
 intro o i;cases b <;> first
  |rfl
  |exact absurd h zu
end
end L3
namespace L3
open PySem PySem.Spec PyProof.Rows L2
theorem D6:typeLookup (.type "list_reverseiterator") "__len__" = pure none:=by rw[typeLookup_type,builtinLookup_eq_fast];kernel_rfl
theorem G5:typeLookup (.type "list_reverseiterator") "__length_hint__" = pure (some (.builtin "list_reverseiterator.__length_hint__")):=by rw[typeLookup_type,builtinLookup_eq_fast];kernel_rfl
section
variable {prog:Program}{w:World}{A:Around}{s:Shared}{R:Result->Shared->Prop}{E:Value->Shared->Prop}
variable {I:Addr}{fp wr:List Addr}{G:Array GenState->Array GenState->Prop}{n:Nat}{P:Nat->Value->Prop}{St:Nat->Shared->Prop}
theorem CK(W:WalksS prog w A.in1 I fp wr G n P St)(hT:∀i s,St i s->s.TypeIs (.ref I) "list_reverseiterator")(S:Addr)(res:Value)(c₀:Nat)(cu:St 0 s)(uD:S ∉ fp)(hI:I∈fp)
  (hS:s.heap.get? S=some { cls:=.type "list",data:=.seq #[] c₀ })
  (hR:∀s' acc' c',Moved (S::wr) G s s'->s'.heap.get? S=some { cls:=.type "list",dict:=none,data:=.seq acc' c',slots:=#[] }->ItemsOf P acc' n->R (.ok (.ret res)) s') (hn:n<=zq) :
  wpAny (model prog w) A.in1 (Builtin.List.listExtendWith (.ref S) (.ref I) res)
   (fun fin s'=>match fin with|.done f=>R (.ok f) s'|.again c'=>c'.quiet=true/\codeAny (model prog w) A c' R s') (fun e s'=>R (.error e) s') s:=by
 have Wi:S≠I:=fun e=>uD (e▸hI);unfold Builtin.List.listExtendWith;refine zz (wpAny_typeOf (hT 0 _ cu) ?_);have h1:Builtin.List.listSameRef (.ref S) (.ref I)=false:=by simp[Builtin.List.listSameRef,Wi]
 rw[if_neg (by rw[h1];decide)];refine zz (W.self 0 _ _ _ cu ?_);refine zz (wpAny_holding ?_);unfold Builtin.List.listLengthHint;refine zz (wpAny_specialOf (hT 0 _ cu) D6 ?_);show wpAny _ A.in1 (specialOf (Value.ref I) (Str.ofString "__length_hint__") >>= _) _ _ _;refine zz (wpAny_specialOf (hT 0 _ cu) G5 ?_)
 (generalize Az:("list_reverseiterator.__length_hint__":String)=IG;(fail_if_success (clear Az IG));wp_delta;rw[show splitId IG=some ("list_reverseiterator","__length_hint__") from by subst Az;decide +kernel];subst Az)
 refine zz (wpAny_isInstance (b:=true) (hT 0 _ cu) (by rw[isSubtype_type];kernel_rfl) ?_);refine zt ?_;rw[if_neg (by decide)];exact zt ⟨plainId_quiet F.plain_extend_loop _,codeAny_extend_loopS W hn _ uD _ n 0 _ _ _ rfl (zZ _) cu hS (ItemsOf.nil P) fun s' acc' c' hm hS' i6=>hR s' acc' c' hm hS' i6⟩
theorem rP(W:WalksS prog w A.in1 I fp wr G n P St)(hT:∀i s,St i s->s.TypeIs (.ref I) "list_reverseiterator")(S:Addr)(cu:St 0 s)(uD:S ∉ fp)(hI:I∈fp)
  (hS:s.heap.get? S=some { cls:=.type "list",data:=.seq #[] })
  (hR:∀s' acc' c',Moved (S::wr) G s s'->s'.heap.get? S=some { cls:=.type "list",dict:=none,data:=.seq acc' c',slots:=#[] }->ItemsOf P acc' n->R (.ok (.ret .none)) s') (hn:n<=zq) :
  wpAny (model prog w) A.in1 (Builtin.«list.__init__» ⟨[.ref S,.ref I],[]⟩)
   (fun fin s'=>match fin with|.done f=>R (.ok f) s'|.again c'=>c'.quiet=true/\codeAny (model prog w) A c' R s') (fun e s'=>R (.error e) s') s:=by
 show wpAny _ A.in1 (do let old<-Builtin.List.listItems (.ref S);Builtin.List.listUpdate (.ref S) (fun _=>#[]);letGo old.toList.reverse;Builtin.List.listExtendWith (.ref S) (.ref I) .none) _ _ s;refine zz ?_;unfold Builtin.List.listItems;refine zz (wpAny_seqItems hS rfl (zt ?_));show wpAny _ A.in1 (updateSeq S (fun _=>#[]) >>= fun _=>letGo (#[]:Array Value).toList.reverse >>= fun _=>Builtin.List.listExtendWith (.ref S) (.ref I) .none) _ _ s;refine zz (wpAny_updateSeq hS rfl ?_);have PC:=yr (Obj.mapSeq (fun _=>(#[]:Array Value))) hS rfl;have eF:∀b o,b≠S->s.heap.get? b=some o->(s.heap.update S (Obj.mapSeq (fun _=>(#[]:Array Value)))).get? b=some o :=
  fun b o hb e=>(zP _ _ (Ne.symm hb)).trans e
 refine zz (wpAny_letGo ?_);refine CK W hT S .none _ (W.frame 0 s _ s.toks cu (zp _) fun b hb o e=>eF b o (fun h=>uD (h▸hb)) e) uD hI PC (fun s' acc' c' hm hS' i6=>?_) hn;exact hR s' acc' c' (Moved.trans W.gtrans ((Moved.refl W.grefl).then_heap (zp _) fun b o hb e=>eF b o (fun h=>hb (h▸zR)) e) hm) hS' i6
theorem rT{l:Addr}{items:Array Value}{Q:Value->Shared->Prop}(hh:A.handled=none)(hit:s.heap.IsRevIter I l ((items.size:Int)-1))(hl:s.heap.IsList l items)(hsz:items.size<=zq)
  (hQ:∀h' tk c',(∀b o,b≠I->s.heap.get? b=some o->h'.get? b=some o)->h'.get? s.heap.objs.size=some { cls:=.type "list",dict:=none,data:=.seq items.reverse c',slots:=#[] }->Q (.ref s.heap.objs.size) { s with heap:=h',toks:=tk }) :
  wpAny (model prog w) A (call (.type "list") [.ref I]) Q E s:=by
 obtain⟨oi,Qz,V5,_⟩:=id hit;obtain⟨ol,uz,QK,_⟩:=id hl;have iE:l≠I:=fun z=>by
  rw[z,Qz]at uz;cases uz;rw[V5]at QK;exact absurd QK (by decide)
 have W:=(Walks.listRev (prog:=prog) (w:=w) (A:=A.in1.in1) hh I l iE items).toS;have hfp:∀b∈[I,l],b<s.heap.objs.size:=fun b hb=>by
  rcases zi.mp hb with rfl|hb
  ·exact zn Qz
  ·rw[zS.mp hb];exact zn uz
 have uD:s.heap.objs.size ∉ [I,l]:=fun hm=>yu _ (hfp _ hm);refine callType_codes (Q₁:=fun obj s₁=>obj=.ref s.heap.objs.size/\s₁={ s with heap:=s.heap.push { cls:=.type "list",data:=.seq #[] } }) F.called_list (F.typeCall_list_1 _) F.entry_list_init
  (code_list_new _ ⟨rfl,rfl⟩) fun obj s₁ h₁=>?_
 obtain⟨rfl,rfl⟩:=h₁;have hS:(s.heap.push { cls:=.type "list",data:=.seq #[] }).get? s.heap.objs.size=some { cls:=.type "list",data:=.seq #[] }:=zk _ rfl;have cu:(0:Nat)<=items.size/\(s.heap.push { cls:=.type "list",data:=.seq #[] }).IsRevIter I l ((items.size:Int)-1-((0:Nat):Int))/\(s.heap.push { cls:=.type "list",data:=.seq #[] }).IsList l items :=
  ⟨zZ _,by rw[show ((items.size:Int)-1-((0:Nat):Int))=(items.size:Int)-1 by simp];exact hit.at fun o e=>zy _ e,hl.at fun o e=>zy _ e⟩
 refine⟨⟨_,hS,rfl⟩,F.args_list_init_2 _ _,rP W (fun i s st=>st.2.1.typeIs) _ cu uD (zR ..) hS (fun s' acc' c' hm hS' i6=>⟨rfl,?_⟩) hsz⟩;have ea:acc'=items.reverse:=by
  refine Array.ext_getElem? fun j=>?_;by_cases hj:j<items.size
  ·have hj':j<acc'.size:=by rw[i6.1];exact hj
   have:=i6.2 j _ (yO hj')
   rw[yO hj',Array.getElem?_reverse hj,this]
  ·rw[xu (by rw[i6.1];omega),xu (by rw[Array.size_reverse];omega)]
 subst ea;obtain⟨h',g',d',tk',os'⟩:=s';have e1:g'=s.gens:=hm.gens;have e2:d'=s.drawn:=hm.drawn;have e3:os'=s.os:=hm.os;subst e1 e2 e3;refine hQ h' tk' c' (fun b o hb e=>?_) hS';refine hm.heap b o (fun hx=>?_) (zy _ e);rcases zi.mp hx with z|z
 ·exact yu _ (z▸zn e)
 ·exact hb (zS.mp z)
end
section
variable {X:Cx}{pins:List (Addr×Obj)}{σ:St}{H:Hp}{s:Shared}{h':Heap}
theorem GY{t':Nat}{p:Addr}{φ:Heap->Prop}(I:Inv X pins σ (upd H p (.ext φ)) s)(hp:H p=none)(hf:X.s₀.heap.objs.size<=p)(k:∀b o,b≠p->s.heap.get? b=some o->h'.get? b=some o) :
  Inv X pins σ H { s with heap:=h',toks:=t' }:=by
 have np:∀b u,H b=some u->b≠p:=fun b u e z=>by rw[z,hp]at e;cases e
 have ne:∀{b u},upd H p (.ext φ) b=some u->u≠.ext φ->b≠p:=fun {b u} e n z=>by
  rw[z,aT]at e;cases e;exact n rfl
 have nn:∀{b},upd H p (.ext φ) b=none->b≠p:=fun {b} e z=>by
  rw[z,aT]at e;cases e
 have hL:p≠X.env.locals:=fun z=>nn I.free z.symm;refine I.step (g':=s.gens) (d':=s.drawn) (ch:=[p]) (fun b hb=>?_) (fun b o _ _ hc e _=>k b o (fun z=>hc (by simp[z])) e) (fun b o _ _ hc e _=>⟨o.slots,k b o (fun z=>hc (by simp[z])) e⟩)
  (fun b o hc _ n=>by rw[aA (fun z=>hc (by simp[z]))]at n;exact n)
  (fun b o hc e=>⟨o,k b o (fun z=>hc (by simp[z])) e⟩) (fun b xs e=>by rw[aA (ne e (by intro z;cases z))]at e;exact e) (fun b o u e=>by rw[aA (ne e (by intro z;cases z))]at e;exact e)
  (fun b ps e=>⟨#[],by rw[aA (ne e (by intro z;cases z))]at e;rw[e];simp⟩) (fun m hm=>?_) (fun b u e=>?_) I.bare
 ·have e:b=p:=by simpa using hb
  subst e;exact⟨.inr hf,hL,fun x c e=>nn (I.dj x c e),fun q hq=>nn (I.pin q hq).2.1⟩
 ·obtain⟨o,es,ep,ho,r⟩:=hm
  exact⟨o,es,ep,k _ o (Ne.symm hL) ho,r⟩
 ·have hb:=np b u e
  refine(I.ax b u (by rw[aA hb];exact e)).jR (fun c v hc q=>k c v ?_ q) ?_ ?_
  ·rcases hc with z|z
   ·rw[z];exact hb
   ·exact ne z (by intro z;cases z)
  ·exact fun c z=>by rw[aA (ne z (by intro z;cases z))]at z;exact z
  ·exact fun c xs z=>by rw[aA (ne z (by intro z;cases z))]at z;exact z
end
section
variable {X:Cx}
theorem aN.RU{K:Q_}{H:Hp}{p a:Addr}{ho:HO}{xs:List V}(hp:H p=none)(h:aN K H a xs):aN K (upd H p ho) a xs:=by
 rcases h with (h|⟨o,h⟩)|h
 ·exact .inl (.inl (by rw[aA (aO h hp)];exact h))
 ·exact .inl (.inr ⟨o,by rw[aA (aO h hp)];exact h⟩)
 ·exact .inr h
theorem sL:∀{xs ys:List V} {us ws:List Value},Vals xs us->Vals ys ws->Vals (xs++ys) (us++ws)
 |_,_,_,_,.nil,h=>h
 |_,_,_,_,.cons a r,h=>.cons a (sL r h)
theorem sJ:∀{xs:List V} {us:List Value},Vals xs us->Vals xs.reverse us.reverse
 |_,_,.nil=>.nil
 |_,_,.cons a r=>by rw[yn,yn];exact sL (sJ r) (.cons a .nil)
theorem tD{K:Q_}{ι:List Addr}{H:Hp}:∀{xs ys:List D} {us ws:List V},aB K ι H xs us->aB K ι H ys ws->aB K ι H (xs++ys) (us++ws)
 |_,_,_,_,.nil,h=>h
 |_,_,_,_,.cons a r,h=>.cons a (tD r h)
theorem tw{K:Q_}{ι:List Addr}{H:Hp}:∀{xs:List D} {us:List V},aB K ι H xs us->aB K ι H xs.reverse us.reverse
 |_,_,.nil=>.nil
 |_,_,.cons a r=>by rw[yn,yn];exact tD (tw r) (.cons a .nil)
noncomputable def Bq(X:Cx)(p a:Addr)(n:Nat)(h:Heap):Prop:=X.s₀.heap.objs.size<=p/\h.IsRevIter p a ((n:Int)-1)
theorem rS:cI X (.type "reversed") (fun xs H Q=>∃a ys,xs=[.ref a]/\aN X.K H a ys/\∀p,H p=none->Q (.ref p) (upd H p (.ext (Bq X p a ys.length)))):=by
 intro pins s σ H xs us Q I rv h;obtain⟨a,ys,rfl,hq,q⟩:=h;obtain⟨u,rfl,ru⟩:=vals1 rv;cases ru;obtain⟨its,rel,pl,hz⟩:=I.list hq;have hl:its.length=ys.length:=rel.length.symm;refine call_reversed_list pl.isList ?_;have e:((its.toArray.size:Int)-1)=(ys.length:Int)-1:=by rw[zo,hl]
 rw[e];refine⟨.ref s.heap.objs.size,_,I.laid (t':=s.toks) (o:=.ext (Bq X s.heap.objs.size a ys.length)) (fun b o e=>zy _ e) (zp _) ?_,rfl,q _ (I.ax.fresh (zp _))⟩;exact⟨⟨I.sz,_,zk _ rfl,rfl,rfl⟩,⟨_,zk _ rfl⟩,fun h1 h2 ⟨z,o,e1,e2⟩ k=>⟨z,o,k o e1,e2⟩⟩
theorem uY(hc:X.calm=true):cI X (.type "list") (fun xs H Q=>∃p a ys H0,xs=[.ref p]/\H0 p=none/\H=upd H0 p (.ext (Bq X p a ys.length))/\aN X.K H0 a ys/\∀l,H0 l=none->Q (.ref l) (upd H0 l (.lst ys.reverse))):=by
 intro pins s σ H xs us Q I rv h;obtain⟨p,a,ys,H0,rfl,hp,rfl,hq,q⟩:=h;obtain⟨u,rfl,ru⟩:=vals1 rv;cases ru;obtain⟨its,rel,pl,hz⟩:=I.list (aN.RU hp hq);have hl:its.length=ys.length:=rel.length.symm;obtain⟨⟨hf,hit⟩,_,_⟩:=I.ax p _ aT;have e:((its.toArray.size:Int)-1)=(ys.length:Int)-1:=by rw[zo,hl]
 rw[<- e]at hit;refine rT (I.ok.hd hc) hit pl.isList (by rw[zo,hl];exact hz) fun h' tk c' kp eS=>?_;have I1:Inv X pins σ H0 { s with heap:=h',toks:=tk }:=GY I hp hf kp;have fr:(upd H0 p (.ext (Bq X p a ys.length))) s.heap.objs.size=none:=I.ax.fresh (zp _);have iE:s.heap.objs.size≠p:=fun z=>by rw[z,aT]at fr;cases fr
 rw[aA iE]at fr;refine⟨.ref s.heap.objs.size,_,qT I1 fr (sG I (zp _)) (show bK X.prog X.w _ h' _ (.lst ys.reverse) from ⟨by rw[xi];exact hz,its.reverse,c',sJ rel,?_⟩),rfl,q _ fr⟩;rw[eS];simp
theorem DO{Γ:Ctx}{S:Sc}{f g:Str}{a:Expr}{p1 p2 p3 p4:Pos}{fa:DE}(C:aL Γ S X)(h:Br S f g=true)(hp:aV a=true)(ha:PE X a (LE X.K fa)) :
  PE X (.Call (.Name f p1) [.Call (.Name g p2) [a] [] p3] [] p4) (LE X.K (fun ρ=>do let x<-fa ρ;let ds<-kL x;bz (.lst ds.reverse))):=by
 unfold Br at h;simp only[zx,beq_iff_eq]at h;obtain⟨⟨⟨⟨⟨⟨⟨h1,h2⟩,h3⟩,h4⟩,h5⟩,h6⟩,h7⟩,h8⟩:=h;subst h1 h2;obtain⟨o1,o2,o3⟩:=aX h3;obtain⟨q1,q2,q3⟩:=aX h4;have pr:=il (p:=p2) (pos:=p3) rS (C.bA h6) (C.bu _ (aC h8)) PyProof.Rows.boot_reversed (az ha bq (ay hp)) q3 q1 (ay hp) rfl;refine PE.imp (il (uY C.calm) (C.bA h5) (C.bu _ (aC h7)) PyProof.Rows.boot_list (az pr bq) o3 o1) fun σ H Q q=>?_;obtain⟨ι,ρ,M,d,M',S',R,e,k⟩:=q;obtain⟨x,M1,e1,ea⟩:=ae e;obtain⟨ds,M2,e2,eb⟩:=ae ea;refine⟨ι,ρ,M,x,M1,S',R,e1,fun v1 H1 ι1 r1 S1 X1=>?_⟩;have fact:M2=M1/\∃p vs,v1=.ref p/\aN X.K H1 p vs/\aB X.K ι1 H1 ds vs:=by
  cases r1 with
  |fl t q=>obtain⟨rfl,rfl⟩:=ah e2;exact⟨rfl,_,_,rfl,t.seq,q⟩
  |ob t =>
   obtain⟨g,rfl⟩:=bB e2;obtain⟨p,ws,g1,g2,g3,g4⟩:=aK S1 (.ob t) g;exact⟨rfl,p,ws,g1,aN.of g3,g4⟩
  |_=>exact(ai e2).elim
 obtain⟨rfl,p,vs,rfl,hq,hr⟩:=fact;obtain⟨rfl,rfl⟩:=gW eb;refine⟨p,vs,rfl,hq,fun it hit=>⟨it,p,vs,H1,rfl,hit,rfl,hq,fun l hl=>?_⟩⟩;have X4:Ext X.K ι1 H1 (ι1++[l]) (upd H1 l (.lst vs.reverse)):=Ext.new hl;exact k _ _ _ (.ob (by rw[<- S1.len,zc (zp _),yK];rfl)) (S1.new hl ⟨vs.reverse,rfl,tw (hr.mono X4)⟩) (X1.trans X4)
end
theorem rev_eq{e a:Expr}{g:Str}{p q:Pos}(h:Gg e=some (g,p,a,q)):e=.Call (.Name g p) [a] [] q:=by
 unfold Gg at h;split at h
 ·cases h;rfl
 ·cases h
end L3
namespace L3
open PySem PySem.Spec PyProof.Rows L2
section
variable {X:Cx}
noncomputable def GQ:M0->String
 |.clear=>"list.clear" |.pop=>"list.pop" |.reverse=>"list.reverse"
noncomputable def UQ(m:M0):V->List V->Hp->VK->Prop:=fun x vs H Q=>∃l xs y ys,x=.ref l/\vs=[]/\H l=some (.lst xs)/\Ap .non m xs=some (y,ys)/\Q y (upd H l (.lst ys))
theorem Pm(m:M0):nq X (GQ m) (UQ m):=by
 intro pins s σ H x vs v us Q I rx rv h;obtain⟨l,xs,y,ys,rfl,rfl,hH,hm,q⟩:=h;cases rx;cases rv;obtain⟨z,its,n,r,hl,e⟩:=I.nO hH;cases m with
 |clear =>
  cases hm;refine call_meets F.slot_list_clear ⟨_,e,rfl⟩ F.entry_list_clear (F.args_list_clear_1 _) (AutoSeq1.list_clear_list_0 l its.toArray n (by rw[zo,<- hl];exact z)) ⟨e,?_⟩;exact⟨.non,_,I.qi (its':=[]) hH e rfl .nil (zZ _),rfl,q⟩
 |reverse =>
  cases hm;refine call_meets F.slot_list_reverse ⟨_,e,rfl⟩ F.entry_list_reverse (F.args_list_reverse_1 _) (AutoSeq1.list_reverse_list_0 l its.toArray n (by rw[zo,<- hl];exact z)) ⟨e,?_⟩;refine⟨.non,_,I.qi (its':=its.reverse) hH e (by simp) r.reverse ?_,rfl,q⟩;rw[xi];exact z
 |pop =>
  obtain⟨y',hy,e'⟩:=zv.mp hm;cases e';obtain⟨u,hu,ru⟩:=r.get hy;have hy':its.toArray[its.toArray.size-1]?=some u:=by
   show its.toArray[its.length-1]?=some u;rw[<- xY,<- hl];exact hu
  refine call_meets F.slot_list_pop ⟨_,e,rfl⟩ F.entry_list_pop (F.args_list_pop_1 _) (MeetsSeq.list_pop_last l its.toArray n u hy' (by rw[zo,<- hl];exact z)) ⟨e,?_⟩;refine⟨y,_,I.qi (its':=its.dropLast) hH e ?_ r.dropLast ?_,ru,q⟩
  ·show its.toArray.eraseIdxIfInBounds (its.toArray.size-1)=its.dropLast.toArray
   rw[zo,List.eraseIdxIfInBounds_toArray,CL]
  ·rw[yA]
   exact zN (Nat.sub_le _ _) z
noncomputable def Ei:M0->Str
 |.clear=>"clear" |.pop=>"pop" |.reverse=>"reverse"
theorem KD{m:Str}{k:M0}(h:Cq m=some k):m=Ei k:=by
 unfold Cq at h;split at h
 ·rename_i e;cases h;exact beq_iff_eq.mp e
 split at h
 ·rename_i e;cases h;exact beq_iff_eq.mp e
 split at h
 ·rename_i e;cases h;exact beq_iff_eq.mp e
 ·cases h
theorem KG(k:M0):Slot "list" (Ei k) (GQ k)/\typeOf (.builtin (GQ k))=pure (.type "method_descriptor"):=by
 cases k
 ·exact⟨PySem.F.slot_list_clear,PySem.F.type_list_clear⟩
 ·exact⟨PySem.F.slot_list_pop,PySem.F.type_list_pop⟩
 ·exact⟨PySem.F.slot_list_reverse,PySem.F.type_list_reverse⟩
theorem Eh{K:Q_}{ι:List Addr}{H:Hp}:∀{ds:List D} {vs:List V},aB K ι H ds vs->aB K ι H ds.reverse vs.reverse
 |_,_,.nil=>.nil
 |_,_,.cons r t=>by
  rw[yn,yn];exact(Eh t).append (.cons r .nil)
theorem Ao{K:Q_}{ι:List Addr}{H:Hp}:∀{ds:List D} {vs:List V},aB K ι H ds vs->aB K ι H ds.dropLast vs.dropLast
 |_,_,.nil=>.nil
 |_,_,.cons _ .nil=>.nil
 |_,_,.cons r (.cons r2 t)=>.cons r (Ao (.cons r2 t))
theorem KC{K:Q_}{ι:List Addr}{H:Hp}{m:M0}{ds es:List D}{vs:List V}{d:D}(r:aB K ι H ds vs)(e:Ap .non m ds=some (d,es)):∃v ws,Ap .non m vs=some (v,ws)/\Rep K ι H d v/\aB K ι H es ws:=by
 cases m with
 |clear=>cases e;exact⟨_,_,rfl,.non,.nil⟩
 |reverse=>cases e;exact⟨_,_,rfl,.non,Eh r⟩
 |pop =>
  obtain⟨y,hy,e'⟩:=zv.mp e;cases e';obtain⟨v,hv,rv⟩:=r.get hy;rw[r.length]at hv;exact⟨v,_,by show (vs[vs.length-1]?).map _=_;rw[hv];rfl,rv,Ao r⟩
theorem Fm{o:Expr}{m:Str}{k0:M0}{p2 p3:Pos}{fo:DE}(h:Cq m=some k0)(hp:(p2.endLine==p3.line)=true)(ho:PE X o (LE X.K fo))(hb:∀a w',attributeBase o a X.env w'=w') :
  PE X (.Call (.Attribute o m p2) [] [] p3) (LE X.K (fun ρ=>do let x<-fo ρ;uT k0 x)):=by
 have hn:=KD h;subst hn;obtain⟨f1,f2⟩:=KG k0;refine PE.imp (MF (X:=X) (apos:=p2) (cpos:=p3) PySem.F.plainAttrs_list f1 f2 (Pm k0) ho (hb _ _) (by simpa using hp)) fun σ H Q q=>?_;obtain⟨ι,ρ,M,d,M',S',R,e,k⟩:=q;obtain⟨x,M1,e1,e⟩:=ae e;refine⟨ι,ρ,M,x,M1,S',R,e1,fun v1 H1 ι1 r1 S1 X1=>?_⟩;cases r1 with
 |ob t =>
  obtain⟨ds,M2,e2,ea⟩:=ae e;obtain⟨g,rfl⟩:=bB e2;obtain⟨⟨d',es⟩,M3,e3,eb⟩:=ae ea;obtain⟨hm,rfl⟩:=bj e3;obtain⟨_,M4,e4,ec⟩:=ae eb;obtain⟨rfl,rfl⟩:=ah ec;obtain⟨p,ws,h1,hi,h3,h4⟩:=aK S1 (.ob t) g;cases h1;obtain⟨v,ws',g1,g2,g3⟩:=KC h4 hm;obtain⟨S2,X2⟩:=kG (ds:=ds) S1 hi h3 g3 e4;exact⟨.inl ⟨rfl,_,aN.of h3⟩,_,ws,v,ws',rfl,rfl,h3,g1,k _ _ _ (g2.mono X2) S2 (X1.trans X2)⟩
 |_=>exact(ai e).elim
end
end L3
namespace L3
open PySem PySem.Spec PyProof.Rows L2
section
variable {X:Cx}
theorem Fv:cI X (.type "int") (fun xs H Q=>∃b:Bool,xs=[.bl b]/\Q (.int (if b then 1 else 0)) H):=by
 intro pins s σ H xs us Q I rv h;obtain⟨b,rfl,q⟩:=h;obtain⟨u,rfl,ru⟩:=vals1 rv;cases ru;exact call_int_bool ⟨.int (if b then 1 else 0),H,I.tok _,⟨_,rfl⟩,q⟩
theorem EA{Γ:Ctx}{S:Sc}{f:Str}{a:Expr}{p1 p4:Pos}{fa:DE}(C:aL Γ S X)(h:(f==("int":Str)&&bR f&&S.bA f&&S.bu.contains f)=true)(hp:aV a=true)(ha:PE X a (LE X.K fa)) :
  PE X (.Call (.Name f p1) [a] [] p4) (LE X.K (fun ρ=>do let x<-fa ρ;let b<-lift (bD x);pure (.int (if b then 1 else 0)))):=by
 simp only[zx,beq_iff_eq]at h;obtain⟨⟨⟨h1,h2⟩,h3⟩,h4⟩:=h;subst h1;obtain⟨o1,o2,o3⟩:=aX h2;refine PE.imp (il Fv (C.bA h3) (C.bu _ (aC h4)) PyProof.Rows.boot_int (az ha bq (ay hp)) o3 o1 (ay hp) rfl) fun σ H Q q=>?_;obtain⟨ι,ρ,M,d,M',S',R,e,k⟩:=q;obtain⟨x,M1,e1,ea⟩:=ae e;obtain⟨b,M2,e2,eb⟩:=ae ea;obtain⟨hb,rfl⟩:=bj e2;obtain⟨rfl,rfl⟩:=ah eb;refine⟨ι,ρ,M,x,_,S',R,e1,fun v1 H1 ι1 r1 S1 X1=>?_⟩;cases r1 with
 |bl c=>cases hb;exact⟨_,rfl,k _ H1 ι1 (.int _) S1 X1⟩
 |_=>cases hb
end
end L3
namespace L3
open PySem PySem.Spec PyProof.Rows L2
section
variable {Γ:Ctx}
theorem GA{S:Sc}{X:Cx}{sc:Scope}{x y:Str}{px py pt pz q pos:Pos}{kt:Nat}{elt a b:Expr}{i j:Nat}{fa fb fe:DE}(C:aL Γ S X)(hz:AS S=true)(h:dk S sc [x,y]=true)(ha:PE X a (LE X.K fa))(hb:PE X b (LE X.K fb))(pa:aV a=true)(pb:aV b=true)
  (hte:∀X',aL Γ (S.comp sc [x,y]) X'->X'.K=X.K->PE X' elt (LE X'.K fe)) :
  PE X (.ListComp elt [⟨.Tuple [.Name x px,.Name y py] kt pt,.Call (.Name "zip" pz) [a,b] [] q,[],0⟩] sc pos) (LE X.K (fun ρ=>do
   let x<-fa ρ
   let y<-fb ρ
   let s<-ny x y
   need (s.ds.length<=zq)
   let ys<-d9 s.c1 s.c2 fe ((ρ.set i none).set j none) s.ds
   bz (.lst ys))):=by
 intro pins s σ H Q I w;have CS:=me C I.ok h;unfold AS at hz;rw[zx]at hz;have s2:starEach [b] X.env=[(false,eval b X.env)]:=ay pb;exact p9 C.calm CS (fun Ca s H fp=>tR (X:=bo X sc (eI X.env.cells sc.names []) Ca ([x,y]++blank S.N [x,y]) s H fp) C.calm (iV (lT CS (i:=0) rfl _ _ _ _) (iV (lT CS (i:=1) rfl _ _ _ _) p8))) (MA (C.bA hz.1) (C.bu _ (aC hz.2)) (az ha (az hb bq s2) (ay pa)) (by rw[ay pa,s2]) s2)
  (fun _ _ _ _=>Ad) (fun Ca s H fp=>hte _ (km C h _ Ca s H fp) rfl) (fun _=>rfl) pins s σ H Q I (LE.compZ σ H Q w)
end
end L3
namespace L3
open PySem PySem.Spec PyProof.Rows L2
theorem Ez{prog:Program}{w:World}{A:Around}{E:Value->Shared->Prop}{x:Value}{Tx:String}{tp:Addr}{n:Nat}{cs:List Value}{vs:List Bool}{s:Shared}{Q:Fin->Shared->Prop}
  (hx:s.TypeIs x Tx) (IQ:s.heap.get? tp=some { cls:=.type "tuple",data:=.seq cs.toArray n }) (ha:AnswersAll (fun s=>s.TypeIs x Tx) x cs vs)
  (hq:∀tk',Q (.done (.ret (.bool (vs.any id)))) { s with toks:=tk' }):wpAny (model prog w) A (Builtin.«isinstance.nested» ⟨[x,.ref tp,rawInt 0],[]⟩) Q E s:=by
 have hs:=hx;obtain⟨h,g,d,t,os⟩:=s;have Wg:(⟨h,g,d,t,os⟩:Shared).TypeIs (.ref tp) "tuple":=⟨_,IQ,rfl⟩;have f1:=F.isi_sub_tuple
 repeat (any_goals (first|assumption|wp_step))
 refine wpAny_arrayLoop ?_;simp only[yL,ww];refine isinstance_items (dep:=0) (fun _ tk h=>h.toks tk) cs vs _ _ ha hs fun tk'=>?_;cases hv:vs.any id with
 |true =>
  simp only[if_true]
  repeat (any_goals (first|assumption|wp_step))
  exact hv▸hq tk'
 |false =>
  simp only[yz,if_false]
  repeat (any_goals (first|assumption|wp_step))
  exact hv▸hq tk'
section
variable {X:Cx}{pins:List (Addr×Obj)}{σ:St}{H:Hp}{s:Shared}{ι:List Addr}{M:MH}
theorem aF(k:Ty):typeOf (.type (tyName k))=pure (.type "type"):=by
 cases k
 ·exact F.isi_meta_int
 ·exact F.isi_meta_str
 ·exact F.isi_meta_bool
 ·exact F.isi_meta_list
 ·exact F.isi_meta_tuple
 ·exact F.isi_meta_dict
theorem C5(I:Inv X pins σ H s)(S:aJ X.K ι M H){dx:D}{x:V}{u:Value}(r:Rep X.K ι H dx x)(ru:RelV x u){k0:Ty}{b0:Bool}{M0:MH}(e0:dz k0 dx M=some (.ok b0,M0)) :
  ∃Tx,s.TypeIs u Tx/\∀(k:Ty) (b:Bool) (M':MH),dz k dx M=some (.ok b,M')->M'=M/\Answers (fun s=>s.TypeIs u Tx) u (.type (tyName k)) b:=by
 have lst:∀{a:Addr} {vs:List V},aN X.K H a vs->s.TypeIs (.ref a) "list"/\∀k:Ty,Answers (fun s=>s.TypeIs (.ref a) "list") (.ref a) (.type (tyName k)) (k==.list):=fun {a vs} hq=>by
  obtain⟨its,_,pl,_⟩:=I.list hq;obtain⟨o,ho,hc,_⟩:=pl.isList;refine⟨⟨o,ho,hc⟩,fun k=>?_⟩;cases k
  ·exact .of_false_list (by decide +kernel) (aF _) F.sub_list_int
  ·exact .of_false_list (by decide +kernel) (aF _) F.sub_list_str
  ·exact .of_false_list (by decide +kernel) (aF _) F.sub_list_bool
  ·exact .of_true (aF .list) F.sub_list_list
  ·exact .of_false_list (by decide +kernel) (aF _) F.sub_list_tuple
  ·exact .of_false_list (by decide +kernel) (aF _) F.sub_list_dict
 cases r with
 |non =>
  cases ru;refine⟨"NoneType",rfl,fun k b M' e=>?_⟩;obtain⟨rfl,rfl⟩:=ah e;refine⟨rfl,?_⟩;cases k
  ·exact .of_false_none (by decide +kernel) (aF _) F.sub_NoneType_int
  ·exact .of_false_none (by decide +kernel) (aF _) F.sub_NoneType_str
  ·exact .of_false_none (by decide +kernel) (aF _) F.sub_NoneType_bool
  ·exact .of_false_none (by decide +kernel) (aF _) F.sub_NoneType_list
  ·exact .of_false_none (by decide +kernel) (aF _) F.sub_NoneType_tuple
  ·exact .of_false_none (by decide +kernel) (aF _) F.sub_NoneType_dict
 |bl c =>
  cases ru;refine⟨"bool",rfl,fun k b M' e=>?_⟩;obtain⟨rfl,rfl⟩:=ah e;refine⟨rfl,?_⟩;cases k
  ·exact .of_true (aF .int) F.sub_bool_int
  ·exact .of_false_bool (by decide +kernel) (aF _) F.sub_bool_str
  ·exact .of_true (aF .bool) F.sub_bool_bool
  ·exact .of_false_bool (by decide +kernel) (aF _) F.sub_bool_list
  ·exact .of_false_bool (by decide +kernel) (aF _) F.sub_bool_tuple
  ·exact .of_false_bool (by decide +kernel) (aF _) F.sub_bool_dict
 |int c =>
  obtain⟨t,rfl⟩:=ru;refine⟨"int",rfl,fun k b M' e=>?_⟩;obtain⟨rfl,rfl⟩:=ah e;refine⟨rfl,?_⟩;cases k
  ·exact .of_true (aF .int) F.sub_int_int
  ·exact .of_false_int (by decide +kernel) (aF _) F.sub_int_str
  ·exact .of_false_int (by decide +kernel) (aF _) F.sub_int_bool
  ·exact .of_false_int (by decide +kernel) (aF _) F.sub_int_list
  ·exact .of_false_int (by decide +kernel) (aF _) F.sub_int_tuple
  ·exact .of_false_int (by decide +kernel) (aF _) F.sub_int_dict
 |str c =>
  obtain⟨t,rfl⟩:=ru;refine⟨"str",rfl,fun k b M' e=>?_⟩;obtain⟨rfl,rfl⟩:=ah e;refine⟨rfl,?_⟩;cases k
  ·exact .of_false_str (by decide +kernel) (aF _) F.sub_str_int
  ·exact .of_true (aF .str) F.sub_str_str
  ·exact .of_false_str (by decide +kernel) (aF _) F.sub_str_bool
  ·exact .of_false_str (by decide +kernel) (aF _) F.sub_str_list
  ·exact .of_false_str (by decide +kernel) (aF _) F.sub_str_tuple
  ·exact .of_false_str (by decide +kernel) (aF _) F.sub_str_dict
 |tup t q =>
  cases ru;obtain⟨its,_,⟨o,ho,hc,_⟩,_⟩:=I.tuple (bY t);refine⟨"tuple",⟨o,ho,hc⟩,fun k b M' e=>?_⟩;obtain⟨rfl,rfl⟩:=ah e;refine⟨rfl,?_⟩;cases k
  ·exact .of_false_tuple (by decide +kernel) (aF _) F.sub_tuple_int
  ·exact .of_false_tuple (by decide +kernel) (aF _) F.sub_tuple_str
  ·exact .of_false_tuple (by decide +kernel) (aF _) F.sub_tuple_bool
  ·exact .of_false_tuple (by decide +kernel) (aF _) F.sub_tuple_list
  ·exact .of_true (aF .tuple) F.sub_tuple_tuple
  ·exact .of_false_tuple (by decide +kernel) (aF _) F.sub_tuple_dict
 |fl t q =>
  cases ru;refine⟨"list",(lst t.seq).1,fun k b M' e=>?_⟩;obtain⟨rfl,rfl⟩:=ah e;exact⟨rfl,(lst t.seq).2 k⟩
 |@ob _ a t =>
  cases ru;have WE:=ae e0;clear e0;obtain⟨o,_,e1,e0⟩:=WE;have Og:=eh e1;clear e1;obtain⟨g,rfl⟩:=Og;cases o with
  |lst ds =>
   obtain⟨p,ws,g1,hi,h3,h4⟩:=aK S (.ob t) g;cases g1;refine⟨"list",(lst (aN.of h3)).1,fun k b M' e=>?_⟩;obtain⟨o2,_,e1,e⟩:=ae e;obtain⟨g',rfl⟩:=eh e1;rw[g]at g';cases g';obtain⟨rfl,rfl⟩:=ah e;exact⟨rfl,(lst (aN.of h3)).2 k⟩
  |ins _ _=>exact(ai e0).elim
  |aW kvs =>
   obtain⟨p,ws,g1,hi,h3,h4⟩:=dw S (.ob t) g;cases g1;have hT:s.TypeIs (.ref a) "dict":=(jZ (X:=X) I (x:=.ref a) (v:=.ref a) rfl (.inr (.inr (.inl ⟨rfl,.inl ⟨ws,h3⟩⟩)))).1;refine⟨"dict",hT,fun k b M' e=>?_⟩;obtain⟨o2,_,e1,e⟩:=ae e;obtain⟨g',rfl⟩:=eh e1;rw[g]at g';cases g';obtain⟨rfl,rfl⟩:=ah e;refine⟨rfl,?_⟩;cases k
   ·exact .of_false_dict (by decide +kernel) (aF _) F.sub_dict_int
   ·exact .of_false_dict (by decide +kernel) (aF _) F.sub_dict_str
   ·exact .of_false_dict (by decide +kernel) (aF _) F.sub_dict_bool
   ·exact .of_false_dict (by decide +kernel) (aF _) F.sub_dict_list
   ·exact .of_false_dict (by decide +kernel) (aF _) F.sub_dict_tuple
   ·exact .of_true (aF .dict) F.sub_dict_dict
noncomputable def JD(K:Q_)(k1 k2:Ty):List V->Hp->VK->Prop:=fun xs H Q=>∃ι M M1 M2 dx x b1 b2 p,xs=[x,.ref p]/\H p=some (.tup [.ty (tyName k1),.ty (tyName k2)])/\aJ K ι M H/\Rep K ι H dx x/\dz k1 dx M=some (.ok b1,M1)/\dz k2 dx M1=some (.ok b2,M2)/\(M1=M->M2=M->Q (.bl (b1||b2)) H)
theorem Fu(k1 k2:Ty):cI X (.builtin "isinstance") (JD X.K k1 k2):=by
 intro pins s σ H xs us Q I rv h;obtain⟨ι,M,M1,M2,dx,x,b1,b2,p,rfl,hp,S,r,e1,e2,q⟩:=h;obtain⟨u,w',rfl,ru,rw'⟩:=vals2 rv;cases rw';obtain⟨Tx,hT,an⟩:=C5 I S r ru e1;obtain⟨rfl,a1⟩:=an k1 b1 M1 e1;obtain⟨rfl,a2⟩:=an k2 b2 M2 e2;obtain⟨_,its,rt,⟨o,ho,hc,n,hd⟩,hs⟩:=I.ax p _ hp;obtain⟨lX,gN⟩:=hs o ho;obtain⟨c1,c2,e3,r1,r2⟩:=vals2 rt;subst e3;cases r1;cases r2;obtain⟨c,WJ,dat,sl⟩:=o;simp only at hc hd lX gN;subst hc hd lX gN;refine call_isinstance (S:=fun _ R s=>s.TypeIs u Tx/\s.heap.get? p=some { cls:=.type "tuple",data:=.seq #[.type (tyName k1),.type (tyName k2)] n }/\∀tk,R (.ok (.ret (.bool ([b1,b2].any id)))) { s with toks:=tk })
  (fun _ _ _ _ _ hs=>isinstance_outer (Ez (cs:=[.type (tyName k1),.type (tyName k2)]) (vs:=[b1,b2]) hs.1 hs.2.1 ⟨a1,a2,trivial⟩ hs.2.2) (Shared.TypeIs.not_mainsLoader hs.1)) ⟨hT,ho,fun tk=>?_⟩
 have eb:[b1,b2].any id=(b1||b2):=by cases b1 <;> cases b2 <;> rfl
 rw[eb];exact⟨.bl _,H,I.tok _,rfl,q rfl rfl⟩
theorem LE.isI2{k1 k2:Ty}{fa:DE}(σ:St)(H:Hp)(Q:VK)(h:LE X.K (fun ρ=>do let x<-fa ρ;let k<-dz k1 x;let l<-dz k2 x;pure (.bl (k||l))) σ H Q):vU (JD X.K k1 k2) (cR (LE X.K fa) (cR (FX (cR (tC (.ty (tyName k1))) (cR (tC (.ty (tyName k2))) gS))) gS)) σ H Q:=by
 obtain⟨ι,ρ,M,d,M',S,R,e,q⟩:=h;have e0:=ae e;clear e;obtain⟨x,M1,e1,e⟩:=e0;have e0:=ae e;clear e;obtain⟨b1,M2,e2,e⟩:=e0;have e0:=ae e;clear e;obtain⟨b2,M3,e3,e⟩:=e0;have e0:=ah e;clear e;obtain⟨rfl,rfl⟩:=e0;refine⟨ι,ρ,M,x,M1,S,R,e1,fun v H1 ι1 r1 S1 X1=>⟨by show 2<=zq;decide,fun p hp=>?_⟩⟩;exact⟨ι1,M1,M2,_,x,v,b1,b2,p,rfl,aT,S1.cW hp,r1.mono (Ext.cW hp),e2,e3,fun z1 z2=>by subst z1 z2;exact q _ _ ι1 (.bl _) (S1.cW hp) (X1.trans (Ext.cW hp))⟩
theorem Cw{Γ:Ctx}{S:Sc}{f u1 u2:Str}{k1 k2:Ty}{a:Expr}{p1 p2 p3 p4 p5:Pos}{kt:Nat}{fa:DE}(C:aL Γ S X)(hs:jq S f u1=true)(gN:jq S f u2=true)(VW:lL u1=some k1)(VU:lL u2=some k2)(ha:PE X a (LE X.K fa))(hp:aV a=true) :
  PE X (.Call (.Name f p1) [a,.Tuple [.Name u1 p2,.Name u2 p3] kt p4] [] p5) (LE X.K (fun ρ=>do let x<-fa ρ;let k<-dz k1 x;let l<-dz k2 x;pure (.bl (k||l)))):=by
 unfold jq at hs gN;simp only[zx,beq_iff_eq]at hs gN;obtain⟨⟨⟨⟨⟨⟨h1,h2⟩,h3⟩,h4⟩,h5⟩,h6⟩,h7⟩:=hs;obtain⟨⟨⟨_,g5⟩,g6⟩,g7⟩:=gN;subst h1;obtain⟨o1,o2,o3⟩:=aX h2;obtain⟨q1,q2,q3⟩:=aX h5;obtain⟨w1,w2,w3⟩:=aX g5;have US:PE X (.Name u1 p2) (tC (.ty (tyName k1))):=mE (C.bA h6) (C.bu _ (aC h7)) (pU VW) rfl q3 q1;have UR:PE X (.Name u2 p3) (tC (.ty (tyName k2))):=mE (C.bA g6) (C.bu _ (aC g7)) (pU VU) rfl w3 w1;exact PE.imp (dP (Fu k1 k2) (C.bA h3) (C.bu _ (aC h4)) G_ (az ha (az (tS (az US (az UR bq))) bq) (ay hp)) o3 o1 (ay hp) rfl) LE.isI2
end
end L3
namespace L3
open PySem PySem.Spec PyProof.Rows L2
section
variable {Γ:Ctx}{K:Q_}{X:Cx}
theorem JZ{e:Expr}{x:Str}(h:F4 e=some x):∃k p,e=.Constant (.str x) k p:=by
 cases e with
 |Constant c k p =>
  replace h:Lz c=some x:=h;cases c with
  |str y=>cases h;exact⟨k,p,rfl⟩
  |_=>cases h
 |_=>cases h
theorem LE.weak{f:DE}{σ:St}{H:Hp}{Q R:VK}(h:LE K f σ H Q)(k:∀v H,Q v H->R v H):LE K f σ H R:=by
 obtain⟨ι,ρ,M,d,M',S,R',e,q⟩:=h;exact⟨ι,ρ,M,d,M',S,R',e,fun v H' ι' r S' X'=>k _ _ (q v H' ι' r S' X')⟩
theorem oK{r:Expr->Option IE}(hr:∀e i,r e=some i->PE X e (LE X.K (af Γ i))){pos:Pos}:∀{ks:List (Option Expr)} {vs:List Expr} {xs:List Str} {es:cG},oM r ks vs=some (xs,es) ->
  ks.all (·.isSome)=true/\ks.length=vs.length/\∃ig,FF X pos ks vs ig/\∀σ H (Q:List (V×V)->Hp->Prop),LA X.K (aR Γ es) σ H (fun us H'=>xs.length=us.length->Q ((xs.map V.str).zip us) H')->lO ig σ H Q
 |[],[],xs,es,h=>by
  cases h;refine⟨rfl,rfl,[],Kj,fun σ H Q h=>?_⟩
  have:=LA.nil σ H _ h
  exact this rfl
 |[],_::_,_,_,h=>by cases h
 |_::_,[],_,_,h=>by cases h
 |k::ks,v::vs,xs,es,h=>by
  cases k with
  |none=>cases h
  |some k =>
   replace h:(do let x<-F4 k;let e<-r v;let p<-oM r ks vs;some (x::p.1,cG.cons e p.2))=some (xs,es):=h;obtain⟨x,h1,h⟩:=ak h;obtain⟨e,h2,h⟩:=ak h;obtain⟨p,h3,h⟩:=ak h;cases h;obtain⟨kk,kp,rfl⟩:=JZ h1;obtain⟨g1,g2,ig,g3,g4⟩:=oK hr (pos:=pos) (xs:=p.1) (es:=p.2) h3;refine⟨by rw[zL,g1];rfl,by rw[zg,zg,g2],_,Gs fV (hr _ _ h2) g3,fun σ H Q h=>?_⟩
   have:=LA.cons σ H _ h
   show LE X.K (af Γ e) σ H _;refine LE.weak this fun y H2 q=>g4 σ H2 _ ?_;obtain⟨ι,ρ,M,d,M',S,R',e,q⟩:=q;exact⟨ι,ρ,M,d,M',S,R',e,fun v H' ι' r S' X' hl=>q v H' ι' r S' X' (by rw[zg,zg,hl])⟩
theorem oE{ι:List Addr}{H:Hp}:∀{r:List (Ky×D)} {r':List (Key×V)} {kvs:List (Ky×D)} {vs:List (Key×V)},KR K ι H r r'->KR K ι H kvs vs->KR K ι H (iZ kvs r) (ir vs r')
 |[],_,_,_,.nil,h=>h
 | (k,v)::r,(k',u)::r',kvs,vs,.cons h1 t,h=>by
  obtain⟨e,rv⟩:=h1;simp only at e rv;subst e;show KR K ι H (iZ (iI kvs k v) r) (ir (putK vs k u) r');exact oE t (h.put k rv)
theorem Dq{ι:List Addr}{H:Hp}:∀{ks:List Str} {ds:List D} {vs:List V},aB K ι H ds vs->KR K ι H ((ks.map Sum.inr).zip ds) ((ks.map Sum.inr).zip vs)
 |[],_,_,_=>.nil
 |_::_,_,_,.nil=>.nil
 |k::ks,_,_,.cons r t=>.cons ⟨rfl,r⟩ (Dq t)
theorem Dp:∀(ks:List Str) (vs:List V),(ks.map V.str).zip vs=((ks.map (Sum.inr:Str->Key)).zip vs).map fun kv=>(kV kv.1,kv.2)
 |[],_=>rfl
 |_::_,[]=>rfl
 |k::ks,v::vs=>by
  rw[zK,zK,yX,yX,zK,Dp ks vs];rfl
theorem LE.Sx{fa:Ev->Mo (List D)}{ks:List Str}{ig:List (TE×TE)}(ht:∀σ H (Q:List (V×V)->Hp->Prop),LA K fa σ H (fun us H'=>ks.length=us.length->Q ((ks.map V.str).zip us) H')->lO ig σ H Q)(σ:St)(H:Hp)(Q:VK)
  (h:LE K (fun ρ=>do let o<-bz (.aW []);let xs<-fa ρ;pE ks o xs) σ H Q):HU ig σ H Q:=by
 obtain⟨ι,ρ,M,d,M',S,R,e,k⟩:=h;intro p hp;have e0:=ae e;clear e;obtain⟨o,M1,e1,e⟩:=e0;have aE:=gW e1;clear e1;obtain⟨rfl,rfl⟩:=aE;have e0:=ae e;clear e;obtain⟨xs,M2,e2,e⟩:=e0;have S1:aJ K (ι++[p]) (M++[.aW []]) (upd H p (.dK [])):=S.new hp ⟨[],rfl,.nil⟩;have X1:Ext K ι H (ι++[p]) (upd H p (.dK [])):=Ext.new hp;have VZ:(ι++[p])[M.length]?=some p:=by rw[<- S.len,zc (zp _),yK];rfl
 refine ht σ _ _ ⟨ι++[p],ρ,_,xs,M2,S1,R.mono X1,e2,fun us H2 ι2 r2 S2 X2 hl=>?_⟩;replace e:(do let kvs<-getD M.length;need (kvs.isEmpty=true/\ks.length=xs.length/\ks.length<=15);cY M.length (.aW (iZ [] ((ks.map Sum.inr).zip xs)));pure (D.ob M.length)) M2=some (.ok d,M'):=e;have e0:=ae e;clear e;obtain⟨kvs,_,e3,e⟩:=e0;have bf:=qm e3;clear e3;obtain⟨g,rfl⟩:=bf;have e0:=ae e;clear e;obtain⟨_,_,e3,e⟩:=e0;have bf:=aG e3;clear e3;obtain⟨⟨n1,n2,n3⟩,rfl⟩:=bf;have e0:=ae e;clear e;obtain⟨_,_,e3,e⟩:=e0;have bf:=j0 e3;clear e3;obtain⟨_,rfl⟩:=bf;have e0:=ah e;clear e;obtain⟨rfl,rfl⟩:=e0;have ek:kvs=[]:=yc.mp n1;subst ek;have Je:=X2.pre _ _ VZ;obtain⟨a,ws,h1,h2,h3,h4⟩:=dw S2 (.ob Je) g;cases h1;cases h4;refine⟨h3,(ks.map Sum.inr).zip us,Dp _ _,?_,?_⟩
 ·rw[yF,zl,hl,wa,<- hl]
  exact n3
 ·have X3:Ext K ι2 H2 ι2 (upd H2 p (.dK (ir [] ((ks.map Sum.inr).zip us)))):=Ext.write h3 (Cj _)
  exact k _ _ ι2 (.ob Je) (S2.put Je ⟨_,rfl,oE (Dq (r2.mono X3)) .nil⟩) ((X1.trans X2).trans X3)
end
end L3
namespace L3
open PySem PySem.Spec PyProof.Rows L2
theorem mw:Slot "set_iterator" "__next__" "set_iterator.__next__" :=
 Slot.of (owner:="set_iterator") (n:="__next__") (by rw[typeLookup_type,builtinLookup_eq_fast];kernel_rfl) (by decide +kernel) (by decide +kernel) (by decide +kernel) (by first|exact .inl (by decide +kernel)|exact .inr (by decide +kernel)) (by rw[isSubtype_type];kernel_rfl)
theorem Hq:entryFor table "set_iterator.__next__" = some Builtin.«set_iterator.__next__»:=entryFor_of_tree (by kernel_rfl)
theorem Lf(a:Value):argsOk "set_iterator.__next__" ⟨[a],[]⟩:=by unfold argsOk;kernel_rfl
theorem Fc:entryFor table "set.__iter__" = some Builtin.«frozenset.__iter__»:=entryFor_alias (id':="frozenset.__iter__") (by kernel_rfl) (by decide +kernel) (by decide +kernel) (by kernel_rfl)
theorem sY:Slot "set_iterator" "__iter__" "set_iterator.__iter__" :=
 Slot.of (owner:="set_iterator") (n:="__iter__") (by rw[typeLookup_type,builtinLookup_eq_fast];kernel_rfl) (by decide +kernel) (by decide +kernel) (by decide +kernel) (by first|exact .inl (by decide +kernel)|exact .inr (by decide +kernel)) (by rw[isSubtype_type];kernel_rfl)
theorem Fe:entryFor table "set_iterator.__iter__" = some Builtin.«dict_keyiterator.__iter__»:=entryFor_alias (id':="dict_keyiterator.__iter__") (by kernel_rfl) (by decide +kernel) (by decide +kernel) (by kernel_rfl)
theorem HD(a:Value):argsOk "set_iterator.__iter__" ⟨[a],[]⟩:=by unfold argsOk;kernel_rfl
section
variable {prog:Program}{w:World}{A:Around}{E:Value->Shared->Prop}{s:Shared}{I a:Addr}{so:Obj}{ep:Nat}{t:SetTable}
structure iF (h:Heap) (a:Addr) (so:Obj) (ep:Nat) (t:SetTable):Prop where
 g:h.get? a=some so
 x:so.ExactSet
 d:so.data=.set #[] ep t
 f:t.fits 0=true
theorem iF.at{h h':Heap}(S:iF h a so ep t)(k:∀o,h.get? a=some o->h'.get? a=some o):iF h' a so ep t:=⟨k _ S.g,S.x,S.d,S.f⟩
theorem iF.st{Q:(Array (Int×Value)×Nat×SetTable)->Shared->Prop}(S:iF s.heap a so ep t)(h:Q (#[],ep,t) s):wpAny (model prog w) A (setState a) Q E s:=wpAny_setState_of S.g S.d S.f h
theorem sH{Q:Bool->Shared->Prop}(q:Q (w.params.followText "set-order") s):wpAny (model prog w) A setsByText Q E s:=by
 unfold setsByText;exact zz (wpAny_askSetting (zt q))
noncomputable def FE(h:Heap)(I a:Addr)(ep:Nat):Prop:=∃o,h.get? I=some o/\o.cls=.type "set_iterator"/\o.data=.fields #[.int 0 0,.int 0 0,.ref a,.int 0 0,.int ep 0]
theorem FE.ty(x:FE s.heap I a ep):s.TypeIs (.ref I) "set_iterator":=let ⟨o,h,c,_⟩:=x;⟨o,h,c⟩
theorem KU{Q:Option (Value×Nat)->Shared->Prop}(S:iF s.heap a so ep t)(q:Q none s):wpAny (model prog w) A (setNext a 0 0 ep) Q E s:=by
 unfold setNext;refine zz (S.st ?_);dsimp only;refine zz (sH ?_);cases hb:w.params.followText "set-order" with
 |true =>
  rw[if_pos rfl,if_neg (by simp)];refine zz ?_;unfold setWalk;refine zz (S.st ?_);dsimp only;refine zz (sH ?_);rw[hb,if_pos rfl];exact zz (wpAny_askSetting (zt (zt q)))
 |false =>
  rw[if_neg zu];split
  ·rename_i z
   have z:(!t.plain&&decide (0 > 1))=true:=z;simp at z
  ·refine zz (m:=if (!t.led&&!(#[]:Array (Int×Value)).isEmpty)=true then unsupported "set:maker-not-led" else pure ()) ?_
   rw[if_neg (by simp)];exact zt (zt (by simpa using q))
theorem Oc{Q:Option Value->Shared->Prop}(hh:A.handled=none)(st:FE s.heap I a ep)(S:iF s.heap a so ep t)(q:∀h',Heap.ExtBut I s.heap h'->Q none { s with heap:=h' }):wpAny (model prog w) A (pyNext (.ref I)) Q E s:=by
 obtain⟨o,k1,k2,k3⟩:=id st;unfold pyNext;refine zz (wpAny_attempt (wpAny_callSpecial?_slot (name:=Str.ofString "__next__") st.ty mw (wpAny_call_entry mw st.ty Hq ?_ (Lf _))));unfold Builtin.«set_iterator.__next__»;refine zz (zt ?_);refine zz (wpAny_fieldsOf k1 k3 ?_);dsimp only;refine zz ?_;unfold setEntries;refine zz (S.st (zt ?_));rw[if_neg (by simp)];refine zz (KU S ?_);refine zz (wpAny_setField k1 k3 (by simp) ?_);refine zz ?_;simp only[newExc,newTuple];refine zz (wpAny_newObj_type (zz (m:=firstArgMember _ _) (wpAny_of_eq (a:=Value.none) (by first|rfl|(simp only[firstArgMember];rfl)) ?_)) (by size_fits))
 refine wpAny_newObj_type ?_ (by size_fits);simp only[raiseNew];refine zz (wpAny_handled ?_);rw[show A.in1.handled=none from hh];refine zz (zt (wpAny_throw ?_));exact zz (wpAny_isInstance (T:="StopIteration") (b:=true) ⟨_,zk _ rfl,rfl⟩ isSubtype_stop (zt (q _ (((Heap.SameBut.update ..).extBut.push _).push _))))
theorem KS{Q:Value->Shared->Prop}(st:FE s.heap I a ep)(q:Q (.ref I) s):wpAny (model prog w) A (pyIter (.ref I)) Q E s:=by
 refine wpAny_pyIter_slot st.ty sY (wpAny_call_entry sY st.ty Fe ?_ (HD _));show wpAny _ _ (ret (.ref I)) _ _ s;exact zt ⟨_,rfl,"set_iterator",_,st.ty,mw.lookup,q⟩
theorem KQ(hh:A.handled=none)(nI:a≠I):Walks prog w A I [I,a] [I] 0 (fun _ _=>False) (fun _ h=>FE h I a ep/\iF h a so ep t) where
 sub:=fun b hb=>zi.mpr (.inl (zS.mp hb))
 frame:=fun i h h' st k=>⟨let ⟨o,e,r⟩:=st.1;⟨o,k I (by simp) o e,r⟩,st.2.at fun o e=>k a (by simp) o e⟩
 item:=fun i s Q E hi _ _=>absurd hi (Nat.not_lt_zero _)
 done:=fun s Q E st q=>Oc hh st.1 st.2 fun h' eb=>q h' s.toks fun b o hb e=>eb b o (by simpa using hb) e
 self:=fun i s Q E st q=>KS st.1 q
theorem KW{Q:Value->Shared->Prop}(S:iF s.heap a so ep t)
  (q:Q (.ref s.heap.objs.size) { s with heap:=s.heap.push { cls:=.type "set_iterator",data:=.fields #[.int 0 0,.int 0 0,.ref a,.int 0 0,.int ep 0] } }):wpAny (model prog w) A (pyIter (.ref a)) Q E s:=by
 have ty:s.TypeIs (.ref a) "set":=⟨so,S.g,S.x.1⟩;refine wpAny_pyIter_slot ty PySem.F.slot_set_iter (wpAny_call_entry PySem.F.slot_set_iter ty Fc ?_ (PySem.F.args_set_iter_1 _));unfold Builtin.«frozenset.__iter__»;refine zz (zt ?_);refine zz (zz ?_);unfold setEntries;refine zz (S.st (zt (zt ?_)));refine zz ?_;unfold setDrawn;refine zz (S.st ?_);dsimp only;refine zz (sH (zt ?_));have hc:(!w.params.followText "set-order"&&(!t.plain&&decide ((0:Nat) > 1)))=false:=by simp
 show wpAny _ _ (if (!w.params.followText "set-order"&&(!t.plain&&decide ((0:Nat) > 1)))=true then _ else _) _ _ _;rw[hc,if_neg zu];refine zz (zt ?_);refine zz (wpAny_setEpoch_of S.g S.d S.f ?_);exact zz (wpAny_newObj_type (zt ⟨_,rfl,"set_iterator",_,⟨_,zk _ rfl,rfl⟩,mw.lookup,q⟩))
theorem KY{Q:Bool->Shared->Prop}(ty:s.TypeIs (.ref a) "set")(q:Q false s):wpAny (model prog w) A (Builtin.List.listLengthHint (.ref a)) Q E s:=by
 unfold Builtin.List.listLengthHint;refine zz (wpAny_specialOf ty PySem.F.slot_set_len.lookup ?_);generalize Az:("set.__len__":String)=IG
 wp_delta
 rw[show splitId IG=some ("set","__len__") from by subst Az;decide +kernel];subst Az;refine zz (wpAny_isInstance (T:="set") (b:=true) ty (by rw[isSubtype_type];kernel_rfl) ?_);refine wpAny_ite_split (fun z=>absurd z (by decide)) (fun _=>wpAny_ite_split (fun _=>?_) (fun z=>absurd (by decide +kernel) z));exact zz (wpAny_typeOf ty (zt q))
theorem Ob:Y7 prog w "set" a a 0 (fun _ _=>False) (fun h=>iF h a so ep t) where
 type:=fun _ S=>⟨so,S.g,S.x.1⟩
 there:=fun _ S=>⟨zn S.g,zn S.g⟩
 keep:=fun _ _ S k=>S.at fun o e=>k a (.inl rfl) o e
 notList:=by decide
 notTuple:=by decide
 hint:=fun _ _ _ _ S q=>KY ⟨so,S.g,S.x.1⟩ q
 iter:=fun _ _ hh S=>⟨_,_,fun _ _ q=>KW S q,KQ hh (zC (zn S.g)),⟨_,zk _ rfl,rfl,rfl⟩,S.at fun o e=>zy _ e⟩
end
section
variable {X:Cx}
theorem mT{T:String}{a d:Addr}{P:Nat->Value->Prop}{OK:Heap->Prop}{pins:List (Addr×Obj)}{σ:St}{H:Hp}{s:Shared}{Q:VK}(K:Y7 X.prog X.w T a d 0 P OK)(hc:X.calm=true)(I:Inv X pins σ H s)(ok:OK s.heap)(q:∀p,H p=none->Q (.ref p) (upd H p (.lst []))) :
  wpAny (model X.prog X.w) X.A (call (.builtin "sorted") [.ref a]) (EP X pins σ Q) X.xe s:=by
 refine Calls.call_function_entry kind_sorted plain_sorted entry_sorted (args_sorted1 _) ?_;unfold Builtin.«sorted»;refine zz (m:=checkCount "sorted" 1 1 _) (zt ?_);refine zz (PySem.W.kdu_collect (A:=X.A.in1) K (I.ok.hd hc) ok (by decide) fun h' tk acc kk i6=>?_);have ha:acc.toList=[]:=by
  have:=i6.1
  simpa using this
 rw[ha];have I1:Inv X pins σ H { s with heap:=h',toks:=tk }:=I.kept (t':=tk) kk;refine zz (wpAny_newList ?_ (by decide));have EG:(h'.push (seqObj "list" ([]:List Value).toArray 0)).get? h'.objs.size=some (seqObj "list" ([]:List Value).toArray 0):=zk _ rfl;refine zz (wpAny_holding (wpAny_call_entry slot_list_sort ⟨_,EG,rfl⟩ entry_list_sort (list_sort_tree (ns:=[]) EG .nil (by decide) fun out ns' a1 a2 a3=>⟨_,rfl,?_⟩) (args_list_sort _)));refine zt ⟨_,rfl,?_⟩;have hn:ns'=[]:=xN.mp (by simpa using a2.length_eq);subst hn;have ho:out.toList=[]:=by cases h:out.toList with
  |nil=>rfl
  |cons x r=>rw[h]at a1;cases a1
 have fr:H h'.objs.size=none:=I1.ax.fresh (zp _);refine⟨.ref h'.objs.size,upd H h'.objs.size (.lst []),?_,rfl,q _ fr⟩;obtain⟨c1,h1⟩:=sortedHeap_at (out:=out) EG;refine I1.laid (t':=tk) (fun b o e=>?_) (zp _) ⟨by decide,[],c1,.nil,?_⟩
 ·have hb:b<h'.objs.size:=zn e
  show (sortedHeap (h'.push (seqObj "list" ([]:List Value).toArray 0)) h'.objs.size [] out).get? b=some o;rw[sortedHeap_old (zC hb) (by rw[zV];exact xD hb)];exact zy _ e
 ·obtain rfl:out=#[]:=xM.mp ho
  exact h1
theorem Fq(hc:X.calm=true):cI X (.type "set") (fun xs H Q=>∃p,xs=[.ref p]/\aN X.K H p []/\∀q,H q=none->Q (.ref q) (upd H q (.ext fun h=>∃so ep t,iF h q so ep t))):=by
 intro pins s σ H xs us Q I rv h;obtain⟨p,rfl,hp,k⟩:=h;obtain⟨u,rfl,ru⟩:=vals1 rv;cases ru;obtain⟨its,rel,pl,hl⟩:=I.list hp;cases rel;refine call_set_list (ns:=[]) (I.ok.hd hc) pl.isList .nil (by decide) fun h' tk hS kk=>?_;have hE:∃so ep t,iF h' s.heap.objs.size so ep t:=by
  obtain⟨o,es,ep,t,g1,g2,g3,_,_,_,g7,g8⟩:=hS
  have:es.size=0:=by rw[g8];rfl
  obtain rfl:es=#[]:=Array.eq_empty_of_size_eq_zero this;exact⟨o,ep,t,g1,g2,g3,g7⟩
 refine⟨.ref s.heap.objs.size,_,I.laid (t':=tk) (o:=.ext fun h=>∃so ep t,iF h s.heap.objs.size so ep t) (fun b o e=>kk b o (zn e) e) (zp _) ?_,rfl,k _ (I.ax.fresh (zp _))⟩;exact⟨hE,(by obtain⟨so,_,_,S⟩:=hE;exact⟨so,S.g⟩),fun h1 h2 x k=>(by obtain⟨so,ep,t,S⟩:=x;exact⟨so,ep,t,S.at k⟩)⟩
theorem mh(hc:X.calm=true):cI X (.builtin "sorted") (fun xs H Q=>∃a,xs=[.ref a]/\(H a=some (.ext fun h=>∃so ep t,iF h a so ep t)\/H a=some (.dK []))/\∀p,H p=none->Q (.ref p) (upd H p (.lst []))):=by
 intro pins s σ H xs us Q I rv h;obtain⟨a,rfl,ha,k⟩:=h;obtain⟨u,rfl,ru⟩:=vals1 rv;cases ru;rcases ha with ha|ha
 ·obtain⟨⟨so,ep,t,S⟩,_,_⟩:=I.ax a _ ha
  exact mT Ob hc I S k
 ·obtain⟨z,hd,rs,rel,dd⟩:=jB I.ax (.inl ha)
  obtain⟨ep,Wc⟩:=dd.dictAt;cases rel;exact mT (PySem.W.kdl_dict (knd:=bS X.prog X.w) (kvs:=[]) (ep:=ep) hd) hc I Wc k
theorem KA(a v:Value):argsOk "min" ⟨[a],[(Str.ofString "default",v)]⟩:=by unfold argsOk;kernel_rfl
theorem Fs(hc:X.calm=true){pins:List (Addr×Obj)}{σ:St}{H:Hp}{s:Shared}{Q:VK}{p:Addr}{y:V}{u:Value}(I:Inv X pins σ H s)(hp:aN X.K H p [])(ry:RelV y u)(q:Q y H) :
  wpAny (model X.prog X.w) X.A (call (.builtin "min") [.ref p] [(Str.ofString "default",u)]) (EP X pins σ Q) X.xe s:=by
 obtain⟨its,rel,pl,hl⟩:=I.list hp;cases rel;have Px:(toString "min"++toString ".loop":String) = "min.loop":=by decide
 refine kmb_tree PySem.F.kind_min PySem.F.plain_min PySem.F.entry_min (KA _ _) ?_;show wpAny _ X.A.in1 (Builtin.Builtins.bindParams "min" ["key","default"] 0 ⟨[],[(Str.ofString "default",u)]⟩ >>= _) _ _ s;refine zz (wpAny_of_eq (show Builtin.Builtins.bindParams "min" ["key","default"] 0 ⟨[],[(Str.ofString "default",u)]⟩=pure [none,some u] from by kernel_rfl) ?_);refine zz (zt ?_);refine zz (wpAny_pyIter_list pl.isList ?_);refine zz (wpAny_newObj_type ?_);rw[Px];refine zt ⟨plainId_quiet PySem.F.plain_min_loop _,?_⟩;refine codeAny_builtin PySem.F.entry_min_loop ?_;rw[Around.under_plainId PySem.F.plain_min_loop _];dsimp only;generalize EL:s.heap.push { cls:=.type "list_iterator",dict:=none,data:=.fields #[Value.ref p,Value.int 0 0] }=h1;generalize AA:h1.push { cls:=.type "list",dict:=none,data:=.seq ([]:List Value).toArray }=h2;have k1:∀b o,s.heap.get? b=some o->h2.get? b=some o:=fun b o e=>by
  rw[<- AA];exact zy _ (by rw[<- EL];exact zy _ e)
 have hS:h2.get? h1.objs.size=some { cls:=.type "list",dict:=none,data:=.seq #[] }:=by rw[<- AA];exact zk _ rfl
 have hI:h2.IsListIter s.heap.objs.size p 0:=⟨_,by rw[<- AA];exact zy _ (by rw[<- EL];exact zk _ rfl),rfl,rfl⟩;show wpAny _ X.A.in1 (seqItems? (.ref h1.objs.size) >>= _) _ _ { s with heap:=h2 };refine zz (wpAny_seqItems hS rfl ?_);show wpAny _ X.A.in1 (tryCatch (pyNext (.ref s.heap.objs.size)) _ >>= _) _ _ { s with heap:=h2 };refine zz (wpAny_tryCatch (wpAny_pyNext_list_end (A:=X.A.in1) (I.ok.hd hc) hI ((pl.at fun o e=>k1 p o e).isList) (by decide) fun h' eb=>?_));refine zz (wpAny_rule ?_);refine zt ⟨y,H,I.kept (t':=s.toks) fun b o e=>eb b o (zC (zn e)) (k1 b o e),ry,q⟩
end
end L3
namespace L3
open PySem PySem.Spec PyProof.Rows L2
section
variable {K:Q_}{ι:List Addr}{H:Hp}{M:MH}
theorem FR.look:∀{fs:List (Str×D)} {ws:List (Str×V)} {f:Str} {d:D},FR K ι H fs ws->fs.lookup f=some d->∃v,ws.lookup f=some v/\Rep K ι H d v
 |[],_,_,_,.nil,e=>by cases e
 | (a,x)::fs,(b,y)::ws,f,d,.cons r t,e=>by
  obtain⟨r1,r2⟩:=r;dsimp only at r1 r2;subst r1;rw[yq]at e ⊢;cases h:f==a with
  |true=>rw[h]at e;cases e;exact⟨y,rfl,r2⟩
  |false=>rw[h]at e;exact FR.look t e
theorem FR.none:∀{fs:List (Str×D)} {ws:List (Str×V)} {f:Str},FR K ι H fs ws->fs.lookup f=none->ws.lookup f=none
 |[],_,_,.nil,_=>rfl
 | (a,x)::fs,(b,y)::ws,f,.cons r t,e=>by
  obtain⟨r1,r2⟩:=r;dsimp only at r1 r2;subst r1;rw[yq]at e ⊢;cases h:f==a with
  |true=>rw[h]at e;cases e
  |false=>rw[h]at e;exact FR.none t e
theorem FR.put{f:Str}{d:D}{v:V}(q:Rep K ι H d v):∀{fs:List (Str×D)} {ws:List (Str×V)},FR K ι H fs ws->FR K ι H (putD f d fs) (dO f v ws)
 |[],_,.nil=>.cons ⟨rfl,q⟩ .nil
 | (a,x)::fs,(b,y)::ws,.cons r t=>by
  obtain⟨r1,r2⟩:=r;dsimp only at r1 r2;subst r1;unfold putD dO;by_cases h:a=f
  ·rw[if_pos h,if_pos h];exact .cons ⟨rfl,q⟩ t
  ·rw[if_neg h,if_neg h];exact .cons ⟨rfl,r2⟩ (FR.put q t)
theorem FR.length:∀{fs:List (Str×D)} {ws:List (Str×V)},FR K ι H fs ws->fs.length=ws.length
 |[],_,.nil=>rfl
 |_::_,_::_,.cons _ t=>by rw[zg,zg,FR.length t]
theorem iM(S:aJ K ι M H){t C:Nat}{fs:List (Str×D)}{v:V}(r:Rep K ι H (.ob t) v)(g:M[t]?=some (.ins C fs)):∃a dx ws,v=.ref a/\ι[t]?=some a/\H a=some (.ins C dx ws)/\FR K ι H fs ws:=by
 cases r with
 |ob e =>
  obtain⟨dx,ws,h1,h2⟩:=S.obj _ _ _ e g;exact⟨_,dx,ws,rfl,e,h1,h2⟩
theorem LE.fld{fa:DE}{C:Nat}{f:Str}(c:iz K C)(n:eK K C f)(σ:St)(H:Hp)(Q:VK)(h:LE K (fun ρ=>do let x<-fa ρ;uE C f x) σ H Q):Lv K (LE K fa) f σ H Q:=by
 obtain⟨ι,ρ,M,d,M',S,R,e,k⟩:=h;have e0:=ae e;clear e;obtain⟨x,M1,e1,e⟩:=e0;refine⟨ι,ρ,M,x,M1,S,R,e1,fun v1 H1 ι1 r1 S1 X1=>?_⟩;cases x with
 |ob t =>
  have e0:=ae e;clear e;obtain⟨p,M2,e2,e⟩:=e0;have aQ:=ql e2;clear e2;obtain⟨g,rfl⟩:=aQ;have e0:=ae e;clear e;obtain⟨_,_,e3,e⟩:=e0;have bf:=aG e3;clear e3;obtain⟨hc,rfl⟩:=bf;have e0:=bj e;clear e;obtain⟨hl,rfl⟩:=e0;obtain⟨a,dx,ws,rfl,_,ha,fr⟩:=iM S1 r1 g;obtain⟨v,hv,rv⟩:=fr.look hl;exact⟨a,C,dx,ws,v,rfl,hc▸ha,c,n,hv,k v H1 ι1 rv S1 X1⟩
 |_=>exact(ai e).elim
theorem uu{C t:Nat}{m:Str}{M M':MH}{u:Unit}(h:gM C m (.ob t) M=some (.ok u,M')):M'=M/\∃fs,M[t]?=some (.ins C fs)/\fs.lookup m=none:=by
 have e0:=ae h;clear h;obtain⟨p,M2,e2,e⟩:=e0;have aQ:=ql e2;clear e2;obtain⟨g,rfl⟩:=aQ;have e0:=aG e;clear e;obtain⟨⟨hc,hl⟩,rfl⟩:=e0;exact⟨rfl,p.2,hc▸g,ya.mp hl⟩
theorem LE.mcl{fo:DE}{fa:Ev->Mo (List D)}{g:List D->Mo D}{j C:Nat}{m:Str}(σ:St)(H:Hp)(Q:VK)(hm:∀ds M d M',g ds M=some (.ok d,M')->ds.length=j)
  (h:LE K (fun ρ=>do let x<-fo ρ;gM C m x;let xs<-fa ρ;g (x::xs)) σ H Q):rW C m (fC K j g) [] E0 (LE K fo) (LA K fa) σ H Q:=by
 obtain⟨ι,ρ,M,d,M',S,R,e,k⟩:=h;have e0:=ae e;clear e;obtain⟨x,M1,e1,e⟩:=e0;refine⟨ι,ρ,M,x,M1,S,R,e1,fun v1 H1 ι1 r1 S1 X1=>?_⟩;cases x with
 |ob t =>
  have e0:=ae e;clear e;obtain⟨_,M2,e2,e⟩:=e0;obtain⟨rfl,fs,g',hl⟩:=uu e2;have e0:=ae e;clear e;obtain⟨xs,M3,e3,e⟩:=e0;obtain⟨a,dx,ws,rfl,_,ha,fr⟩:=iM S1 r1 g';refine⟨a,dx,ws,rfl,ha,fr.none hl,ι1,ρ,_,xs,M3,S1,R.mono X1,e3,fun vs H2 ι2 r2 S2 X2=>?_⟩;show fC K j g (V.ref a::(vs++[])) H2 Q E0;rw[zJ];have hl:=hm _ _ _ _ e;exact⟨by rw[zg,<- r2.length];exact hl,ι2,M3,M',.ob t::xs,d,S2,.cons (r1.mono X2) r2,e,fun v H' ι' r' S' X'=>k v H' ι' r' S' ((X1.trans X2).trans X')⟩
 |_=>have e0:=ae e;clear e;obtain⟨_,_,e2,_⟩:=e0;exact(ai e2).elim
theorem LE.new{fa:Ev->Mo (List D)}{g:List D->Mo D}{j C:Nat}(σ:St)(H:Hp)(Q:VK)(hm:∀ds M d M',g ds M=some (.ok d,M')->ds.length=j)
  (h:LE K (fun ρ=>do let xs<-fa ρ;let o<-bz (.ins C []);let r<-g (o::xs);need (gL r=true);pure o) σ H Q):HR C (fC K j g) [] E0 (LA K fa) σ H Q:=by
 obtain⟨ι,ρ,M,d,M',S,R,e,k⟩:=h;have e0:=ae e;clear e;obtain⟨xs,M1,e1,e⟩:=e0;refine⟨ι,ρ,M,xs,M1,S,R,e1,fun vs H1 ι1 r1 S1 X1=>?_⟩;intro x dx hx QI ne;have e0:=ae e;clear e;obtain⟨o,M2,e2,e⟩:=e0;have aQ:=gW e2;clear e2;obtain⟨rfl,rfl⟩:=aQ;have e0:=ae e;clear e;obtain⟨r,M3,e3,e⟩:=e0;have e0:=ae e;clear e;obtain⟨_,_,e4,e⟩:=e0;have cA:=aG e4;clear e4;obtain⟨hn,rfl⟩:=cA;have e0:=ah e;clear e;obtain⟨rfl,rfl⟩:=e0;have hx':upd H1 dx (.own x) x=none:=by rw[aA (Ne.symm ne)];exact hx
 have S2:aJ K ι1 M1 (upd H1 dx (.own x)):=S1.cW QI;have S3:aJ K (ι1++[x]) (M1++[.ins C []]) (upd (upd H1 dx (.own x)) x (.ins C dx [])):=S2.new hx' ⟨dx,[],rfl,.nil⟩;have X2:Ext K ι1 H1 ι1 (upd H1 dx (.own x)):=Ext.cW QI;have X3:Ext K ι1 (upd H1 dx (.own x)) (ι1++[x]) (upd (upd H1 dx (.own x)) x (.ins C dx [])):=Ext.new hx';have rx:Rep K (ι1++[x]) (upd (upd H1 dx (.own x)) x (.ins C dx [])) (.ob M1.length) (.ref x):=.ob (by rw[<- S1.len,zc (zp _),yK];rfl);show fC K j g (V.ref x::(vs++[])) _ _ E0;rw[zJ];have hl:=hm _ _ _ _ e3;refine⟨by rw[zg,<- r1.length];exact hl,_,_,_,.ob M1.length::xs,r,S3,.cons rx (r1.mono (X2.trans X3)),e3,fun v H' ι' r' S' X'=>⟨?_,k _ H' ι' (rx.mono X') S' (((X1.trans X2).trans X3).trans X')⟩⟩;cases r' <;> first|rfl|cases hn
theorem LS.setF{fv fo:DE}{C:Nat}{f:Str}(c:iz K C)(n:eK K C f)(D:Ends)(σ:St)(H:Hp)(h:LS K (fun ρ=>do let v<-fv ρ;let x<-fo ρ;setF C f v x;pure (.nx ρ)) D σ H):LY K (LE K fo) (LE K fv) f D σ H:=by
 obtain⟨ι,ρ,M,fl,M',S,R,e,k⟩:=h;have e0:=ae e;clear e;obtain⟨d,M1,e1,e⟩:=e0;refine⟨ι,ρ,M,d,M1,S,R,e1,fun y H1 ι1 r1 S1 X1=>?_⟩;have e0:=ae e;clear e;obtain⟨x,M2,e2,e⟩:=e0;refine⟨ι1,ρ,M1,x,M2,S1,R.mono X1,e2,fun v H2 ι2 r2 S2 X2=>?_⟩;have e0:=ae e;clear e;obtain⟨_,M3,e3,e⟩:=e0;have e0:=ah e;clear e;obtain⟨rfl,rfl⟩:=e0;cases x with
 |ob t =>
  have e0:=ae e3;clear e3;obtain⟨p,_,e4,e⟩:=e0;have cA:=ql e4;clear e4;obtain⟨g,rfl⟩:=cA;have e0:=ae e;clear e;obtain⟨_,_,e5,e⟩:=e0;have Of:=aG e5;clear e5;obtain⟨⟨hc,hl⟩,rfl⟩:=Of;have e0:=j0 e;clear e;obtain⟨_,rfl⟩:=e0;obtain⟨a,dx,ws,rfl,ha',ha,fr⟩:=iM S2 r2 g;rw[hc]at ha;have X3:Ext K ι2 H2 ι2 (upd H2 a (.ins C dx (dO f y ws))):=Ext.write ha (Ip _ _ _);refine⟨a,C,dx,ws,rfl,ha,c,n,?_,?_⟩
  ·rw[<- fr.length];omega
  ·refine k _ ι2 (S2.put ha' ⟨dx,_,rfl,?_⟩) ((X1.trans X2).trans X3) σ (((R.mono X1).mono X2).mono X3)
   exact FR.put ((r1.mono X2).mono X3) (Paired.qh fr fun _ _ z=>⟨z.1,z.2.mono X3⟩)
 |_=>exact(ai e3).elim
end
section
variable {Γ:Ctx}{S:Sc}{X:Cx}{r:Expr->Option IE}{rs:List Expr->Option cG}
theorem oH{a:Expr}{q:Str×Pos}(h:et a=some q):a=.Name q.1 q.2:=by
 cases a <;> first|cases h;rfl|cases h
theorem mx{b:Expr}{f:Str}{p q:Pos}{as:List Expr}(h:gU b=some (f,p,as,q)):b=.Call (.Name f p) as [] q:=by
 unfold gU at h;split at h
 ·cases h;rfl
 ·cases h
variable (hr:∀e i,r e=some i->PE X e (LE X.K (af Γ i)))
include hr
theorem E5(C:aL Γ S X){o:Expr}{f:Str}{p:Pos}{i:IE}(h:Hn r o f=some i):PE X (.Attribute o f p) (LE X.K (af Γ i)):=by
 unfold Hn at h;split at h
 ·rename_i q hq
  split at h
  ·rename_i hf
   obtain⟨x,h1,rfl⟩:=zv.mp h;have e:=oH hq;subst e;exact PE.imp (MD (hr _ _ h1) rfl) (LE.fld C.cls (C.kJ f (aC hf)))
  ·cases h
 ·cases h
theorem GO(C:aL Γ S X){f:Expr}{as:List Expr}{ks:List Keyword}{p:Pos}{i:IE}(h:Iq S r f as ks=some i):PE X (.Call f as ks p) (LE X.K (af Γ i)):=by
 unfold Iq at h;split at h
 ·rename_i g pg hq
  split at h
  ·rename_i a
   split at h
   ·rename_i b pb hd
    split at h
    ·rename_i hs
     simp only[zx,beq_iff_eq]at hs;obtain⟨rfl,h2,h3,h4,h5⟩:=hs;obtain⟨x,h6,h⟩:=ak h;obtain⟨y,h7,h⟩:=ak h;cases h;have e:=oH hq;subst e;have hk:ks=[⟨some "default",b,pb⟩]:=by
      unfold Q5 at hd;split at hd
      ·split at hd
       ·rename_i hx
        cases hd;rw[beq_iff_eq]at hx;subst hx;rfl
       ·cases hd
      ·cases hd
     subst hk;intro pins s σ H Q I q;obtain⟨ι,ρ,M,d,M',Sm,R,e,k⟩:=q;have e0:=ae e;clear e;obtain⟨x',M1,e1,e⟩:=e0;have e0:=ae e;clear e;obtain⟨y',M2,e2,e⟩:=e0;obtain⟨o1,o2,o3⟩:=aX h2;refine wpAny_Call_Name_kw (iu I (C.bA h3) (C.bu _ (aC h4)) boot_min ?_ o3 o1);refine callWith_kw ?_ (by rw[ay h5];rfl) (bH (by rw[zL,h5];rfl)) rfl rfl;refine aH (az (hr _ _ h6) bq (ay h5) p pins s σ H (fun vs H1=>∃v,vs=[v]/\∃ι1,Rep X.K ι1 H1 x' v/\aJ X.K ι1 M1 H1/\Ext X.K ι H ι1 H1) I ⟨ι,ρ,M,x',M1,Sm,R,e1,fun v H1 ι1 r1 S1 X1=>⟨v,rfl,ι1,r1,S1,X1⟩⟩) fun us s1 ⟨vs,H1,I1,rv,v,ev,ι1,r1,S1,X1⟩=>?_;subst ev;obtain⟨u,rfl,ru⟩:=vals1 rv;refine aH (Km (nm:=some "default") (kpos:=pb) (hr _ _ h7) Mw p pins s1 σ H1 (fun vs H2=>∃v2,vs=[v2]/\∃ι2,Rep X.K ι2 H2 y' v2/\aJ X.K ι2 M2 H2/\Ext X.K ι1 H1 ι2 H2) I1 ⟨ι1,ρ,M1,y',M2,S1,R.mono X1,e2,fun v H2 ι2 r2 S2 X2=>⟨v,rfl,ι2,r2,S2,X2⟩⟩) fun Yw s2 ⟨Lk,H2,I2,DK,v2,Wv,ι2,r2,S2,X2⟩=>?_;subst Wv;obtain⟨u2,rfl,L5⟩:=vals1 DK;have r1':=r1.mono X2;cases x' with
     |ob t =>
      have e0:=ae e;clear e;obtain⟨ds,_,e3,e⟩:=e0;have bf:=bB e3;clear e3;obtain⟨g,rfl⟩:=bf;have e0:=ae e;clear e;obtain⟨_,_,e4,e⟩:=e0;have cA:=aG e4;clear e4;obtain⟨hn,rfl⟩:=cA;have e0:=ah e;clear e;obtain⟨rfl,rfl⟩:=e0;obtain rfl:=yc.mp hn;obtain⟨a',ws,rfl,_,g3,g4⟩:=aK S2 r1' g;cases g4;cases ru;exact Fs C.calm I2 (aN.of g3) L5 (k _ H2 ι2 r2 S2 (X1.trans X2))
     |_=>exact(ai e).elim
    ·cases h
   ·cases h
  ·cases h
 ·cases h
theorem F6(C:aL Γ S X){f:Str}{as:List Expr}{p1 p4:Pos}{i:IE}{k:Option IE}(h:LJ S r f as k=some i)(hk:k=some i->PE X (.Call (.Name f p1) as [] p4) (LE X.K (af Γ i))):PE X (.Call (.Name f p1) as [] p4) (LE X.K (af Γ i)):=by
 unfold LJ at h;split at h
 ·rename_i a
  split at h
  ·rename_i g pg bs qg hg
   split at h
   ·rename_i b
    split at h
    ·rename_i Ny
     split at h
     ·rename_i hs
      rw[beq_iff_eq]at Ny;subst Ny;unfold HZ at hs;simp only[zx,beq_iff_eq]at hs;obtain⟨hp,⟨⟨⟨rfl,h2⟩,h3⟩,h4⟩,h5,h6⟩:=hs;obtain⟨x,h1,rfl⟩:=zv.mp h;rw[mx hg];obtain⟨o1,o2,o3⟩:=aX h2;refine PE.imp (dP (mh C.calm) (C.bA h3) (C.bu _ (aC h4)) j_ (az (il (Fq C.calm) (C.bA h5) (C.bu _ (aC h6)) boot_set (az (hr _ _ h1) bq (ay hp)) (by decide) (by decide) (ay hp) rfl) bq rfl) o3 o1 rfl rfl) fun σ H Q q=>?_;obtain⟨ι,ρ,M,d,M',Sm,R,e,k⟩:=q;have e0:=ae e;clear e;obtain⟨x',M1,e1,e⟩:=e0;refine⟨ι,ρ,M,x',M1,Sm,R,e1,fun v1 H1 ι1 r1 S1 X1=>?_⟩;cases x' with
      |ob t =>
       have e0:=ae e;clear e;obtain⟨ds,_,e3,e⟩:=e0;have bf:=bB e3;clear e3;obtain⟨g,rfl⟩:=bf;have e0:=ae e;clear e;obtain⟨_,_,e4,e⟩:=e0;have cA:=aG e4;clear e4;obtain⟨hn,rfl⟩:=cA;have e0:=gW e;clear e;obtain⟨rfl,rfl⟩:=e0;obtain rfl:=yc.mp hn;obtain⟨a',ws,rfl,_,g3,g4⟩:=aK S1 r1 g;cases g4;refine⟨a',rfl,aN.of g3,fun q hq=>?_⟩;refine⟨q,rfl,.inl aT,fun p hp=>?_⟩;have X2:=Ext.cW (K:=X.K) (ι:=ι1) (ho:=.ext fun h=>∃so ep t,iF h q so ep t) hq;have S2:=S1.cW (ho:=.ext fun h=>∃so ep t,iF h q so ep t) hq;exact k _ _ (ι1++[p]) (.ob (by rw[<- S1.len,zc (zp _),yK];rfl)) (S2.new hp ⟨[],rfl,.nil⟩) ((X1.trans X2).trans (Ext.new hp))
      |_=>exact(ai e).elim
     ·cases h
    ·exact hk h
   ·exact hk h
  ·split at h
   ·rename_i hn
    split at h
    ·rename_i hs
     unfold HZ at hs;simp only[zx,beq_iff_eq]at hs;obtain⟨hp,⟨⟨rfl,h2⟩,h3⟩,h4⟩:=hs;obtain⟨x,h1,rfl⟩:=zv.mp h;obtain⟨o1,o2,o3⟩:=aX h2;refine PE.imp (dP (mh C.calm) (C.bA h3) (C.bu _ (aC h4)) j_ (az (hr _ _ h1) bq (ay hp)) o3 o1 (ay hp) rfl) fun σ H Q q=>?_;obtain⟨ι,ρ,M,d,M',Sm,R,e,k⟩:=q;have e0:=ae e;clear e;obtain⟨x',M1,e1,e⟩:=e0;refine⟨ι,ρ,M,x',M1,Sm,R,e1,fun v1 H1 ι1 r1 S1 X1=>?_⟩;cases x' with
     |ob t =>
      have e0:=ae e;clear e;obtain⟨ds,_,e3,e⟩:=e0;have bf:=qm e3;clear e3;obtain⟨g,rfl⟩:=bf;have e0:=ae e;clear e;obtain⟨_,_,e4,e⟩:=e0;have cA:=aG e4;clear e4;obtain⟨hn,rfl⟩:=cA;have e0:=gW e;clear e;obtain⟨rfl,rfl⟩:=e0;obtain rfl:=yc.mp hn;obtain⟨a',ws,rfl,_,g3,g4⟩:=dw S1 r1 g;cases g4;refine⟨a',rfl,.inr g3,fun p hp=>?_⟩;exact k _ _ (ι1++[p]) (.ob (by rw[<- S1.len,zc (zp _),yK];rfl)) (S1.new hp ⟨[],rfl,.nil⟩) (X1.trans (Ext.new hp))
     |_=>exact(ai e).elim
    ·cases h
   ·exact hk h
 ·exact hk h
variable (hrs:∀es i,rs es=some i->PA X es (LA X.K (aR Γ i))/\es.all aV=true)
include hrs
omit hr hrs in
theorem mH{o:Expr}{name:Str}{apos pos:Pos}{env:Env}{as:List Expr}(hb:attributeBase o name env (eval o env)=eval o env)(hp:as.all aV=true)(hn:as.length<29)(hl:(apos.endLine==pos.line)=true) :
  eval (.Call (.Attribute o name apos) as [] pos) env=(do
   let ov<-eval o env
   standAt apos.atName
   let (f,first)<-holding [ov] (getMethod ov name (do return (<- importBound o env).getD true))
   callWith pos f first (backTo pos (starEach as env)) (backToKw pos (keywordEach [] env))):=by
 rw[arm_eval_Call,hb];have Pz:methodCallForm (as.length+([]:List Keyword).length) (backTo pos (starEach as env)) (backToKw pos (keywordEach [] env))=true:=by
  show ((backTo pos (starEach as env)).all (fun x=>!x.1)&&true&&decide (as.length+0+0<30))=true;rw[decide_eq_true (by omega),xH,xH];have hq:(backTo pos (starEach as env)).any (·.1)=false:=bH hp;rw[zD];intro x hx
  have:=xy.mp hq x hx
  simpa using this
 have NC:methodCallPos true o env apos pos=pure pos:=by unfold methodCallPos;simp[hl]
 simp only[methodCall,Pz,calleeOf,if_true,NC,pure_bind]
theorem Ef(C:aL Γ S X){o:Expr}{m:Str}{p2 p3:Pos}{as:List Expr}{i:IE}(hm:kU.contains m=true)(h:ud r rs o m p2 p3 as=some i):PE X (.Call (.Attribute o m p2) as [] p3) (LE X.K (af Γ i)):=by
 unfold ud at h;split at h
 ·rename_i q hq
  split at h
  ·rename_i hs
   rw[zx,decide_eq_true_eq]at hs;obtain⟨x,h1,h⟩:=ak h;obtain⟨xs,h2,h⟩:=ak h;cases h;have e:=oH hq;subst e;obtain⟨k,fa,fd,ps,g1,g2,g3,g4,g5⟩:=C.lV m (aC hm);cases as with
   |nil =>
    cases h2;refine PE.imp (Gw (hr _ _ h1) C.cls g1 g3 g4 g2 .nil oF (mH rfl rfl hs.2 hs.1)) fun σ H Q q=>?_;obtain⟨ι,ρ,M,d,M',S',R,e,k⟩:=LE.mcl σ H Q g5 q;refine⟨ι,ρ,M,d,M',S',R,e,fun v H1 ι1 r1 S1 X1=>?_⟩;obtain⟨a,dx,fs,z1,z2,z3,z4⟩:=k v H1 ι1 r1 S1 X1;exact⟨a,dx,fs,z1,z2,z3,LA.nil σ H1 _ z4⟩
   |cons a as =>
    obtain⟨pa,pl⟩:=hrs _ _ h2;have pl':=pl;rw[zL,zx]at pl;exact PE.imp (Ae (hr _ _ h1) C.cls g1 g3 g4 g2 .nil oF pa (ay pl.1) (bH pl.2) (mH rfl pl' hs.2 hs.1)) fun σ H Q q=>LE.mcl σ H Q g5 q
  ·cases h
 ·cases h
omit hr in
theorem D8(C:aL Γ S X){f:Str}{a:Expr}{as:List Expr}{p1 p4:Pos}{i:IE}{k:Option IE}(h:Ce S f (rs (a::as)) k=some i)(hk:k=some i->PE X (.Call (.Name f p1) (a::as) [] p4) (LE X.K (af Γ i))):PE X (.Call (.Name f p1) (a::as) [] p4) (LE X.K (af Γ i)):=by
 unfold Ce at h;split at h
 ·rename_i hs
  unfold newOk at hs;simp only[zx,beq_iff_eq]at hs;obtain⟨⟨rfl,h2⟩,h3⟩:=hs;obtain⟨o1,o2,o3⟩:=aX h2;obtain⟨xs,h4,rfl⟩:=zv.mp h;obtain⟨k',fa,fd,ps,g1,g2,g3,g4,g5,g6⟩:=C.Ir;obtain⟨pa,pl⟩:=hrs _ _ h4;rw[zL,zx]at pl;exact PE.imp (Kn g1 g4 g5 (C.bA h3) g2 g3 .nil oF pa o1 (ay pl.1) (bH pl.2)) fun σ H Q q=>LE.new σ H Q g6 q
 ·exact hk h
end
end L3
namespace L3
open PySem PySem.Spec PyProof.Rows L2
section
variable {Γ:Ctx}{n:Nat}
noncomputable def SK(_:Ctx):Prop:=True
noncomputable def SJ(Γ:Ctx):Prop:=∀(S:Sc) (X:Cx) (f:Str) (a:Expr) (p1 p4:Pos) (fa:DE),aL Γ S X->(f==("sorted":Str)&&bR f&&S.bA f&&S.bu.contains f)=true->aV a=true->PE X a (LE X.K fa) ->
 PE X (.Call (.Name f p1) [a] [] p4) (LE X.K (fun ρ=>do let x<-fa ρ;let ds<-kL x;let ys<-lift (Γ.srt ds);bz (.lst ys)))
noncomputable def SI(_:Ctx):Prop:=True
noncomputable def SM(_:Ctx):Prop:=True
noncomputable def SH(_:Ctx):Prop:=True
noncomputable def ic(Γ:Ctx):Prop:=SK Γ/\SJ Γ/\SI Γ/\SM Γ/\SH Γ
theorem ko{o:Expr}{a:Str}{env:Env}{w':Sem Value}(h:Om o=true):attributeBase o a env w'=w':=by
 cases o <;> first
  |rfl
  |exact absurd h zu
  | (rename_i f as ks p
     cases as with
     |nil=>exact absurd h zu
     |cons e es=>cases f <;> first|rfl|(cases ks <;> rfl))
theorem LE.neg{K:Q_}{fa:DE}(σ:St)(H:Hp)(Q:VK)(h:LE K (fun ρ=>do
  let x<-fa ρ
  (match x with
  |.int i=>pure (.int (-i))
  |_=>Mo.stop)) σ H Q):Qb (rU fun i=>.int (-i)) (LE K fa) σ H Q:=by
 obtain⟨ι,ρ,M,d,M',S,R,e,k⟩:=h;have e0:=ae e;clear e;obtain⟨x,M1,e1,e⟩:=e0;refine⟨ι,ρ,M,x,M1,S,R,e1,fun v H1 ι1 r1 S1 X1=>?_⟩;cases r1 with
 |int i=>have e0:=ah e;clear e;obtain⟨rfl,rfl⟩:=e0;exact⟨i,rfl,k _ H1 ι1 (.int _) S1 X1⟩
 |_=>exact(ai e).elim
theorem Ku{α:Type}{l:List (Bool×α)}(h:l.any (·.1)=false):l.all (fun x=>!x.1)=true:=by
 rw[zD];intro x hx
 have:=xy.mp h x hx
 simpa using this
theorem Ey{S:Sc}{X:Cx}{f t:Str}{k:Ty}{a:Expr}{p1 p2 p3:Pos}{fa:DE}(C:aL Γ S X)(hs:jq S f t=true)(hk:lL t=some k)(ha:PE X a (LE X.K fa))(hp:aV a=true) :
  PE X (.Call (.Name f p1) [a,.Name t p2] [] p3) (LE X.K (fun ρ=>do let x<-fa ρ;let b<-dz k x;pure (.bl b))):=by
 unfold jq at hs;simp only[zx,beq_iff_eq]at hs;obtain⟨⟨⟨⟨⟨⟨h1,h2⟩,h3⟩,h4⟩,h5⟩,h6⟩,h7⟩:=hs;subst h1;obtain⟨o1,o2,o3⟩:=aX h2;obtain⟨q1,q2,q3⟩:=aX h5;have pt:PE X (.Name t p2) (tC (.ty (tyName k))):=mE (C.bA h6) (C.bu _ (aC h7)) (pU hk) rfl q3 q1;exact PE.imp (dP (Hx k) (C.bA h3) (C.bu _ (aC h4)) G_ (az ha (az pt bq) (ay hp)) o3 o1 (ay hp) rfl) LE.isI
theorem CW{S:Sc}{X:Cx}{rs:List Expr->Option cG}(hrs:∀es i,rs es=some i->PA X es (LA X.K (aR Γ i))/\es.all aV=true){f:Str}{p1 pos:Pos}{a:Expr}{as:List Expr}{i:IE}(C:aL Γ S X)(h:pK S f (a::as).length (rs (a::as))=some i):PE X (.Call (.Name f p1) (a::as) [] pos) (LE X.K (af Γ i)):=by
 unfold pK at h;split at h
 ·rename_i hs
  simp only[zx]at hs;obtain⟨o1,o2,o3⟩:=aX hs.1;split at h
  ·rename_i hf
   obtain⟨xs,h1,rfl⟩:=zv.mp h;obtain⟨k,fa,fd,ps,g1,g2,g3,g4,g5,g6⟩:=C.fns f (aC hf);obtain⟨pa,pl⟩:=hrs _ _ h1;rw[zL,zx]at pl;exact PE.imp (qa g4 g5 (C.bA hs.2) g1 g2 g3 .nil oF pa o1 (ay pl.1) (bH pl.2)) fun σ H Q q=>LE.call σ H Q g6 q
  ·split at h
   ·rename_i hb
    split at h
    ·rename_i b Wa
     obtain⟨xs,h1,rfl⟩:=zv.mp h;obtain⟨pa,pl⟩:=hrs _ _ h1;rw[zL,zx]at pl;have Jj:=(Lc Wa).1;have qV:=C.bu f (aC hb);have hc:=Lb (X:=X) C.calm C.hu b;unfold C0 at Jj hc;split at Jj
     ·rename_i ht
      rw[if_pos ht]at hc;exact PE.imp (il hc (C.bA hs.2) qV Jj pa o3 o1 (ay pl.1) (bH pl.2)) LE.blt
     ·rename_i ht
      rw[if_neg ht]at hc;exact PE.imp (dP hc (C.bA hs.2) qV Jj pa o3 o1 (ay pl.1) (bH pl.2)) LE.blt
    ·cases h
   ·cases h
 ·cases h
section
variable {S:Sc}{X:Cx}{r:Expr->Option IE}{rs:List Expr->Option cG}{ro:Option Expr->Option ml}
theorem Cg(C:aL Γ S X){x:Str}{pos:Pos}{i:IE}(h:Ci S x=some i):PE X (.Name x pos) (LE X.K (af Γ i)):=by
 unfold Ci at h;split at h
 ·rename_i ax
  obtain⟨o1,o2,o3⟩:=aX ax;split at h
  ·rename_i hv
   obtain⟨j,hs,rfl⟩:=zv.mp h;exact PE.imp (eD (by rw[C.n];exact slot_get hs) (C.qD hv) o1 o2) (LE.var)
  ·split at h
   ·rename_i hg
    cases h;simp only[zx]at hg;obtain⟨d,u,v,g1,g2,g3,g4⟩:=C.gls x (aC hg.2);refine PE.imp (Af (C.bA hg.1) g2 g3 o1) fun σ H Q h=>?_;refine LE.const g4 σ H Q ?_;have e:af Γ (.glb x)=fun _=>(pure d:Mo D):=by funext ρ;show lift (Γ.gl x)=_;rw[g1];rfl
    rw[e]at h;exact h
   ·cases h
 ·cases h
theorem vN{c:Const}{k:Nat}{pos:Pos}{i:IE}(h:Fj c=some i):PE X (.Constant c k pos) (LE X.K (af Γ i)):=by
 cases c with
 |int j=>cases h;exact PE.imp DZ (LE.const fun _ _=>.int _)
 |bool j=>cases h;exact PE.imp Pd (LE.const fun _ _=>.bl _)
 |none=>cases h;exact PE.imp MC (LE.const fun _ _=>.non)
 |str j=>cases h;exact PE.imp fV (LE.const fun _ _=>.str _)
 |_=>cases h
variable (hr:∀e i,r e=some i->PE X e (LE X.K (af Γ i)))
include hr
theorem rq(C:aL Γ S X){a:Expr}{ops:List CmpOp}{bs:List Expr}{pos:Pos}{i:IE}(h:CV r a ops bs=some i):PE X (.Compare a ops bs pos) (LE X.K (af Γ i))/\PT X (.Compare a ops bs pos) (LT X.K (bh Γ (.cmp i))):=by
 unfold CV at h;split at h
 ·split at h
  ·cases h
  ·rename_i hm
   obtain⟨x,h1,h⟩:=ak h;obtain⟨y,h2,h⟩:=ak h;cases h;exact⟨PE.imp (Ag (kc C.hu _) (hr _ _ h1) (hr _ _ h2) (by simpa using hm)) (LE.bin mF),PT.imp (Kf (kc C.hu _) (hr _ _ h1) (hr _ _ h2) (by simpa using hm)) fun σ H Q q=>LE.bin mF σ H _ (LT.test σ H Q q)⟩
 ·split at h
  ·cases h
  ·rename_i op op' b c hm
   obtain⟨x,h1,h⟩:=ak h;obtain⟨y,h2,h⟩:=ak h;obtain⟨z,h3,h⟩:=ak h;cases h;exact⟨PE.imp (GD (kc C.hu op) (kc C.hu op') (hr _ _ h1) (hr _ _ h2) (hr _ _ h3) (by show behindInMarks op' c=false;simpa using hm)) (LE.chain),PT.imp (Gm (kc C.hu op) (kc C.hu op') (hr _ _ h1) (hr _ _ h2) (hr _ _ h3) (by show behindInMarks op' c=false;simpa using hm)) fun σ H Q q=>LE.chain σ H _ (LT.test σ H Q q)⟩
 ·cases h
theorem CY{op:BoolOp}{es:List Expr}{pos:Pos}{i:IE}(h:CZ r op es pos=some i):PE X (.BoolOp op es pos) (LE X.K (af Γ i)):=by
 unfold CZ at h;split at h
 ·obtain⟨x,h1,h⟩:=ak h
  obtain⟨y,h2,h⟩:=ak h;cases h;cases op with
  |And=>exact PE.imp (tU (hr _ _ h1) (tT (hr _ _ h2))) (LE.and)
  |Or=>exact PE.imp (Ih (hr _ _ h1) (tT (hr _ _ h2))) (LE.or)
 ·obtain⟨x,h1,h⟩:=ak h
  obtain⟨y,h2,h⟩:=ak h;cases h;cases op with
  |And=>exact PE.imp (tU (hr _ _ h1) (hr _ _ h2)) (LE.and)
  |Or=>exact PE.imp (Ih (hr _ _ h1) (hr _ _ h2)) (LE.or)
 ·cases h
theorem FT{op:UnaryOp}{a:Expr}{pos:Pos}{i:IE}(h:P0 r op a=some i):PE X (.UnaryOp op a pos) (LE X.K (af Γ i)):=by
 cases op with
 |Not =>
  obtain⟨x,h1,h⟩:=ak h;cases h;exact PE.imp (DY (hr _ _ h1)) (LE.not)
 |USub =>
  obtain⟨x,h1,h⟩:=ak h;cases h;exact PE.imp (Pb Lm (hr _ _ h1)) (LE.neg)
 |_=>cases h
theorem DC(C:aL Γ S X)(ho:∀e i,ro e=some i->PO X e (LO X.K (gT Γ i))){a b:Expr}{pos:Pos}{i:IE}(h:F3 r ro a b=some i):PE X (.Subscript a b pos) (LE X.K (af Γ i)):=by
 unfold F3 at h;split at h
 ·obtain⟨x,h1,h⟩:=ak h
  obtain⟨l,h2,h⟩:=ak h;obtain⟨q,h3,h⟩:=ak h;cases h;exact PE.imp (Gv LQ (hr _ _ h1) (ho _ _ h2) (ho _ _ h3)) (LE.slc)
 ·split at h
  ·rename_i qX
   obtain⟨x,h1,h⟩:=ak h;obtain⟨y,h2,h⟩:=ak h;cases h;exact PE.imp (B0 (Nm C.hu) (hr _ _ h1) (hr _ _ h2) (kH qX)) (LE.bin mF)
  ·cases h
omit hr in
theorem Cd{a:Expr}{m:Str}{p:Pos}(h:et a=some (m,p)):a=.Name m p:=by
 unfold et at h;split at h
 ·cases h;rfl
 ·cases h
theorem Be(cN:ic Γ)(C:aL Γ S X){f:Str}{as:List Expr}{p1 p4:Pos}{i:IE}(h:Bf S r f as=some i):PE X (.Call (.Name f p1) as [] p4) (LE X.K (af Γ i)):=by
 unfold Bf at h;split at h
 ·rename_i a
  split at h
  ·cases h
  ·have fin:∀{i:IE},(
    if aV a&&(f==("sorted":Str)&&bR f&&S.bA f&&S.bu.contains f) then do let x<-r a;some (.sortL x) else none)=some i->PE X (.Call (.Name f p1) [a] [] p4) (LE X.K (af Γ i)):=fun {i} h=>by
    split at h
    ·rename_i hs
     rw[zx]at hs;obtain⟨x,h1,h⟩:=ak h;cases h;exact cN.2.1 S X f _ p1 p4 (af Γ x) C hs.2 hs.1 (hr _ _ h1)
    ·cases h
   exact fin h
 ·cases h
theorem pG(C:aL Γ S X){a:Expr}{ops:List CmpOp}{bs:List Expr}{pos:Pos}{i:IE}(h:uS S r a ops bs=some i):PE X (.Compare a ops bs pos) (LE X.K (af Γ i))/\PT X (.Compare a ops bs pos) (LT X.K (bh Γ (.cmp i))):=by
 unfold uS at h;split at h
 ·split at h
  ·cases h
  ·exact rq hr C h
 ·exact rq hr C h
omit hr in
theorem JX{e a b:Expr}{k:Nat}{p:Pos}(h:HL e=some (a,b,k,p)):e=.Tuple [a,b] k p:=by
 cases e with
 |Tuple es k' p' =>
  rcases es with _|⟨a,_|⟨b,_|⟨c,l⟩⟩⟩ <;> cases h
  rfl
 |_=>cases h
theorem Cv(C:aL Γ S X){f:Str}{as:List Expr}{p1 p4:Pos}{i:IE}(h:GV S r f as=some i):PE X (.Call (.Name f p1) as [] p4) (LE X.K (af Γ i)):=by
 unfold GV at h;split at h
 ·split at h
  ·rename_i t' p hn
   rw[Cd hn];split at h
   ·rename_i hs
    rw[zx]at hs;split at h
    ·rename_i kk hk
     obtain⟨x,h1,h⟩:=ak h;cases h;exact Ey C hs.1 hk (hr _ _ h1) hs.2
    ·cases h
   ·cases h
  ·unfold IA at h
   split at h
   ·rename_i ht
    rw[JX ht];split at h
    ·rename_i n1 n2
     rw[Cd n1,Cd n2];split at h
     ·rename_i hs
      rw[zx,zx]at hs;obtain⟨k1,g1,h⟩:=ak h;obtain⟨k2,g2,h⟩:=ak h;obtain⟨x,h1,h⟩:=ak h;cases h;exact Cw C hs.1.1 hs.1.2 g1 g2 (hr _ _ h1) hs.2
     ·cases h
    ·cases h
   ·cases h
 ·cases h
variable (hrs:∀es i,rs es=some i->PA X es (LA X.K (aR Γ i))/\es.all aV=true)
include hrs
theorem C3(C:aL Γ S X){o:Expr}{m:Str}{p2 p3:Pos}{as:List Expr}{i:IE}(h:C4 r rs o m p2 p3 as=some i):PE X (.Call (.Attribute o m p2) as [] p3) (LE X.K (af Γ i)):=by
 unfold C4 at h;split at h
 ·split at h
  ·rename_i hs
   simp only[zx,decide_eq_true_eq]at hs;obtain⟨qY,hs⟩:=hs;split at h
   ·rename_i kk hk
    obtain⟨x,h1,h⟩:=ak h;obtain⟨xs,h2,h⟩:=ak h;cases h;obtain⟨pa,pl⟩:=hrs _ _ h2;have NG:=Kw hk;subst NG;have pl':=pl;rw[zL,zx]at pl;refine PE.imp (ME (MZ C.hu kk) (hr _ _ h1) pa (ko qY) ?_ hs.1 (ay pl.1) (bH pl.2)) LE.mth;rw[zx,zx];refine⟨⟨Ku (bH pl'),rfl⟩,?_⟩
    have:=hs.2
    simp only[zg,yU,List.isEmpty_nil,if_true]at this ⊢;exact decide_eq_true (by first|lia|omega)
   ·cases h
  ·cases h
 ·split at h
  ·rename_i hs
   rw[zx]at hs;split at h
   ·rename_i k0 VX
    obtain⟨x,h1,h⟩:=ak h;cases h;exact Fm VX hs.2 (hr _ _ h1) (fun a w'=>ko hs.1)
   ·cases h
  ·cases h
theorem Bs(C:aL Γ S X){f:Str}{as:List Expr}{p1 p4:Pos}{i:IE}{k:Option IE}(h:Gf S r f as k=some i)(hk:k=some i->PE X (.Call (.Name f p1) as [] p4) (LE X.K (af Γ i))):PE X (.Call (.Name f p1) as [] p4) (LE X.K (af Γ i)):=by
 unfold Gf at h;split at h
 ·split at h
  ·rename_i e g p a q hv
   split at h
   ·rename_i ho
    split at h
    ·rename_i hp
     obtain⟨x,h1,h⟩:=ak h;cases h;rw[rev_eq hv];exact DO C ho hp (hr _ _ h1)
    ·cases h
   ·exact hk h
  ·exact hk h
 ·exact hk h
theorem CA(C:aL Γ S X){f:Str}{as:List Expr}{p1 p4:Pos}{i:IE}{k:Option IE}(h:GZ S r f as k=some i)(hk:k=some i->PE X (.Call (.Name f p1) as [] p4) (LE X.K (af Γ i))):PE X (.Call (.Name f p1) as [] p4) (LE X.K (af Γ i)):=by
 unfold GZ at h;split at h
 ·split at h
  ·rename_i ho
   split at h
   ·rename_i hp
    obtain⟨x,h1,h⟩:=ak h;cases h;exact EA C ho hp (hr _ _ h1)
   ·cases h
  ·exact hk h
 ·exact hk h
omit hr in
theorem Bp(C:aL Γ S X){f:Str}{a:Expr}{as:List Expr}{p1 p4:Pos}{i:IE}{k:Option IE}(h:tu S f (rs (a::as)) k=some i)(hk:k=some i->PE X (.Call (.Name f p1) (a::as) [] p4) (LE X.K (af Γ i))):PE X (.Call (.Name f p1) (a::as) [] p4) (LE X.K (af Γ i)):=by
 unfold tu at h;split at h
 ·rename_i hs
  unfold Bo at hs;simp only[zx,beq_iff_eq]at hs;obtain⟨⟨h1,h2⟩,h3⟩:=hs;subst h1;obtain⟨o1,o2,o3⟩:=aX h2;obtain⟨xs,h4,rfl⟩:=zv.mp h;obtain⟨k',fa,fd,ps,g1,g2,g3,g4,g5,g6⟩:=C.rfs;obtain⟨pa,pl⟩:=hrs _ _ h4;rw[zL,zx]at pl;exact PE.imp (qa g4 g5 (C.bA h3) g1 g2 g3 .nil oF pa o1 (ay pl.1) (bH pl.2)) fun σ H Q q=>LE.call σ H Q g6 q
 ·exact hk h
theorem Hm(cN:ic Γ)(C:aL Γ S X){f:Str}{as:List Expr}{p1 p4:Pos}{i:IE}(h:E3 S r rs f as=some i):PE X (.Call (.Name f p1) as [] p4) (LE X.K (af Γ i)):=by
 unfold E3 at h;split at h
 ·split at h
  ·exact F6 hr C h fun h=>Be hr cN C h
  ·split at h
   ·exact Cv hr C h
   ·
    refine D8 hrs C h fun h=>?_;refine Bs hr hrs C h fun h=>?_;refine CA hr hrs C h fun h=>?_;refine Bp hrs C h fun h=>?_;exact CW hrs C h
 ·cases h
theorem vO(cN:ic Γ)(C:aL Γ S X){f:Expr}{as:List Expr}{p:Pos}{i:IE}(h:si S r rs f as p=some i):PE X (.Call f as [] p) (LE X.K (af Γ i)):=by
 unfold si at h;split at h
 ·exact Hm hr hrs cN C h
 ·split at h
  ·rename_i hm
   exact Ef hr hrs C hm h
  ·exact C3 hr hrs C h
 ·cases h
end
theorem AD{gs:List Comprehension}{x:Str}{p:Pos}{iter:Expr}{ifs:List Expr}(h:mL gs=some (x,p,iter,ifs)):gs=[⟨.Name x p,iter,ifs,0⟩]:=by
 unfold mL at h;split at h
 ·cases h;rfl
 ·cases h
theorem Hk{gs:List Comprehension}{t iter:Expr}(h:uF gs=some (t,iter)):gs=[⟨t,iter,[],0⟩]:=by
 unfold uF at h;split at h
 ·cases h;rfl
 ·cases h
theorem D7{e:Expr}{x:Str}{p:Pos}(h:et e=some (x,p)):e=.Name x p:=by
 cases e <;> first|cases h;rfl|cases h
theorem GF{e:Expr}{x y:Str}{px py p:Pos}{k:Nat}(h:Ik e=some (x,px,y,py,k,p)):e=.Tuple [.Name x px,.Name y py] k p:=by
 cases e with
 |Tuple es k' p' =>
  rcases es with _|⟨a,_|⟨b,_|⟨c,l⟩⟩⟩
  ·cases h
  ·cases h
  ·replace h:(match et a,et b with
    |some (x,px),some (y,py)=>some (x,px,y,py,k',p')
    |_,_=>none)=some (x,px,y,py,k,p):=h
   split at h
   ·rename_i h1 h2
    cases h;rw[D7 h1,D7 h2]
   ·cases h
  ·cases h
 |_=>cases h
theorem JJ{e a b:Expr}{p q:Pos}(h:sm e=some (p,a,b,q)):e=.Call (.Name "zip" p) [a,b] [] q:=by
 unfold sm at h;split at h
 ·rename_i f p' as q' hr
  split at h
  ·rename_i hf
   have hf:f = "zip":=by simpa using hf
   subst hf;split at h
   ·split at h
    ·cases h
     unfold gU at hr;split at hr
     ·cases hr;rfl
     ·cases hr
    ·cases h
   ·cases h
  ·cases h
 ·cases h
theorem AU{e a b:Expr}{p q:Pos}(h:sm e=some (p,a,b,q)):aV a=true/\aV b=true:=by
 unfold sm at h;split at h
 ·split at h
  ·split at h
   ·split at h
    ·rename_i hp
     cases h;simpa using hp
    ·cases h
   ·cases h
  ·cases h
 ·cases h
theorem J4(cN:ic Γ)(ih:Sound Γ n)(S:Sc)(X:Cx)(e:Expr)(i:IE)(C:aL Γ S X)(h:cE S (n+1) e=some i):PE X e (LE X.K (af Γ i)):=by
 have hr:∀e i,cE S n e=some i->PE X e (LE X.K (af Γ i)):=fun e i h=>ih.E _ _ _ _ C h;have hrs:∀es i,kn S n es=some i->PA X es (LA X.K (aR Γ i))/\es.all aV=true:=fun e i h=>ih.Es _ _ _ _ C h;cases e with
 |Name x p=>exact Cg C h
 |Constant c k p=>exact vN h
 |BinOp a op b p =>
  have h:(if Ax op=true then (do let x<-cE S n a;let y<-cE S n b;some (IE.bin op x y)) else none)=some i:=h;split at h
  ·obtain⟨x,h1,h⟩:=ak h
   obtain⟨y,h2,h⟩:=ak h;cases h;exact PE.imp (Pc (MP op) (hr _ _ h1) (hr _ _ h2)) (LE.bin mF)
  ·cases h
 |Compare a ops bs p=>exact(pG hr C h).1
 |BoolOp op es p=>exact CY hr h
 |UnaryOp op a p=>exact FT hr h
 |IfExp c a b p =>
  obtain⟨k,h0,h⟩:=ak h;obtain⟨x,h1,h⟩:=ak h;obtain⟨y,h2,h⟩:=ak h;cases h;exact PE.imp (Gy (ih.C _ _ _ _ C h0) (hr _ _ h1) (hr _ _ h2)) (LE.ite)
 |Tuple es k p =>
  obtain⟨x,h1,h⟩:=ak h;cases h;exact PE.imp (tS (hrs _ _ h1).1) (LE.tup)
 |List es p =>
  obtain⟨x,h1,h⟩:=ak h;cases h;exact PE.imp (kb (hrs _ _ h1).1) (LE.lst)
 |Dict ks vs p =>
  cases ks with
  |nil =>
   cases vs with
   |nil=>cases h;exact PE.imp Gz (LE.aW)
   |cons a l=>cases h
  |cons a l =>
   have h:(if decide ((a::l).length<=15)=true then (do let p<-oM (cE S n) (a::l) vs;some (IE.dicS p.1 p.2)) else none)=some i:=h;split at h
   ·rename_i hl
    obtain⟨q,h1,h⟩:=ak h;cases h;obtain⟨g1,g2,ig,g3,g4⟩:=oK hr (pos:=p) (xs:=q.1) (es:=q.2) h1;exact PE.imp (Ko g3 g1 g2 (fun z=>by cases z) (by simpa using hl)) (LE.Sx g4)
   ·cases h
 |Subscript a b p=>exact DC hr C (fun e i h=>ih.O _ _ _ _ C h) h
 |Call f as ks p =>
  have h:(if ks.isEmpty=true then si S (cE S n) (kn S n) f as p else Iq S (cE S n) f as ks)=some i:=h;split at h
  ·rename_i hk
   have hk:ks=[]:=yc.mp hk;subst hk;exact vO hr hrs cN C h
  ·exact GO hr C h
 |Attribute o f p=>exact E5 hr C h
 |ListComp elt gs sc p =>
  have h:(match mL gs with
   |some (x,_,iter,ifs)=>if dk S sc [x]=true then (do
     let it<-cT S n iter
     let c<-Fw (S.comp sc [x]) n ifs
     let e<-cE (S.comp sc [x]) n elt
     some (IE.comp ((slot S.N x).getD S.N.length) it c e)) else none
   |none=>uR S (cE S n) (fun S'=>cE S' n elt) gs sc)=some i:=h
  split at h
  ·rename_i x px iter ifs hg
   rw[AD hg];split at h
   ·rename_i hc
    obtain⟨it,h1,h⟩:=ak h;obtain⟨c,h2,h⟩:=ak h;obtain⟨y,h3,h⟩:=ak h;cases h;obtain⟨t1,t2⟩:=ih.T _ X (.Name x px) _ _ C h1;exact GB C hc t1 t2 (fun X' C' _=>ih.Co _ _ _ _ C' h2) (fun X' C' _=>ih.E _ _ _ _ C' h3)
   ·cases h
  ·unfold uR at h
   split at h
   ·rename_i t iter NK
    rw[Hk NK];split at h
    ·rename_i ht hi
     rw[GF ht,JJ hi];have fX:=AU hi;split at h
     ·rename_i hz
      rw[zx]at hz;obtain⟨u,h1,h⟩:=ak h;obtain⟨v,h2,h⟩:=ak h;obtain⟨y,h3,h⟩:=ak h;cases h;exact GA C hz.1 hz.2 (hr _ _ h1) (hr _ _ h2) fX.1 fX.2 (fun X' C' _=>ih.E _ _ _ _ C' h3)
     ·cases h
    ·cases h
   ·cases h
 |_=>cases h
theorem F8(ih:Sound Γ n)(S:Sc)(X:Cx)(es:List Expr)(i:cG)(C:aL Γ S X)(h:kn S (n+1) es=some i):PA X es (LA X.K (aR Γ i))/\es.all aV=true:=by
 cases es with
 |nil =>
  cases (show some cG.nil=some i from h);exact⟨PA.imp bq LA.nil,rfl⟩
 |cons e es =>
  replace h:(if aV e then (do let x<-cE S n e;let xs<-kn S n es;some (.cons x xs)) else none)=some i:=h;split at h
  ·rename_i hp
   obtain⟨x,h1,h⟩:=ak h;obtain⟨xs,h2,h⟩:=ak h;cases h;obtain⟨p1,p2⟩:=ih.Es _ _ _ _ C h2;exact⟨PA.imp (az (ih.E _ _ _ _ C h1) p1 (ay hp)) LA.cons,by rw[zL,hp,p2];rfl⟩
  ·cases h
theorem J3(ih:Sound Γ n)(S:Sc)(X:Cx)(e:Option Expr)(i:ml)(C:aL Γ S X)(h:cO S (n+1) e=some i):PO X e (LO X.K (gT Γ i)):=by
 cases e with
 |none =>
  cases (show some ml.none=some i from h);exact PO.imp Kl LO.none
 |some e =>
  replace h:(do let x<-cE S n e;some (ml.some x))=some i:=h;obtain⟨x,h1,h⟩:=ak h;cases h;exact PO.imp (Kk (ih.E _ _ _ _ C h1)) LO.some
theorem F9(ih:Sound Γ n)(S:Sc)(X:Cx)(e:List Expr)(i:nt)(C:aL Γ S X)(h:Fw S (n+1) e=some i):jO X e (LT X.K (iG Γ i)):=by
 rcases e with _|⟨c,_|⟨c2,l⟩⟩
 ·cases (show some nt.none=some i from h)
  exact jO.imp Ad fun σ H Q q=>by
   obtain⟨ι,ρ,M,b,M',S,R,e,k⟩:=q;obtain⟨rfl,rfl⟩:=ah e;exact k H ι S Ext.refl
 ·replace h:(do let k<-cC S n c;some (nt.some k))=some i:=h
  obtain⟨x,h1,h⟩:=ak h;cases h;exact Ac (ih.C _ _ _ _ C h1)
 ·cases (show (none:Option nt)=some i from h)
theorem DU{X:Cx}{e:Expr}{t t':TT}(h:PW X e t)(k:∀σ H Q,t' σ H Q->t σ H Q):PW X e t':=fun whole pins s σ H Q I q=>h whole pins s σ H Q I (k σ H Q q)
theorem y9{b:Expr}{f:Str}{p q:Pos}{as:List Expr}(h:gU b=some (f,p,as,q)):b=.Call (.Name f p) as [] q:=by
 unfold gU at h;split at h
 ·cases h;rfl
 ·cases h
theorem qo{e:Expr}{env:Env}(h:Ex e=true):∀x,foldedSetIterable e env x=pure x:=by
 intro x;cases e <;> first|rfl|exact absurd h zu
theorem Bm{S:Sc}{X:Cx}{r:Expr->Option IE}(hr:∀e i,r e=some i->PE X e (LE X.K (af Γ i)))(C:aL Γ S X){tg:Expr}{f:Str}{as:List Expr}{p q:Pos}{i:IT}(h:Bn S r f as=some i):PI X tg (.Call (.Name f p) as [] q) (LI X.K (fD Γ i)):=by
 unfold Bn at h;split at h
 ·rename_i hs
  unfold Ic at hs;simp only[zx,beq_iff_eq]at hs;obtain⟨⟨⟨⟨h1,h2⟩,h3⟩,h4⟩,h5⟩:=hs;subst h1;split at h
  ·simp only[zL,wZ,xH]at h5
   obtain⟨x,g1,h⟩:=ak h;cases h;exact PI.imp (DX (C.bA h3) (C.bu _ (aC h4)) (az (hr _ _ g1) bq (ay h5)) (ay h5)) LI.rng1
  ·simp only[zL,wZ,xH,zx]at h5
   obtain⟨x,g1,h⟩:=ak h;obtain⟨y,g2,h⟩:=ak h;cases h;exact PI.imp (DW (C.bA h3) (C.bu _ (aC h4)) (az (hr _ _ g1) (az (hr _ _ g2) bq (ay h5.2)) (ay h5.1)) (by rw[ay h5.1,ay h5.2];rfl) (ay h5.2)) LI.tq
  ·cases h
 ·cases h
theorem J0(ih:Sound Γ n)(S:Sc)(X:Cx)(tg e:Expr)(i:IT)(C:aL Γ S X)(h:cT S (n+1) e=some i):PI X tg e (LI X.K (fD Γ i))/\∀x,foldedSetIterable e X.env x=pure x:=by
 have seq:(cE S n e).map IT.seq=some i->PI X tg e (LI X.K (fD Γ i)):=fun h=>by
  obtain⟨x,h1,rfl⟩:=zv.mp h;exact PI.imp (tQ (ih.E _ _ _ _ C h1)) LI.seq
 have h:(match gU e with
  |some (f,_,as,_)=>if (f==("range":Str))=true then Bn S (cE S n) f as else (cE S n e).map IT.seq
  |none=>if Ex e=true then (cE S n e).map IT.seq else none)=some i:=h
 split at h
 ·rename_i f p as q hg
  have he:=y9 hg;split at h
  ·refine⟨?_,by rw[he];exact fun _=>rfl⟩
   rw[he];exact Bm (fun e i h=>ih.E _ _ _ _ C h) C h
  ·exact⟨seq h,by rw[he];exact fun _=>rfl⟩
 ·split at h
  ·rename_i hit
   exact⟨seq h,qo hit⟩
  ·cases h
theorem CQ{X:Cx}{r:Expr->Option IC}(hr:∀e i,r e=some i->PT X e (LT X.K (bh Γ i))){op:BoolOp}{es:List Expr}{pos:Pos}{i:IC}(h:CT r op es=some i):PT X (.BoolOp op es pos) (LT X.K (bh Γ i)):=by
 unfold CT at h;split at h
 ·obtain⟨k,h1,h⟩:=ak h
  obtain⟨j,h2,h⟩:=ak h;cases h;cases op with
  |And=>exact PT.imp (tM (hr _ _ h1) (Aa (hr _ _ h2))).pt LT.and
  |Or=>exact PT.imp (BY (hr _ _ h1) (DT (hr _ _ h2))).pt LT.or
 ·obtain⟨k,h1,h⟩:=ak h
  obtain⟨j,h2,h⟩:=ak h;obtain⟨l,h3,h⟩:=ak h;cases h;cases op with
  |And=>exact PT.imp (tM (hr _ _ h1) (DU (tM (hr _ _ h2) (Aa (hr _ _ h3))) LT.and)).pt LT.and
  |Or=>exact PT.imp (BY (hr _ _ h1) (DU (BY (hr _ _ h2) (DT (hr _ _ h3))) LT.or)).pt LT.or
 ·cases h
theorem J5(ih:Sound Γ n)(S:Sc)(X:Cx)(e:Expr)(i:IC)(C:aL Γ S X)(h:cC S (n+1) e=some i):PT X e (LT X.K (bh Γ i)):=by
 cases e with
 |UnaryOp op a p =>
  have h:(if (op==.Not)=true then (cC S n a).map IC.not else none)=some i:=h;split at h
  ·rename_i ho
   have ho:op=.Not:=by simpa using ho
   subst ho;obtain⟨k,h1,rfl⟩:=zv.mp h;exact PT.imp (Mp (ih.C _ _ _ _ C h1)) LT.not
  ·cases h
 |BoolOp op es p=>exact CQ (fun e i h=>ih.C _ _ _ _ C h) h
 |Compare a ops bs p =>
  obtain⟨k,h1,rfl⟩:=zv.mp (show (uS S (cE S n) a ops bs).map IC.cmp=some i from h);exact(pG (fun e i h=>ih.E _ _ _ _ C h) C h1).2
 |Name x p =>
  obtain⟨k,h1,rfl⟩:=zv.mp (show (cE S n (.Name x p)).map IC.tru=some i from h);exact tN (ih.E _ _ _ _ C h1) fun _=>rfl
 |Call f as ks p =>
  obtain⟨k,h1,rfl⟩:=zv.mp (show (cE S n (.Call f as ks p)).map IC.tru=some i from h);exact tN (ih.E _ _ _ _ C h1) fun _=>rfl
 |Subscript a b p =>
  obtain⟨k,h1,rfl⟩:=zv.mp (show (cE S n (.Subscript a b p)).map IC.tru=some i from h);exact tN (ih.E _ _ _ _ C h1) fun _=>rfl
 |_=>cases h
theorem sound(cN:ic Γ):∀n,Sound Γ n
 |0=>⟨(fun _ _ _ i _ h=>by cases (show (none:Option IE)=some i from h)),(fun _ _ _ i _ h=>by cases (show (none:Option cG)=some i from h)),(fun _ _ _ i _ h=>by cases (show (none:Option ml)=some i from h)),(fun _ _ _ _ i _ h=>by cases (show (none:Option IT)=some i from h)),(fun _ _ _ i _ h=>by cases (show (none:Option IC)=some i from h)),(fun _ _ _ i _ h=>by cases (show (none:Option nt)=some i from h))⟩
 |n+1=>⟨J4 cN (sound cN n),F8 (sound cN n),J3 (sound cN n),J0 (sound cN n),J5 (sound cN n),F9 (sound cN n)⟩
end
end L3
namespace L3
open PySem PySem.Spec PyProof.Rows L2
section
variable {Γ:Ctx}{n:Nat}{K:Q_}
theorem LS.set{i:Nat}{fe:DE}(D:Ends)(σ:St)(H:Hp)(h:LS K (fun ρ=>do let x<-fe ρ;pure (.nx (ρ.set i (some x)))) D σ H):sS (LE K fe) (dC i) D σ H:=by
 obtain⟨ι,ρ,M,fl,M',S,R,e,k⟩:=h;have e0:=ae e;clear e;obtain⟨x,M1,e1,e⟩:=e0;have e0:=ah e;clear e;obtain⟨rfl,rfl⟩:=e0;exact⟨ι,ρ,M,x,_,S,R,e1,fun v H1 ι1 r1 S1 X1=>k H1 ι1 S1 X1 _ ((R.mono X1).set r1 i)⟩
theorem LS.setIx{fo fi fe:DE}(D:Ends)(σ:St)(H:Hp)(h:LS K (fun ρ=>do let v<-fe ρ;let x<-fo ρ;let y<-fi ρ;setIx x y v;pure (.nx ρ)) D σ H):sS (LE K fe) (NX (LE K fo) (LE K fi) (Ow K)) D σ H:=by
 obtain⟨ι,ρ,M,fl,M',S,R,e,k⟩:=h;have e0:=ae e;clear e;obtain⟨v,M1,e1,e⟩:=e0;have e0:=ae e;clear e;obtain⟨x,M2,e2,e⟩:=e0;have e0:=ae e;clear e;obtain⟨y,M3,e3,e⟩:=e0;have e0:=ae e;clear e;obtain⟨u,M4,e4,e⟩:=e0;have e0:=ah e;clear e;obtain⟨rfl,rfl⟩:=e0;refine⟨ι,ρ,M,v,M1,S,R,e1,fun v1 H1 ι1 r1 S1 X1=>?_⟩;refine⟨ι1,ρ,M1,x,M2,S1,R.mono X1,e2,fun v2 H2 ι2 r2 S2 X2=>?_⟩;refine⟨ι2,ρ,M2,y,M3,S2,(R.mono X1).mono X2,e3,fun v3 H3 ι3 r3 S3 X3=>?_⟩;exact⟨ι3,M3,_,x,y,v,u,S3,r2.mono X3,r3,(r1.mono X2).mono X3,e4,fun H4 S4 X4=>k H4 ι3 S4 (((X1.trans X2).trans X3).trans X4) σ ((((R.mono X1).mono X2).mono X3).mono X4)⟩
noncomputable def pw:List Nat->rH
 |[]=>uH
 |i::is=>jA (dC i) (pw is)
theorem LS.hX{P:List V->St->Hp->Prop}:∀{is:List Nat} {ds:List D} {vs:List V} {ρ ρ1:Ev} {σ:St} {ι:List Addr} {H:Hp},hX is ds ρ=some ρ1->aB K ι H ds vs->bL K ι H ρ σ->∃σ1,bL K ι H ρ1 σ1/\∀Q:St->Hp->Prop,Q σ1 H->pw is vs σ H Q
 |[],[],_,ρ,ρ1,σ,ι,H,h,r,R=>by
  cases h;cases r;exact⟨σ,R,fun Q q=>⟨rfl,q⟩⟩
 |[],_::_,_,_,_,_,_,_,h,_,_=>by cases h
 |_::_,[],_,_,_,_,_,_,h,_,_=>by cases h
 |i::is,d::ds,_,ρ,ρ1,σ,ι,H,h,.cons r t,R=>by
  replace h:L3.hX is ds (ρ.set i (some d))=some ρ1:=h;obtain⟨σ1,R1,k⟩:=LS.hX (P:=P) h t (R.set r i);exact⟨σ1,R1,fun Q q=>⟨_,_,rfl,k Q q⟩⟩
theorem rB:∀{is:List Nat} {ds:List D} {ρ ρ1:Ev},L3.hX is ds ρ=some ρ1->ds.length=is.length
 |[],[],_,_,_=>rfl
 |[],_::_,_,_,h=>by cases h
 |_::_,[],_,_,h=>by cases h
 |i::is,d::ds,ρ,ρ1,h=>by
  replace h:L3.hX is ds (ρ.set i (some d))=some ρ1:=h;rw[zg,zg,rB h]
theorem LS.dA{is:List Nat}{fs:Ev->Mo Src}{fb:Ev->Mo Fl}(D:Ends)(σ:St)(H:Hp)(h:LS K (fun ρ=>do let s<-fs ρ;L3.dA s.ck is fb s.ds ρ) D σ H):Bb (LI K fs) (uG K is.length (pw is)) (LS K fb) D σ H:=by
 obtain⟨ι,ρ,M,fl,M',S,R,e,k⟩:=h;have e0:=ae e;clear e;obtain⟨src,M1,e1,e⟩:=e0;refine⟨ι,ρ,M,src,M1,S,R,e1,fun J H1 ι1 S1 X1 hJ=>?_⟩;refine⟨fun n m σ' H'=>m=src.ds.length-n/\n<=src.ds.length/\∃ι' ρ' M2,aJ K ι' M2 H'/\bL K ι' H' ρ' σ'/\Ext K ι1 H1 ι' H'/\L3.dA src.ck is fb (src.ds.drop n) ρ' M2=some (.ok fl,M'),
  ⟨_,rfl,zZ _,ι1,ρ,M1,S1,R.mono X1,Ext.refl,e⟩,?_⟩
 rintro n m σ' H' ⟨rfl,hj,ι',ρ',M2,S2,R2,X2,e2⟩;by_cases bW:n<src.ds.length
 ·right
  rw[yi bW]at e2;have aQ:=ae e2;clear e2;obtain⟨_,_,e3,e2⟩:=aQ;have bf:=cw e3;clear e3;obtain⟨ok,rfl⟩:=bf;have aQ:=ae e2;clear e2;obtain⟨xs,_,e3,e2⟩:=aQ;have bf:=bj e3;clear e3;obtain⟨IL,rfl⟩:=bf;have aQ:=ae e2;clear e2;obtain⟨ρ1,_,e3,e2⟩:=aQ;have bf:=bj e3;clear e3;obtain⟨hb,rfl⟩:=bf;have aQ:=ae e2;clear e2;obtain⟨f,M3,e3,e2⟩:=aQ;obtain⟨go,jf⟩:=(hJ ι' H' _ X2 S2 ok).1 n _ (zr bW);refine⟨go,fun σ3 H3=>∃ι3 ρ3 M4,aJ K ι3 M4 H3/\bL K ι3 H3 ρ3 σ3/\Ext K ι1 H1 ι3 H3/\L3.dA src.ck is fb (src.ds.drop (n+1)) ρ3 M4=some (.ok fl,M'),
   fun σ3 H3 ⟨ι3,ρ3,M4,h1,h2,h3,h4⟩=>⟨src.ds.length-(n+1),by omega,rfl,bW,ι3,ρ3,M4,h1,h2,h3,h4⟩,fun x H'' y=>?_⟩
  obtain⟨rfl,rx⟩:=jf x H'' y;cases hd:src.ds[n] with
  |tup ds =>
   rw[hd]at rx IL;cases IL;cases rx with
   |tup t q =>
    obtain⟨σ1,R1,kk⟩:=LS.hX (P:=fun _ _ _=>True) hb q R2;refine⟨_,_,rfl,bY t,by rw[<- q.length];exact rB hb,kk _ ?_⟩;refine⟨ι',_,_,f,M3,S2,R1,e3,fun H3 ι3 S3 X3=>?_⟩;cases f with
    |nx ρ3=>exact fun σ3 R3=>⟨ι3,ρ3,M3,S3,R3,X2.trans X3,e2⟩
    |ct ρ3=>exact fun σ3 R3=>⟨ι3,ρ3,M3,S3,R3,X2.trans X3,e2⟩
    |bk ρ3 =>
     have aQ:=ah e2;clear e2;obtain⟨rfl,rfl⟩:=aQ;exact fun σ3 R3=>k H3 ι3 S3 ((X1.trans X2).trans X3) σ3 R3
    |rt v =>
     have aQ:=ah e2;clear e2;obtain⟨rfl,rfl⟩:=aQ;exact fun v' r'=>k H3 ι3 S3 ((X1.trans X2).trans X3) v' r'
  |_=>rw[hd]at IL;cases IL
 ·left
  have ej:n=src.ds.length:=by first|lia|omega
  subst ej;rw[yC]at e2;have aQ:=ae e2;clear e2;obtain⟨_,_,e3,e2⟩:=aQ;have bf:=cw e3;clear e3;obtain⟨ok,rfl⟩:=bf;have aQ:=ah e2;clear e2;obtain⟨rfl,rfl⟩:=aQ;exact⟨(hJ ι' H' _ X2 S2 ok).2,k H' ι' S2 (X1.trans X2) σ' R2⟩
theorem LS.expr{fe:DE}(D:Ends)(σ:St)(H:Hp)(h:LS K (fun ρ=>do let _<-fe ρ;pure (.nx ρ)) D σ H):HS (LE K fe) D σ H:=by
 obtain⟨ι,ρ,M,fl,M',S,R,e,k⟩:=h;have e0:=ae e;clear e;obtain⟨x,M1,e1,e⟩:=e0;have e0:=ah e;clear e;obtain⟨rfl,rfl⟩:=e0;exact⟨ι,ρ,M,x,_,S,R,e1,fun v H1 ι1 r1 S1 X1=>k H1 ι1 S1 X1 _ (R.mono X1)⟩
theorem LS.ret{fe:DE}(D:Ends)(σ:St)(H:Hp)(h:LS K (fun ρ=>do let x<-fe ρ;pure (.rt x)) D σ H):Lr (LE K fe) D σ H:=by
 obtain⟨ι,ρ,M,fl,M',S,R,e,k⟩:=h;have e0:=ae e;clear e;obtain⟨x,M1,e1,e⟩:=e0;have e0:=ah e;clear e;obtain⟨rfl,rfl⟩:=e0;exact⟨ι,ρ,M,x,_,S,R,e1,fun v H1 ι1 r1 S1 X1=>k H1 ι1 S1 X1 v r1⟩
theorem LS.uJ{fl:Ev->Fl}(D:Ends)(σ:St)(H:Hp)(h:LS K (fun ρ=>pure (fl ρ)) D σ H):∃ι ρ,bL K ι H ρ σ/\Rm K D ι H (fl ρ):=by
 obtain⟨ι,ρ,M,f,M',S,R,e,k⟩:=h;have e0:=ah e;clear e;obtain⟨rfl,rfl⟩:=e0;exact⟨ι,ρ,R,k H ι S Ext.refl⟩
theorem LS.ifS{fc:Ev->Mo Bool}{fa fb:Ev->Mo Fl}(D:Ends)(σ:St)(H:Hp)(h:LS K (fun ρ=>do let k<-fc ρ;if k=true then fa ρ else fb ρ) D σ H):F0 (LT K fc) (LS K fa) (LS K fb) D σ H:=by
 obtain⟨ι,ρ,M,fl,M',S,R,e,k⟩:=h;have e0:=ae e;clear e;obtain⟨b,M1,e1,e⟩:=e0;refine⟨ι,ρ,M,b,M1,S,R,e1,fun H1 ι1 S1 X1=>?_⟩;split at e
 ·rename_i hb
  rw[if_pos hb];exact⟨ι1,ρ,_,fl,M',S1,R.mono X1,e,fun H' ι' S' X'=>k H' ι' S' (X1.trans X')⟩
 ·rename_i hb
  rw[if_neg hb];exact⟨ι1,ρ,_,fl,M',S1,R.mono X1,e,fun H' ι' S' X'=>k H' ι' S' (X1.trans X')⟩
theorem LS.while{fc:Ev->Mo Bool}{fb:Ev->Mo Fl}{wh:Nat}(D:Ends)(σ:St)(H:Hp)(h:LS K (fun ρ=>dS fc fb wh ρ) D σ H):Dy (LT K fc) (LS K fb) D σ H:=by
 obtain⟨ι,ρ,M,fl,M',S,R,e,k⟩:=h;refine⟨fun m σ' H'=>∃ι' ρ' M2,aJ K ι' M2 H'/\bL K ι' H' ρ' σ'/\Ext K ι H ι' H'/\dS fc fb m ρ' M2=some (.ok fl,M'),⟨wh,ι,ρ,M,S,R,Ext.refl,e⟩,?_⟩;rintro m σ' H' ⟨ι',ρ',M2,S2,R2,X2,e2⟩;cases m with
 |zero=>exact(ai e2).elim
 |succ m =>
  unfold dS at e2;have aQ:=ae e2;clear e2;obtain⟨b,M3,e3,e2⟩:=aQ;refine⟨ι',ρ',M2,b,M3,S2,R2,e3,fun H3 ι3 S3 X3=>?_⟩;cases b with
  |true =>
   rw[if_pos rfl]at e2 ⊢;have aQ:=ae e2;clear e2;obtain⟨f,M4,e4,e2⟩:=aQ;refine⟨fun σ4 H4=>∃ι' ρ' M2,aJ K ι' M2 H4/\bL K ι' H4 ρ' σ4/\Ext K ι H ι' H4/\dS fc fb m ρ' M2=some (.ok fl,M'),fun σ4 H4 q=>⟨m,xt _,q⟩,?_⟩;refine⟨ι3,ρ',M3,f,M4,S3,R2.mono X3,e4,fun H4 ι4 S4 X4=>?_⟩;cases f with
   |nx ρ4=>exact fun σ4 R4=>⟨ι4,ρ4,M4,S4,R4,(X2.trans X3).trans X4,e2⟩
   |ct ρ4=>exact fun σ4 R4=>⟨ι4,ρ4,M4,S4,R4,(X2.trans X3).trans X4,e2⟩
   |bk ρ4 =>
    have aQ:=ah e2;clear e2;obtain⟨rfl,rfl⟩:=aQ;exact fun σ4 R4=>k H4 ι4 S4 ((X2.trans X3).trans X4) σ4 R4
   |rt v =>
    have aQ:=ah e2;clear e2;obtain⟨rfl,rfl⟩:=aQ;exact fun v' r'=>k H4 ι4 S4 ((X2.trans X3).trans X4) v' r'
  |false =>
   rw[if_neg zu]at e2 ⊢;have aQ:=ah e2;clear e2;obtain⟨rfl,rfl⟩:=aQ;exact k H3 ι3 S3 (X2.trans X3) σ' (R2.mono X3)
theorem LS.seq{fa fb:Ev->Mo Fl}(D:Ends)(σ:St)(H:Hp)(h:LS K (fun ρ=>do
  let f<-fa ρ
  (match f with
  |.nx ρ'=>fb ρ'
  |.rt v=>pure (.rt v)
  |.bk ρ'=>pure (.bk ρ')
  |.ct ρ'=>pure (.ct ρ'))) D σ H):FY (LS K fa) (LS K fb) D σ H:=by
 obtain⟨ι,ρ,M,fl,M',S,R,e,k⟩:=h;have e0:=ae e;clear e;obtain⟨f,M1,e1,e⟩:=e0;refine⟨ι,ρ,M,f,M1,S,R,e1,fun H1 ι1 S1 X1=>?_⟩;cases f with
 |nx ρ1=>exact fun σ1 R1=>⟨ι1,ρ1,M1,fl,M',S1,R1,e,fun H' ι' S' X'=>k H' ι' S' (X1.trans X')⟩
 |rt v=>have e0:=ah e;clear e;obtain⟨rfl,rfl⟩:=e0;exact k H1 ι1 S1 X1
 |bk ρ1=>have e0:=ah e;clear e;obtain⟨rfl,rfl⟩:=e0;exact k H1 ι1 S1 X1
 |ct ρ1=>have e0:=ah e;clear e;obtain⟨rfl,rfl⟩:=e0;exact k H1 ι1 S1 X1
structure mi (Γ:Ctx) (n:Nat):Prop where
 S:∀(S:Sc) (X:Cx) (e:Stmt) (i:IS),aL Γ S X->(∀x,X.fn x=true)->cS S n e=some i->PS X e (LS X.K (bp Γ i))
 Ss:∀(S:Sc) (X:Cx) (e:List Stmt) (i:aI),aL Γ S X->(∀x,X.fn x=true)->dM S n e=some i->du X e (LS X.K (au Γ i))
end
section
variable {Γ:Ctx}{n:Nat}
theorem DB{e o i:Expr}{p:Pos}{l:Nat}{env:Env}:swapsWithSole [.Subscript o i p] e l env=pure false/\swappedStores [.Subscript o i p] e env=pure none:=by
 constructor
 ·cases e <;> rfl
 ·cases e <;> rfl
theorem vX{e:Expr}{x:Str}{p:Pos}{l:Nat}{env:Env}(hn:ip e=true):swapsWith e (some (.Name x p)) l env=pure false:=by
 cases e <;> first|rfl|cases hn
theorem vW{e:Expr}{l:Nat}{env:Env}(hn:ip e=true):swapsWith e none l env=pure false:=by
 cases e <;> first|rfl|cases hn
theorem Oo{o i:Expr}{p:Pos}{env:Env}(h:Iv i=true):∀v,assign (.Subscript o i p) env v=(do
   let ov<-holding [v] (eval o env)
   let iv<-holding [v,ov] (eval i env)
   standAt p
   holding [v,ov,iv] (setItem ov iv v)
   release [v,ov,iv] []):=by
 intro v;cases i <;> first|rfl|exact absurd h zu
theorem Gp{S:Sc}{X:Cx}{sc:Scope}{x y:Str}{px pos py Bd:Pos}{elt iter:Expr}{ifs:List Expr}{j i:Nat}{fs:Ev->Mo Src}{fc:Ev->Mo Bool}{fe:DE}(C:aL Γ S X)(h:dk S sc [x]=true)(hi:PI X (.Name x px) iter (LI X.K fs))(hs:∀x,foldedSetIterable iter X.env x=pure x)
  (htc:∀X',aL Γ (S.comp sc [x]) X'->X'.K=X.K->jO X' ifs (LT X'.K fc)) (hte:∀X',aL Γ (S.comp sc [x]) X'->X'.K=X.K->PE X' elt (LE X'.K fe)) (hy:X.N[i]?=some y) (hl:Loc X.env.scope y) (hf:X.fn y=true) :
  PS X (.Assign [.Name y py] (.ListComp elt [⟨.Name x px,iter,ifs,0⟩] sc pos) Bd) (LS X.K (fun ρ=>do
   let v<-(do
    let s<-fs ρ
    need (s.ds.length<=zq)
    let ys<-dQ s.ck fc fe (ρ.set j none) s.ds
    bz (.lst ys))
   pure (.nx (ρ.set i (some v))))):=by
 intro pins s σ H D I q;have CS:=me C I.ok h;have q2:=LS.set D σ H q;exact Ki C.calm CS (fun _ _ _ _=>lT CS rfl _ _ _ _) hi (fun Ca s H fp=>htc _ (km C h _ Ca s H fp) rfl) (fun Ca s H fp=>hte _ (km C h _ Ca s H fp) rfl) hs C.nd hy hl (.inl hf) pins s σ H D I (LE.comp σ H _ q2)
theorem K3{v elt:Expr}{gs:List Comprehension}{sc:Scope}(h:sf v=some (elt,gs,sc)):∃p,v=.ListComp elt gs sc p:=by
 cases v with
 |ListComp a b c p=>cases h;exact⟨p,rfl⟩
 |_=>cases h
theorem CO(hE:∀n,Sound Γ n){S:Sc}{X:Cx}(C:aL Γ S X){es:List Expr}{k1:Nat}{p1 p q:Pos}{f:Str}{as:List Expr}{i:IP}(h1:f = "enumerate")(h:Ju S (cE S n) f as=some i):PI X (.Tuple es k1 p1) (.Call (.Name f p) as [] q) (u7 X.K (kA Γ i)):=by
 rcases as with _|⟨a,_|⟨_,_⟩⟩
 ·cases h
 ·replace h:(if bR f&&S.bA f&&S.bu.contains f&&aV a then (cE S n a).map IP.enum else none)=some i:=h
  split at h
  ·rename_i hs
   simp only[zx]at hs;obtain⟨⟨⟨h2,h3⟩,h4⟩,h5⟩:=hs;obtain⟨x,g,rfl⟩:=zv.mp h;subst h1;intro pins s σ H R I q0;obtain⟨ι,ρ,M,src,M',S',R',e,k⟩:=q0;obtain⟨x0,M1,e1,ea⟩:=ae e;exact(ai ea).elim
  ·cases h
 ·cases h
theorem J2(hE:∀n,Sound Γ n){S:Sc}{X:Cx}(C:aL Γ S X){es:List Expr}{k1:Nat}{p1:Pos}{e:Expr}{i:IP}(h:cP S n e=some i):PI X (.Tuple es k1 p1) e (u7 X.K (kA Γ i))/\∀x,foldedSetIterable e X.env x=pure x:=by
 have seq:(cE S n e).map IP.seq=some i->PI X (.Tuple es k1 p1) e (u7 X.K (kA Γ i)):=fun h=>by
  obtain⟨x,h1,rfl⟩:=zv.mp h;exact PI.imp (tQ ((hE n).E _ _ _ _ C h1)) fun σ H R q=>LI.seq σ H R (u7.to σ H R q)
 delta cP at h;cases hr:gU e with
 |some q =>
  obtain⟨f,p,as,q⟩:=q;rw[hr]at h;dsimp only at h;have he:=y9 hr;split at h
  ·rename_i hf
   refine⟨?_,by rw[he];exact fun _=>rfl⟩;rw[he];exact CO hE C (by simpa using hf) h
  ·exact⟨seq h,by rw[he];exact fun _=>rfl⟩
 |none =>
  rw[hr]at h;dsimp only at h;split at h
  ·rename_i hit
   exact⟨seq h,qo hit⟩
  ·cases h
theorem ua{e:Expr}{x:Str}{p:Pos}(h:et e=some (x,p)):e=.Name x p:=by
 cases e <;> first|cases h;rfl|cases h
theorem B8(hE:∀n,Sound Γ n){S:Sc}{X:Cx}(C:aL Γ S X)(hf:∀x,X.fn x=true)(hp:PassesOwn (model X.prog X.w) X.A X.env X.xe){a b iter:Expr}{body:List Stmt}{r:Option aI}{i:IS}{k1:Nat}{p1 p:Pos}(hb:∀y,r=some y->du X body (LS X.K (au Γ y)))
  (h:rY S n a b iter r=some i):PS X (.For (.Tuple [a,b] k1 p1) iter body [] p) (LS X.K (bp Γ i)):=by
 delta rY at h;cases ha:et a with
 |none=>rw[ha]at h;cases h
 |some q =>
  obtain⟨x,pa⟩:=q;rw[ha]at h;dsimp only at h;cases NO:et b with
  |none=>rw[NO]at h;cases h
  |some q =>
   obtain⟨y,pb⟩:=q;rw[NO]at h;dsimp only at h;obtain rfl:=ua ha;obtain rfl:=ua NO;split at h
   ·rename_i hl
    rw[zx]at hl;obtain⟨i1,h1,h⟩:=ak h;obtain⟨j1,h2,h⟩:=ak h;obtain⟨it,h3,h⟩:=ak h;obtain⟨z,h4,h⟩:=ak h;cases h;have QS:=slot_get h1;rw[<- C.n]at QS;have QR:=slot_get h2;rw[<- C.n]at QR;obtain⟨t1,t2⟩:=J2 hE C h3;exact PS.imp (tP hp C.calm t1 (tR C.calm (iV (ka C.nd QS (C.loc hl.1) (.inl (hf x))) (iV (ka C.nd QR (C.loc hl.2) (.inl (hf y))) p8))) (hb _ h4) t2) LS.Pn
   ·cases h
theorem mU{S:Sc}{X:Cx}(C:aL Γ S X)(hf:∀x,X.fn x=true):∀{ts:List Expr} {is:List Nat},ow S ts=some is->FG X ts (pw is)/\(assignEach ts X.env).length=is.length/\(assignEach ts X.env).findIdx? (·.1)=none
 |[],is,h=>by cases h;exact⟨p8,rfl,rfl⟩
 |e::r,is,h=>by
  replace h:(match et e with
   |some (x,_)=>if S.loc x=true then (do let i<-slot S.N x;let is<-ow S r;some (i::is)) else none
   |none=>none)=some is:=h
  split at h
  ·rename_i x p hn
   split at h
   ·rename_i hl
    obtain⟨i1,h1,h⟩:=ak h;obtain⟨is1,h2,h⟩:=ak h;cases h;obtain rfl:=ua hn;have hN:=slot_get h1;rw[<- C.n]at hN;obtain⟨g1,g2,g3⟩:=mU C hf h2;have ea:assignEach (.Name x p::r) X.env=(false,assign (.Name x p) X.env)::assignEach r X.env:=rfl;refine⟨iV (ka C.nd hN (C.loc hl) (.inl (hf x))) g1,by rw[ea,zg,zg,g2],?_⟩;rw[ea,wl,if_neg zu,g3];rfl
   ·cases h
  ·cases h
theorem A7(hE:∀n,Sound Γ n){S:Sc}{X:Cx}(C:aL Γ S X)(hf:∀x,X.fn x=true)(hp:PassesOwn (model X.prog X.w) X.A X.env X.xe){ts:List Expr}{iter:Expr}{body:List Stmt}{r:Option aI}{i:IS}{k1:Nat}{p1 p:Pos}(hb:∀y,r=some y->du X body (LS X.K (au Γ y)))
  (h:A8 S n ts iter r=some i):PS X (.For (.Tuple ts k1 p1) iter body [] p) (LS X.K (bp Γ i)):=by
 unfold A8 at h;split at h
 ·rename_i hi
  rw[zx]at hi;obtain⟨is,h1,h⟩:=ak h;obtain⟨e,h2,h⟩:=ak h;obtain⟨z,h3,h⟩:=ak h;cases h;obtain⟨g1,g2,g3⟩:=mU C hf h1;have hs:bp Γ (.forN is e z)=fun ρ=>(do let s<-(do let x<-af Γ e ρ;fw x);L3.dA s.ck is (au Γ z) s.ds ρ):=by
   funext ρ M;show (af Γ e ρ >>= fun x=>fw x >>= fun s=>L3.dA s.ck is (au Γ z) s.ds ρ) M=_;simp only[run_bind];cases af Γ e ρ M with
   |none=>rfl
   |some q=>obtain⟨o,M'⟩:=q;cases o <;> rfl
  rw[hs];exact PS.imp (tP hp C.calm (PI.imp (tQ ((hE n).E _ _ _ _ C h2)) LI.seq) (tR C.calm g1 g2 g3) (hb _ h3) (qo hi.1)) LS.dA
 ·cases h
theorem J1(hE:∀n,Sound Γ n)(ih:mi Γ n)(S:Sc)(X:Cx)(e:Stmt)(i:IS)(C:aL Γ S X)(hf:∀x,X.fn x=true)(h:cS S (n+1) e=some i):PS X e (LS X.K (bp Γ i)):=by
 have hp:PassesOwn (model X.prog X.w) X.A X.env X.xe:=by rw[C.dX];exact PassesOwn.never
 cases e with
 |Assign ts v pos =>
  replace h:HC S n ts v=some i:=h;rcases ts with _|⟨t,_|⟨t2,ts⟩⟩
  ·cases h
  ·replace h:HB S n t v=some i:=h
   cases t with
   |Name x p =>
    replace h:u4 S n x v=some i:=h;delta u4 at h;cases hc:sf v with
    |some q =>
     obtain⟨elt,gs,sc⟩:=q;rw[hc]at h;dsimp only at h;cases hg:mL gs with
     |none=>rw[hg]at h;cases h
     |some q =>
      obtain⟨y,py,iter,ifs⟩:=q;rw[hg]at h;dsimp only at h;obtain⟨cp,rfl⟩:=K3 hc;obtain rfl:=AD hg;split at h
      ·rename_i hl
       rw[zx]at hl;obtain⟨i',h1,h⟩:=ak h;obtain⟨it,g1,h⟩:=ak h;obtain⟨c,g2,h⟩:=ak h;obtain⟨y',g3,h⟩:=ak h;cases h;have hN:=slot_get h1;rw[<- C.n]at hN;obtain⟨t1,t2⟩:=(hE n).T _ X (.Name y py) _ _ C g1;exact Gp C hl.2 t1 t2 (fun X' C' _=>(hE n).Co _ _ _ _ C' g2) (fun X' C' _=>(hE n).E _ _ _ _ C' g3) hN (C.loc hl.1) (hf x)
      ·cases h
    |none =>
     rw[hc]at h;dsimp only at h;split at h
     ·rename_i hl
      rw[zx]at hl;obtain⟨j,h1,h⟩:=ak h;obtain⟨y,h2,h⟩:=ak h;cases h;have hN:=slot_get h1;rw[<- C.n]at hN;exact PS.imp (ik C.nd hN (C.loc hl.1) ((hE n).E _ _ _ _ C h2) (vX hl.2) (.inl (hf x))) LS.set
     ·cases h
   |Subscript o ix p =>
    delta HB at h;dsimp only at h;split at h
    ·rename_i qX
     obtain⟨y,h1,h⟩:=ak h;obtain⟨a,h2,h⟩:=ak h;obtain⟨b,h3,h⟩:=ak h;cases h;exact PS.imp (Ms ((hE n).E _ _ _ _ C h1) (MB ((hE n).E _ _ _ _ C h2) ((hE n).E _ _ _ _ C h3) (LU C.hu) (Oo qX)) DB.1 (DB (l:=0)).2 rfl) LS.setIx
    ·cases h
   |Attribute o f pf =>
    replace h:(match et o with
     |some _=>if (kW.contains f&&ip v)=true then (do let y<-cE S n v;let a<-cE S n o;some (.setF a f y)) else none
     |none=>none)=some i:=h
    split at h
    ·rename_i q hq
     split at h
     ·rename_i hs
      rw[zx]at hs;obtain⟨y,h1,h⟩:=ak h;obtain⟨a,h2,h⟩:=ak h;cases h;exact PS.imp (Mr ((hE n).E _ _ _ _ C h2) ((hE n).E _ _ _ _ C h1) (by cases v <;> first|rfl|(exact absurd hs.2 zu))) (LS.setF C.cls (C.kJ f (aC hs.1)))
     ·cases h
    ·cases h
   |_=>cases h
  ·cases h
 |Expr e pos =>
  replace h:(if ip e then (do let y<-cE S n e;some (.expr y)) else none)=some i:=h;split at h
  ·rename_i hn
   obtain⟨y,h1,h⟩:=ak h;cases h;exact PS.imp (mD ((hE n).E _ _ _ _ C h1) (vW hn)) LS.expr
  ·cases h
 |Return o pos =>
  cases o with
  |some e =>
   replace h:(do let y<-cE S n e;some (.ret y))=some i:=h;obtain⟨y,h1,h⟩:=ak h;cases h;exact PS.imp (tO ((hE n).E _ _ _ _ C h1)) LS.ret
  |none =>
   cases h;exact PS.imp Kg fun D σ H q=>by
    obtain⟨ι,ρ,R,k⟩:=LS.uJ D σ H q;exact k .non .non
 |Raise a b c =>
  have hz:i=.rz\/i=.halt:=by
   have h:some (DJ S a b)=some i:=h;cases h;unfold DJ;cases a with
   |none=>exact .inr rfl
   |some e =>
    cases b with
    |some _=>exact .inr rfl
    |none =>
     dsimp only;split
     ·exact .inl rfl
     ·exact .inr rfl
  clear h;rcases hz with rfl|rfl
  ·intro pins s σ H D I q
   obtain⟨ι,ρ,M,fl,M',S',R,e,k⟩:=q;exact(ai e).elim
  intro pins s σ H D I q;obtain⟨ι,ρ,M,fl,M',S',R,e,k⟩:=q;exact(ai e).elim
 |Pass p =>
  cases h;exact PS.imp Kh fun D σ H q=>by
   obtain⟨ι,ρ,R,k⟩:=LS.uJ D σ H q;exact k σ R
 |Break p =>
  cases h;exact PS.imp Gq fun D σ H q=>by
   obtain⟨ι,ρ,R,k⟩:=LS.uJ D σ H q;exact k σ R
 |Continue p =>
  cases h;exact PS.imp vG fun D σ H q=>by
   obtain⟨ι,ρ,R,k⟩:=LS.uJ D σ H q;exact k σ R
 |If c a b p =>
  replace h:(do let k<-cC S n c;let x<-dM S n a;let y<-dM S n b;some (.ifS k x y))=some i:=h;obtain⟨k,h0,h⟩:=ak h;obtain⟨x,h1,h⟩:=ak h;obtain⟨y,h2,h⟩:=ak h;cases h;exact PS.imp (Ig ((hE n).C _ _ _ _ C h0) (ih.Ss _ _ _ _ C hf h1) (ih.Ss _ _ _ _ C hf h2)) LS.ifS
 |For t iter b o p =>
  replace h:Cc o (Hl S n t iter (dM S n b))=some i:=h;cases o with
  |cons _ _=>cases h
  |nil =>
   replace h:Hl S n t iter (dM S n b)=some i:=h;cases t with
   |Name x p =>
    replace h:(if S.loc x then (do let i<-slot S.N x;let it<-cT S n iter;let y<-dM S n b;some (.forS i it y)) else none)=some i:=h;split at h
    ·rename_i hl
     obtain⟨j,h0,h⟩:=ak h;obtain⟨it,h1,h⟩:=ak h;obtain⟨y,h2,h⟩:=ak h;cases h;have hN:=slot_get h0;rw[<- C.n]at hN;obtain⟨t1,t2⟩:=(hE n).T _ X (.Name x p) _ _ C h1;exact PS.imp (tP hp C.calm t1 (ka C.nd hN (C.loc hl) (.inl (hf x))) (ih.Ss _ _ _ _ C hf h2) t2) LS.loop
    ·cases h
   |Tuple ts k1 p1 =>
    replace h:Ij S n ts iter (dM S n b)=some i:=h;rcases ts with _|⟨a,_|⟨b2,_|⟨_,_⟩⟩⟩
    ·cases h
    ·cases h
    ·replace h:rY S n a b2 iter (dM S n b)=some i:=h
     exact B8 hE C hf hp (fun y h2=>ih.Ss _ _ _ _ C hf h2) h
    ·exact A7 hE C hf hp (fun y h2=>ih.Ss _ _ _ _ C hf h2) h
   |_=>cases h
 |While c b o p =>
  cases o with
  |cons _ _=>cases h
  |nil =>
   replace h:(do let k<-cC S n c;let y<-dM S n b;some (.whileS k y))=some i:=h;obtain⟨k,h0,h⟩:=ak h;obtain⟨x,h1,h⟩:=ak h;cases h;exact PS.imp (Gn hp ((hE n).C _ _ _ _ C h0) (ih.Ss _ _ _ _ C hf h1)) LS.while
 |_=>cases h
theorem qN(ih:mi Γ n){S:Sc}{X:Cx}{e:Stmt}(C:aL Γ S X)(hf:∀x,X.fn x=true):PS X e (LS X.K (bp Γ ((cS S n e).getD .halt))):=by
 cases h:cS S n e with
 |some i=>exact ih.S _ _ _ _ C hf h
 |none =>
  intro pins s σ H D I q;obtain⟨ι,ρ,M,d,M',_,_,e,_⟩:=q;exact(ai e).elim
theorem F7(ih:mi Γ n)(S:Sc)(X:Cx)(e:List Stmt)(i:aI)(C:aL Γ S X)(hf:∀x,X.fn x=true)(h:dM S (n+1) e=some i):du X e (LS X.K (au Γ i)):=by
 unfold dM at h;cases e with
 |nil =>
  cases h;exact du.imp mC fun D σ H q=>by
   obtain⟨ι,ρ,R,k⟩:=LS.uJ D σ H q;exact k σ R
 |cons s r =>
  obtain⟨y,h2,h⟩:=ak h;cases h;refine du.imp (cm (qN ih C hf) (ih.Ss _ _ _ _ C hf h2)) LS.seq
theorem ou(hE:∀n,Sound Γ n):∀n,mi Γ n
 |0=>⟨(fun _ _ _ _ _ _ h=>by cases h),(fun _ _ _ _ _ _ h=>by unfold dM at h;cases h)⟩
 |n+1=>⟨J1 hE (ou hE n),F7 (ou hE n)⟩
end
end L3
namespace L3
open PySem PySem.Spec PyProof.Rows L2
section
variable {M:Model}{A:Around}{E:Value->Shared->Prop}{s:Shared}
noncomputable def og(e T:Addr)(cls:Value)(h:Heap):Prop:=∃oe vs oT ts,h.get? e=some oe/\oe.cls=cls/\oe.data=.fields vs/\vs[1]?=some (.ref T)/\vs[2]?=some .none/\T≠e/\h.get? T=some oT/\oT.data=.fields ts/\ts[3]?=some .none
structure Mv (fs ch:List Addr) (h h':Heap):Prop where
 keep:∀b o,b ∉ fs->b ∉ ch->h.get? b=some o->h'.get? b=some o
 slot:∀b o,b ∉ ch->h.get? b=some o->∃sl,h'.get? b=some { o with slots:=sl }
 there:∀b o,h.get? b=some o->∃o',h'.get? b=some o'
theorem t5{base:Heap}{env:Env}{outer:List Env}{L e:Addr}{oe:Obj}{vs:Array Value}{head:Value}{KN:Bool}{Q:Unit->Shared->Prop}
  (EM:A.frames=some (env::outer)) (hl:s.heap.FunFrames base (env::outer)) (hf:env.frame=some L)
  (he:s.heap.get? e=some oe) (hd:oe.data=.fields vs) (hsz:1<vs.size) (hz:vs[2]?=some .none)
  (h:∀h' T,og e T oe.cls h'->s.heap.objs.size<=T->Mv (dZ (env::outer)) [e] s.heap h'->Q () { s with heap:=h' }) :
  wpAny M A (do let a<-frameOf env;let pl<-entryPlaceOf L KN;let b<-EntryCells.newEntry head a .none (rawInt L) .none pl;setField (.ref e) 1 b) (fun _ s'=>wpAny M A (setFlight (.ref e) none) Q E s') E s:=by
 have Sl:e ∉ (env::outer).filterMap (·.frame):=fun hm=>by
  obtain⟨_,o,ho,EH⟩:=hl.mem hm;rw[he]at ho;injection ho with ho;subst ho;exact EH vs hd
 refine zz (wpAny_frameOf_fun EM hl hf fun h1 lX=>?_);refine zz (wpAny_entryPlaceOf fun pl fX=>?_);unfold EntryCells.newEntry newFields;refine zz (wpAny_newObj_type ?_ (fX.sizeOk5 _ _ _ _ _));have QH:h1.get? e=some oe:=(lX.2.1 e Sl).trans he;generalize I0:({ cls:=.type "traceback",dict:=none,data:=.fields ([head,.ref L,.none,rawInt L,.none]++(if pl.isEmpty then zM 6 Value.none else pl)).toArray }:Obj)=ob;have G4:ob.data=.fields ([head,.ref L,.none,rawInt L,.none]++(if pl.isEmpty then zM 6 Value.none else pl)).toArray:=by rw[<- I0]
 have Sg:ob.isFreed=false:=by rw[<- I0];rfl
 have QG:=zy (h:=h1) ob QH;refine wpAny_setField QG hd hsz ?_;have lY:h1.objs.size≠e:=zI (zn QH);have NM:=Obj.data_mapFields hd (·.setIfInBounds 1 (Value.ref h1.objs.size));have EN:=yr (Obj.mapFields (·.setIfInBounds 1 (Value.ref h1.objs.size))) QG (Obj.isFreed_of_fields NM);have EW:=(zP (h1.push ob) (Obj.mapFields (·.setIfInBounds 1 (Value.ref h1.objs.size))) (Ne.symm lY)).trans (zk h1 Sg);unfold setFlight;refine zz (wpAny_field EN NM (x:=.ref h1.objs.size) (by simp[hsz]) ?_);rw[if_pos (show (Value.ref h1.objs.size != Value.none)=true from by simp)];refine wpAny_setField EW G4 (by simp only[zo,ze,zg,yU] <;> omega) (h _ h1.objs.size ?_ (by rw[lX.1];exact zp _) ?_)
 ·refine⟨_,_,_,_,?_,Obj.cls_mapFields _ _,NM,by simp[hsz],by simpa using hz,lY,yr _ EW (Obj.isFreed_of_fields (Obj.data_mapFields G4 _)),Obj.data_mapFields G4 _,by first|(simp;done)|(rcases fX with rfl|⟨_,_,_,_,_,_,_,rfl⟩ <;> simp)⟩
  rw[zP _ _ lY];exact EN
 ·have keep:∀b o,b≠e->h1.get? b=some o->(((h1.push ob).update e (Obj.mapFields (·.setIfInBounds 1 (Value.ref h1.objs.size)))).update h1.objs.size (Obj.mapFields (·.setIfInBounds 3 ((none:Option Addr).elim Value.none fun f=>rawInt f)))).get? b=some o:=fun b o lB hb=>by
   have Jk:h1.objs.size≠b:=zI (zn hb);rw[zP _ _ Jk,zP _ _ (Ne.symm lB)];exact zy _ hb
  refine⟨fun b o hf hc hb=>keep b o (by simpa using hc) ((lX.2.1 b hf).trans hb),fun b o hc hb=>?_,fun b o hb=>?_⟩
  ·obtain⟨sl,hs⟩:=lX.2.2 b o hb
   exact⟨sl,keep b _ (by simpa using hc) hs⟩
  ·by_cases lB:b=e
   ·subst lB
    rw[zP _ _ lY];exact⟨_,EN⟩
   ·obtain⟨sl,hs⟩:=lX.2.2 b o hb
    exact⟨_,keep b _ lB hs⟩
theorem vL{base:Heap}{env:Env}{outer:List Env}{L e:Addr}{oe:Obj}{vs:Array Value}{Q:Unit->Shared->Prop}
  (EM:A.frames=some (env::outer)) (hl:s.heap.FunFrames base (env::outer)) (hf:env.frame=some L) (he:s.heap.get? e=some oe) (hd:oe.data=.fields vs) (h1:vs[1]?=some .none) (h2:vs[2]?=some .none)
  (h:∀h' T,og e T oe.cls h'->s.heap.objs.size<=T->Mv (dZ (env::outer)) [e] s.heap h'->Q () { s with heap:=h' }):wpAny M A (leaving env (.ref e)) Q E s:=by
 unfold leaving noteFrame;simp only[hf];refine zz (zz (wpAny_field he hd h1 ?_));rw[if_neg (by decide)];exact t5 EM hl hf he hd (ym.mp h1).1 h2 h
theorem ue{base:Heap}{env:Env}{outer:List Env}{L e T:Addr}{cls:Value}{Q:Unit->Shared->Prop}
  (EM:A.frames=some (env::outer)) (hl:s.heap.FunFrames base (env::outer)) (hf:env.frame=some L) (ht:og e T cls s.heap)
  (h:∀h' T',og e T' cls h'->s.heap.objs.size<=T'->Mv (dZ (env::outer)) [e,T] s.heap h'->Q () { s with heap:=h' }):wpAny M A (noteFrame (.ref e) env) (fun _ s2=>wpAny M A (setFlight (.ref e) none) Q E s2) E s:=by
 obtain⟨oe,vs,oT,ts,he,fZ,hd,h1,h2,lY,hT,oW,h3⟩:=ht;subst fZ;unfold noteFrame;simp only[hf];refine zz (wpAny_field he hd h1 ?_);rw[if_pos (show (Value.ref T != Value.none)=true from by simp)];refine zz (wpAny_field hT oW h3 ?_);rw[if_neg (show ¬ ((Value.none==rawInt L)=true) from by simp[rawInt])];refine zz (wpAny_setField hT oW (ym.mp h3).1 ?_);have other:∀b,b≠T->(s.heap.update T (Obj.mapFields (·.setIfInBounds 3 Value.none))).get? b=s.heap.get? b:=fun b hb=>zP _ _ (Ne.symm hb);have noRecord:∀b o,s.heap.get? b=some o->(∀vs,o.data≠.fields vs)->b≠T:=fun b o hb EH q=>by
  rw[q,hT]at hb;injection hb with hb;subst hb;exact EH ts oW
 have Wf:∃o',(s.heap.update T (Obj.mapFields (·.setIfInBounds 3 Value.none))).get? T=some o':=⟨_,yr _ hT (Obj.isFreed_of_fields (Obj.data_mapFields oW _))⟩;refine t5 EM (hl.of_keeps fun b o hb EH=>⟨o,(other b (noRecord b o hb EH)).trans hb,rfl⟩) hf ((other e (Ne.symm lY)).trans he) hd (ym.mp h1).1 h2 fun h' T' hF hT' mv=>h h' T' hF (by rw[Heap.size_update]at hT';exact hT') ?_;refine⟨fun b o hf hc hb=>?_,fun b o hc hb=>?_,fun b o hb=>?_⟩
 ·simp only[zi,zB,or_false,not_or]at hc
  exact mv.keep b o hf (by simpa using hc.1) ((other b hc.2).trans hb)
 ·simp only[zi,zB,or_false,not_or]at hc
  exact mv.slot b o (by simpa using hc.1) ((other b hc.2).trans hb)
 ·by_cases Jk:b=T
  ·subst Jk
   obtain⟨o',ho'⟩:=Wf;exact mv.there _ _ ho'
  ·exact mv.there b o ((other b Jk).trans hb)
theorem lands{e T:Addr}{cls:Value}{Q:Unit->Shared->Prop}(ht:og e T cls s.heap)(h:∀h',og e T cls h'->(∀b o,b≠T->s.heap.get? b=some o->h'.get? b=some o)->Q () { s with heap:=h' }):wpAny M A (setFlight (.ref e) none) Q E s:=by
 obtain⟨oe,vs,oT,ts,he,fZ,hd,h1,h2,lY,hT,oW,h3⟩:=ht;have Nx:3<ts.size:=(ym.mp h3).1;have other:∀b,b≠T->(s.heap.update T (Obj.mapFields (·.setIfInBounds 3 ((none:Option Addr).elim Value.none fun f=>rawInt f)))).get? b=s.heap.get? b:=fun b hb=>zP _ _ (Ne.symm hb);unfold setFlight;refine zz (wpAny_field he hd h1 ?_);rw[if_pos (show (Value.ref T != Value.none)=true from by simp)];refine wpAny_setField hT oW Nx (h _ ?_ fun b o hb e=>(other b hb).trans e);exact⟨oe,vs,_,_,(other e (Ne.symm lY)).trans he,fZ,hd,h1,h2,lY,yr _ hT (Obj.isFreed_of_fields (Obj.data_mapFields oW _)),Obj.data_mapFields oW _,by simp[Nx]⟩
end
end L3
namespace L3
open PySem PySem.Spec PyProof.Rows L2
section
variable {X:Cx}{pins:List (Addr×Obj)}{σ:L2.St}{H:Hp}{s:Shared}{h':Heap}
theorem jy{t':Nat}{ch:List Addr}(I:Inv X pins σ H s)
  (hch:∀b∈ch,X.s₀.heap.get? b=none/\b≠X.env.locals/\(∀x c,X.env.cells.lookup x=some c->c≠b)/\(∀p∈X.pn++pins,p.1≠b)/\H b=none) (mv:Mv (dZ X.stack) ch s.heap h') :
  Inv X pins σ H { s with heap:=h',toks:=t' }:=by
 have neC:∀b o,X.s₀.heap.get? b=some o->b ∉ ch:=fun b o e hb=>by rw[(hch b hb).1]at e;cases e
 have neS:∀b o,X.s₀.heap.get? b=some o->b ∉ X.fs->b ∉ dZ X.stack:=fun b o e hb z=>by
  rcases zi.mp (I.fO b z) with q|q
  ·exact absurd (zj (zn e) (q▸I.ok.above)) (yu _)
  ·exact hb q
 have cellK:∀x c,X.env.cells.lookup x=some c->∀v,s.heap.IsCell c v->h'.IsCell c v:=fun x c e v ⟨o,ho,hd⟩=>by
  obtain⟨sl,q⟩:=mv.slot c o (fun z=>(hch c z).2.2.1 x c e rfl) ho;exact⟨_,q,hd⟩
 refine⟨I.ok,I.os,I.bare,⟨fun b o e n hb hx=>?_,fun b o e n hb hx=>?_,fun b o e n hx=>I.base.free b o e n hx,fun b o e hx=>?_,I.base.iA,I.base.gX,I.base.iB⟩,?_,fun x c e=>?_,I.free,I.dj,fun p hp=>?_,?_,I.len⟩
 ·exact mv.keep b o (neS b o e hb) (neC b o e) (I.base.keep b o e n hb hx)
 ·obtain⟨sl,e1⟩:=I.base.slot b o e n hb hx
  obtain⟨sl',e2⟩:=mv.slot b _ (neC b o e) e1;exact⟨sl',e2⟩
 ·obtain⟨o',e1⟩:=I.base.there b o e hx
  exact mv.there b o' e1
 ·obtain⟨m,⟨o,es,ep,ho,r⟩,hl⟩:=I.loc
  obtain⟨sl,q⟩:=mv.slot _ o (fun z=>(hch _ z).2.1 rfl) ho;refine⟨m,⟨_,es,ep,q,r⟩,fun i x v e1 e2 e3=>?_⟩;obtain⟨u,r,l⟩:=hl i x v e1 e2 e3;refine⟨u,r,?_⟩;rcases l with l|⟨k,c,e,z⟩
  ·exact .inl l
  ·exact .inr ⟨k,c,e,cellK x c e _ z⟩
 ·obtain⟨v,z⟩:=I.cell x c e
  exact⟨v,cellK x c e v z⟩
 ·obtain⟨e,n,ne,nf,d⟩:=I.pin p hp
  refine⟨mv.keep p.1 p.2 (fun z=>(zi.mp (I.fO _ z)).elim ne nf) (fun z=>(hch p.1 z).2.2.2.1 p hp rfl) e,n,ne,nf,d⟩
 ·intro a o ha
  have kk:∀b u o',H b=some o'->s.heap.get? b=some u->h'.get? b=some u:=fun b u o' hb q=>mv.keep b u (fun z=>by rw[I.pW b z]at hb;cases hb) (fun z=>by rw[(hch b z).2.2.2.2]at hb;cases hb) q;refine(I.ax a o ha).jR (fun b u hb q=>?_) (fun _ q=>q) fun _ _ q=>q;rcases hb with rfl|hb
  ·exact kk _ u _ ha q
  ·exact kk b u _ hb q
end
theorem ji{P:Program}{w:World}{H:Hp}{h:Heap}{a:Addr}{o:HO}(x:bK P w H h a o):∃o,h.get? a=some o:=by
 cases o with
 |lst xs=>obtain⟨_,_,_,_,e⟩:=x;exact⟨_,e⟩
 |tup xs=>obtain⟨_,_,_,⟨_,e,_⟩,_⟩:=x;exact⟨_,e⟩
 |dK kvs=>obtain⟨_,_,_,_,o,_,_,e,_⟩:=x;exact⟨_,e⟩
 |dT kvs=>obtain⟨_,_,_,_,o,_,_,e,_⟩:=x;exact⟨_,e⟩
 |set S n=>obtain⟨o,_,_,_,e,_⟩:=x;exact⟨_,e⟩
 |ins C dx fs=>obtain⟨_,_,_,e,_⟩:=x;exact⟨_,e⟩
 |own y=>exact x
 |xd fs=>obtain⟨_,⟨_,_,_,e,_⟩,_⟩:=x;exact⟨_,e⟩
 |rng lo hi=>obtain⟨_,_,_,e⟩:=x;exact⟨_,e⟩
 |frz ob u=>exact⟨_,x.1⟩
 |tbl ps=>exact⟨_,show h.get? a=some _ from x⟩
 |met f y=>exact⟨_,show h.get? a=some _ from x⟩
 |ext φ=>exact x.2.1
noncomputable def eA(P:Program)(w:World):lG:=fun outer H s E x s'=>∃e T C H',x=.ref e/\s'.os=s.os/\AllBare s'.gens/\Un (dZ outer) [] H H' s.heap s'.heap/\cj P w H' s'.heap/\og e T (.ref C) s'.heap /\
 s.heap.get? e=none/\s.heap.get? T=none/\H' e=none/\H' T=none/\E (.ref C) none H'
section
variable {P:Program}{w:World}{K:Q_}{mg:Str->Option Value}{base:Heap}{N:List Str}{qual:Str}{scope:Scope}{f:Addr}{cd:Value}{A:Around}{outer:List Env}{s:Shared}{H:Hp}{E:XK}
theorem DI{pins:List (Addr×Obj)}{σ:L2.St}{H1:Hp}{s1:Shared}{h2:Heap}{e C:Addr}{vs:List Value}(I:Inv (eG (eA P w) P w K mg base N qual scope f cd A outer s H E) pins σ H1 s1)
  (md:Heap.MadeExcOf s1.heap h2 e (.ref C) vs) (hz:E (.ref C) none H1):(eG (eA P w) P w K mg base N qual scope f cd A outer s H E).xe (.ref e) { s1 with heap:=h2 }:=by
 have hI:=I;obtain⟨t,he,_,_⟩:=md.there;have ne:∀b o,s1.heap.get? b=some o->b≠e:=fun b o q z=>by rw[z,md.new]at q;cases q
 have hl:h2.FunFrames base (envOfC qual scope s.heap.objs.size f cd::outer):=(show s1.heap.FunFrames base (envOfC qual scope s.heap.objs.size f cd::outer) from I.stack).of_keeps fun b o hb _=>⟨o,md.keeps b o hb,rfl⟩;show wpAny (model P w) (A.deeper (envOfC qual scope s.heap.objs.size f cd)) (leaving (envOfC qual scope s.heap.objs.size f cd) (.ref e)) (fun _ s''=>eA P w outer H s E (.ref e) s'') (fun e' s''=>eA P w outer H s E e' s'') { s1 with heap:=h2 };refine vL (base:=base) (L:=s.heap.objs.size) I.ok.frames hl rfl he rfl rfl rfl fun h3 T hF hT mv=>?_;have Vj:Mv (dZ (eG (eA P w) P w K mg base N qual scope f cd A outer s H E).stack) [] s1.heap h3:=⟨fun b o hf _ q=>mv.keep b o hf (by simpa using ne b o q) (md.keeps b o q),fun b o _ q=>mv.slot b o (by simpa using ne b o q) (md.keeps b o q),fun b o q=>mv.there b o (md.keeps b o q)⟩;have I2:=jy (t':=s1.toks) (ch:=[]) I (fun _ z=>nomatch z) Vj;have o0:∀b,s1.heap.get? b=none->s.heap.get? b=none:=fun b q=>by
  cases z:s.heap.get? b with
  |none=>rfl
  |some o =>
   obtain⟨o',e'⟩:=I.base.there b o z (fun z'=>nomatch z');rw[q]at e';cases e'
 have QO:h2.get? T=none:=yh hT;have QQ:s1.heap.get? T=none:=by
  cases z:s1.heap.get? T with
  |none=>rfl
  |some o=>rw[md.keeps _ _ z]at QO;cases QO
 have hn:∀b,s1.heap.get? b=none->H1 b=none:=fun b q=>by
  cases z:H1 b with
  |none=>rfl
  |some u =>
   obtain⟨o,ho⟩:=ji (I.ax b u z);rw[q]at ho;cases ho
 exact⟨e,T,C,H1,rfl,I2.os,I2.bare,I2.base,I2.ax,hF,o0 e md.new,o0 T QQ,hn e md.new,hn T QQ,hz⟩
theorem DH{E':XK}(hE:∀C H',E' C none H'->E C none H'):Passes (eA P w) (eG (eA P w) P w K mg base N qual scope f cd A outer s H E) E':=by
 intro pins σ H1 s1 x s' I hq;obtain⟨e,T,C,H',rfl,os,bare,un,ax,NY,e0,T0,eH,TH,hz⟩:=hq;have I2:Inv (eG (eA P w) P w K mg base N qual scope f cd A outer s H E) pins σ H' s':=I.call' (ch:=[]) os un ax bare (fun b z=>absurd z (by simp));have o0:∀b,s1.heap.get? b=none->s.heap.get? b=none:=fun b q=>by
  cases z:s.heap.get? b with
  |none=>rfl
  |some o =>
   obtain⟨o',e'⟩:=I.base.there b o z (fun z'=>nomatch z');rw[q]at e';cases e'
 have new:∀b,s1.heap.get? b=none->H' b=none->s.heap.get? b=none/\b≠(envOfC qual scope s.heap.objs.size f cd).locals/\(∀x c,(envOfC qual scope s.heap.objs.size f cd).cells.lookup x=some c->c≠b)/\(∀q∈([]:List (Addr×Obj))++pins,q.1≠b)/\H' b=none:=fun b hb hn=>by
  refine⟨o0 b hb,?_,?_,?_,hn⟩
  ·intro z
   obtain⟨m,⟨o,_,_,ho,_⟩,_⟩:=I.loc;have ho:s1.heap.get? (envOfC qual scope s.heap.objs.size f cd).locals=some o:=ho;rw[<- z,hb]at ho;cases ho
  ·rintro x c hx rfl
   obtain⟨v,o,ho,_⟩:=I.cell x c hx;rw[hb]at ho;cases ho
  ·rintro q hq rfl
   rw[(I.pin q hq).1]at hb;cases hb
 show wpAny (model P w) (A.deeper (envOfC qual scope s.heap.objs.size f cd)) (leaving (envOfC qual scope s.heap.objs.size f cd) (.ref e)) (fun _ s''=>eA P w outer H s E (.ref e) s'') (fun e' s''=>eA P w outer H s E e' s'') s';unfold leaving;refine zz (ue (base:=base) (L:=s.heap.objs.size) I2.ok.frames (show s'.heap.FunFrames base (envOfC qual scope s.heap.objs.size f cd::outer) from I2.stack) rfl NY fun h3 T' CJ hT' MY=>?_);have I3:=jy (t':=s'.toks) (ch:=[e,T]) I2 (fun b hb=>by
  simp only[zi,zB,or_false]at hb;rcases hb with rfl|rfl
  ·exact new _ e0 eH
  ·exact new _ T0 TH) MY
 have EX:s'.heap.get? T'=none:=yh hT';have ET:s.heap.get? T'=none:=by
  cases z:s.heap.get? T' with
  |none=>rfl
  |some o =>
   obtain⟨o',e'⟩:=I2.base.there T' o z (fun z'=>nomatch z');rw[EX]at e';cases e'
 have NQ:H' T'=none:=by
  cases z:H' T' with
  |none=>rfl
  |some u =>
   obtain⟨o,ho⟩:=ji (I2.ax T' u z);rw[EX]at ho;cases ho
 exact⟨e,T',C,H',rfl,I3.os,I3.bare,I3.base,I3.ax,CJ,o0 e e0,ET,eH,NQ,hE _ _ hz⟩
end
end L3
namespace L3
open PySem PySem.Spec PyProof.Rows L2
noncomputable def LX(K:Q_)(Ze:Hp->Prop)(z:Ev->MH->Option MH):TS:=fun _ σ H=>∃ι ρ M M',aJ K ι M H/\bL K ι H ρ σ/\z ρ M=some M'/\∀H' ι',aJ K ι' M' H'->Ext K ι H ι' H'->Ze H'
section
variable {X:Cx}{E:Value->Shared->Prop}
theorem PS.dX{st:Stmt}{t:TS}(h:PS X.dX st t):PS X st t:=fun pins s σ H D I hw =>
 wpAny_mono (h pins s σ H D (I.dN _) hw) (fun _ _ q=>q.dF) fun _ _ z=>False.elim z
theorem PA.dX{es:List Expr}{t:TA}(h:PA X.dX es t):PA X es t:=fun pos pins s σ H Q I hw =>
 wpAny_mono (h pos pins s σ H Q (I.dN _) hw) (fun _ _ ⟨vs,H',I',r,q⟩=>⟨vs,H',I'.dF,r,q⟩) fun _ _ z=>False.elim z
theorem PS.or{st:Stmt}{t u:TS}(h1:PS X st t)(h2:PS X st u):PS X st (fun D σ H=>t D σ H\/u D σ H):=fun pins s σ H D I q=>q.elim (h1 pins s σ H D I) (h2 pins s σ H D I)
end
section
variable {K:Q_}{Ze:Hp->Prop}
theorem MV{o:Option (Out Fl×MH)}{ρ:Ev}{M:MH}(h:t4 o=some (ρ,M)):o=some (.ok (.nx ρ),M):=by
 unfold t4 at h;split at h
 ·cases h;rfl
 ·cases h
theorem LX.seq{fa:Ev->Mo Fl}{za zb:Ev->MH->Option MH}(D:Ends)(σ:St)(H:Hp)(h:LX K Ze (fun ρ M=>match t4 (fa ρ M) with
  |some (ρ',M1)=>zb ρ' M1
  |none=>za ρ M) D σ H):FY (fun D σ H=>LS K fa D σ H\/LX K Ze za D σ H) (LX K Ze zb) D σ H:=by
 obtain⟨ι,ρ,M,M',S,R,e,k⟩:=h;dsimp only at e;cases q:t4 (fa ρ M) with
 |none =>
  rw[q]at e;exact .inr ⟨ι,ρ,M,M',S,R,e,k⟩
 |some p =>
  obtain⟨ρ1,M1⟩:=p;rw[q]at e;refine .inl ⟨ι,ρ,M,.nx ρ1,M1,S,R,MV q,fun H1 ι1 S1 X1=>?_⟩;exact fun σ1 R1=>⟨ι1,ρ1,M1,M',S1,R1,e,fun H' ι' S' X'=>k H' ι' S' (X1.trans X')⟩
theorem LX.ifS{fc:Ev->Mo Bool}{za zb:Ev->MH->Option MH}(D:Ends)(σ:St)(H:Hp)(h:LX K Ze (fun ρ M=>match fc ρ M with
  |some (.ok k,M1)=>if k=true then za ρ M1 else zb ρ M1
  |_=>none) D σ H):F0 (LT K fc) (LX K Ze za) (LX K Ze zb) D σ H:=by
 obtain⟨ι,ρ,M,M',S,R,e,k⟩:=h;dsimp only at e;split at e
 ·rename_i b M1 q
  refine⟨ι,ρ,M,b,M1,S,R,q,fun H1 ι1 S1 X1=>?_⟩;cases b with
  |true=>exact⟨ι1,ρ,M1,M',S1,R.mono X1,e,fun H' ι' S' X'=>k H' ι' S' (X1.trans X')⟩
  |false=>exact⟨ι1,ρ,M1,M',S1,R.mono X1,e,fun H' ι' S' X'=>k H' ι' S' (X1.trans X')⟩
 ·cases e
noncomputable def iR(K:Q_)(n:Nat)(z:List D->MH->Option MH)(C:Addr):Sp:=fun vs H _ E=>vs.length=n/\∃ι M M' ds,aJ K ι M H/\aB K ι H ds vs/\z ds M=some M'/\∀H' ι',aJ K ι' M' H'->Ext K ι H ι' H'->E (.ref C) none H'
noncomputable abbrev EZ(Cu:Addr) (Ze:Hp->Prop):XK:=fun c _ H=>c=.ref Cu/\Ze H
theorem LX.call{fa:Ev->Mo (List D)}{z:List D->MH->Option MH}{j:Nat}{Cu:Addr}(hz:∀ds M M',z ds M=some M'->ds.length=j)(D:Ends)(σ:St)(H:Hp)(Q:VK)(h:LX K Ze (fun ρ M=>match fa ρ M with
  |some (.ok xs,M1)=>z xs M1
  |_=>none) D σ H):Bc (iR K j z Cu) [] (EZ Cu Ze) (LA K fa) σ H Q:=by
 obtain⟨ι,ρ,M,M',S,R,e,k⟩:=h;dsimp only at e;split at e
 ·rename_i xs M1 q
  refine⟨ι,ρ,M,xs,M1,S,R,q,fun vs H1 ι1 r1 S1 X1=>?_⟩;show iR K j z Cu (vs++[]) H1 Q (EZ Cu Ze);rw[zJ];exact⟨by rw[<- r1.length];exact hz _ _ _ e,ι1,M1,M',xs,S1,r1,e,fun H' ι' S' X'=>⟨rfl,k H' ι' S' (X1.trans X')⟩⟩
 ·cases e
theorem LX.mcl{fo:DE}{fa:Ev->Mo (List D)}{z:List D->MH->Option MH}{j C:Nat}{m:Str}{Cu:Addr}(hz:∀ds M M',z ds M=some M'->ds.length=j)(Dn:Ends)(σ:St)(H:Hp)(Q:VK)(h:LX K Ze (fun ρ M=>match (do let x<-fo ρ;gM C m x;let xs<-fa ρ;pure (x::xs):Mo (List D)) M with
  |some (.ok xs,M1)=>z xs M1
  |_=>none) Dn σ H):rW C m (iR K j z Cu) [] (EZ Cu Ze) (LE K fo) (LA K fa) σ H Q:=by
 obtain⟨ι,ρ,M,M',S,R,e,k⟩:=h;dsimp only at e;split at e
 ·rename_i xs M1 q
  have e0:=ae q;clear q;obtain⟨x,M2,e1,q⟩:=e0;refine⟨ι,ρ,M,x,M2,S,R,e1,fun v1 H1 ι1 r1 S1 X1=>?_⟩;have e0:=ae q;clear q;obtain⟨_,M3,e2,q⟩:=e0;cases x with
  |ob t =>
   obtain⟨rfl,fs,g',hl⟩:=uu e2;have e0:=ae q;clear q;obtain⟨ys,M4,e3,q⟩:=e0;have e0:=ah q;clear q;obtain⟨rfl,rfl⟩:=e0;obtain⟨a,dx,ws,rfl,_,ha,fr⟩:=iM S1 r1 g';refine⟨a,dx,ws,rfl,ha,fr.none hl,ι1,ρ,_,ys,_,S1,R.mono X1,e3,fun vs H2 ι2 r2 S2 X2=>?_⟩;show iR K j z Cu (V.ref a::(vs++[])) H2 Q (EZ Cu Ze);rw[zJ];have hl:=hz _ _ _ e;exact⟨by rw[zg,<- r2.length];exact hl,ι2,_,M',.ob t::ys,S2,.cons (r1.mono X2) r2,e,fun H' ι' S' X'=>⟨rfl,k H' ι' S' ((X1.trans X2).trans X')⟩⟩
  |_=>exact(ai e2).elim
 ·cases e
end
noncomputable def CP:IE->Bool
 |.call f _=>!(f==("standing_saying":Str))
 |.mcl _ m _=>!(m==("known_rota":Str))
 |_=>true
noncomputable def nG:IS->Bool
 |.rz=>false
 |.ifS _ _ _=>false
 |.expr e=>CP e
 |.set _ e=>CP e
 |_=>true
noncomputable def Bj:Expr->Bool
 |.Call f as ks _=>(match f with
  |.Attribute o m _=>m==("known_rota":Str)&&ks.isEmpty&&(et o).isSome&&!as.isEmpty
  |_=>false)
 |_=>false
noncomputable def Bk(e:Expr):Bool:=match gU e with
 |some (f,_,as,_)=>f==("standing_saying":Str)&&as.length==3
 |none=>false
noncomputable def Ib:List Expr->Expr->Bool
 |[.Name _ _],v=>Bk v
 |_,_=>false
mutual
noncomputable def FJ:Nat->Stmt->IS->Bool
 |0,_,_=>false
 |n+1,e,i=>match e with
  |.If _ a b _=>(match i with
   |.ifS _ x y=>eo n a x&&eo n b y
   |_=>false)
  |.Raise _ _ _=>true
  |.Expr e _=>Bj e||nG i
  |.Assign ts v _=>Ib ts v||nG i
  |_=>nG i
noncomputable def eo:Nat->List Stmt->aI->Bool
 |0,_,_=>false
 |n+1,e,i=>match e with
  |[]=>(match i with
   |.nil=>true
   |_=>false)
  |s::r=>(match i with
   |.cons a b=>FJ n s a&&eo n r b
   |_=>false)
end
theorem Hs{Γ:Ctx}{e:IE}(h:CP e=true)(ρ:Ev)(M:MH):nB Γ e ρ M=none:=by
 cases e <;> first
  |rfl
  | (rename_i f es
     have h:(!(f==_))=true:=h;rw[yf]at h;unfold nB;dsimp only;rw[h,if_neg zu])
  | (rename_i a m es
     have h:(!(m==("known_rota":Str)))=true:=h;rw[yf]at h;unfold nB;dsimp only;rw[h,if_neg zu])
theorem Kv{Γ:Ctx}{i:IS}(h:nG i=true)(ρ:Ev)(M:MH):mV Γ i ρ M=none:=by
 cases i <;> first|rfl|cases h|exact Hs h ρ M
section
variable {Γ:Ctx}{S:Sc}{X:Cx}{Ze:Hp->Prop}{Cu:Addr}(hE:∀n,Sound Γ n)(hsS:∀n,mi Γ n)(C:aL Γ S X.dX)(hf:∀x,X.fn x=true)
 (hr:∀(t:Str) (np cp cpos pos:Pos) (k:Nat),S.bA "Unknown" = true->PS X (.Raise (some (.Call (.Name "Unknown" np) [.Constant (.str t) k cp] [] cpos)) none pos) (fun _ _ H=>Ze H))
 (hx:Passes (eA X.prog X.w) X (EZ Cu Ze))
 (hM:∃(k:Nat) (fa:Addr) (fd:FuncData) (ps:List Str),Meth X.K Γ.hc "known_rota" fa/\Binds X.K fd ps []/\cf X.prog X.w X.K X.mg X.base (eA X.prog X.w) k fa fd ps (iR X.K ps.length (Γ.rz (av "known_rota")) Cu)/\bJ k X.A/\∀ds M M',Γ.rz (av "known_rota") ds M=some M'->ds.length=ps.length)
 (hF:∃(k:Nat) (fa:Addr) (fd:FuncData) (ps:List Str),X.mg "standing_saying" = some (.ref fa)/\Z0 X.K (.ref fa)=true/\Binds X.K fd ps []/\cf X.prog X.w X.K X.mg X.base (eA X.prog X.w) k fa fd ps (iR X.K ps.length (Γ.rz "standing_saying") Cu)/\bJ k X.A/\∀ds M M',Γ.rz "standing_saying" ds M=some M'->ds.length=ps.length)
include hE hsS C hf hr hx hM
include hF
omit hf hr hsS
 hF
 in
theorem J8{n:Nat}{e:Expr}{pos:Pos}{i:IS}(h:cS S n (.Expr e pos)=some i)(hz:Bj e=true):PS X (.Expr e pos) (LX X.K Ze (mV Γ i)):=by
 cases n with
 |zero=>cases h
 |succ n =>
  replace h:(if ip e then (do let y<-cE S n e;some (.expr y)) else none)=some i:=h;split at h
  ·rename_i hn
   obtain⟨y,h1,h⟩:=ak h;cases h;unfold Bj at hz;split at hz
   ·split at hz
    ·rename_i as ks p3 fx o m p2
     simp only[zx,beq_iff_eq,yc,yf]at hz;obtain⟨⟨⟨rfl,rfl⟩,ho⟩,ha⟩:=hz;cases n with
     |zero=>cases h1
     |succ n =>
      replace h1:ud (cE S n) (kn S n) o "known_rota" p2 p3 as=some y:=h1;obtain⟨q,hq⟩:=xF.mp ho;have e:=oH hq;subst e;unfold ud at h1;rw[hq]at h1;dsimp only at h1;split at h1
      ·rename_i hs
       rw[zx,decide_eq_true_eq]at hs;obtain⟨x,g1,h1⟩:=ak h1;obtain⟨xs,g2,h1⟩:=ak h1;cases h1;cases as with
       |nil=>cases ha
       |cons a as =>
        obtain⟨pa,pl⟩:=(hE n).Es _ _ _ _ C g2;have pl':=pl;rw[zL,zx]at pl;obtain⟨k,fa,fd,ps,m1,m2,m3,m4,m5⟩:=hM;refine PS.imp (mD (Ae (PE.dX ((hE n).E _ _ _ _ C g1)) C.cls m1 m3 m4 m2 .nil hx (PA.dX pa) (ay pl.1) (bH pl.2) (mH rfl pl' hs.2 hs.1)) (vW hn)) fun D σ H q=>?_;exact LX.mcl m5 D σ H _ q
      ·cases h1
    ·cases hz
   ·cases hz
  ·cases h
omit hf hr hsS hM in
theorem OZ{n:Nat}{v:Expr}{y:IE}(h:cE S n v=some y)(hz:Bk v=true):∃es,y=.call "standing_saying" es/\PE X v (fun σ H Q=>LX X.K Ze (fun ρ M=>match aR Γ es ρ M with
  |some (.ok xs,M1)=>Γ.rz "standing_saying" xs M1
  |_=>none) { nx:=fun _ _=>False,rt:=fun _ _=>False } σ H):=by
 unfold Bk at hz;split at hz
 ·rename_i f p as q hg
  simp only[zx,beq_iff_eq]at hz;obtain⟨rfl,ha⟩:=hz;have e:=mx hg;subst e;match as,ha with
  |[a,b,c],_ =>
   cases n with
   |zero=>cases h
   |succ n =>
    replace h:E3 S (cE S n) (kn S n) "standing_saying" [a,b,c]=some y:=h;unfold E3 at h;dsimp only at h;rw[if_neg (by decide),if_neg (by decide)]at h;unfold Ce newOk at h;rw[show (("standing_saying":Str)==("House":Str))=false from by decide]at h;simp only[xZ,yz,if_false]at h;replace h:tu S "standing_saying" (kn S n [a,b,c]) (pK S "standing_saying" 3 (kn S n [a,b,c]))=some y:=h;unfold tu Bo at h;rw[show (("standing_saying":Str)==("_law_unknown":Str))=false from by decide]at h;simp only[xZ,yz,if_false]at h;unfold pK at h;split at h
    ·rename_i hs
     rw[zx]at hs;split at h
     ·obtain⟨es,h1,rfl⟩:=zv.mp h
      refine⟨es,rfl,?_⟩;obtain⟨pa,pl⟩:=(hE n).Es _ _ _ _ C h1;rw[zL,zx]at pl;obtain⟨k,fa,fd,ps,m1,m2,m3,m4,m5,m6⟩:=hF;obtain⟨o1,o2,o3⟩:=aX hs.1;refine PE.imp (qa m4 m5 (C.bA hs.2) m1 m2 m3 .nil hx (PA.dX pa) o1 (ay pl.1) (bH pl.2)) fun σ H Q q=>?_;exact LX.call m6 _ σ H Q q
     ·split at h
      ·split at h
       ·rename_i hb
        rw[show C2 ("standing_saying":Str) 3=none from by decide]at hb;cases hb
       ·cases h
      ·cases h
    ·cases h
 ·cases hz
omit hr hsS hM in
theorem oy{n:Nat}{ts:List Expr}{v:Expr}{pos:Pos}{i:IS}(h:cS S n (.Assign ts v pos)=some i)(hz:Ib ts v=true):PS X (.Assign ts v pos) (LX X.K Ze (mV Γ i)):=by
 cases n with
 |zero=>cases h
 |succ n =>
  replace h:HC S n ts v=some i:=h;unfold Ib at hz;split at hz
  ·rename_i x p
   replace h:u4 S n x v=some i:=h;have hc:sf v=none:=by
    unfold Bk at hz;split at hz
    ·rename_i hg
     rw[mx hg];rfl
    ·cases hz
   unfold u4 at h;rw[hc]at h;dsimp only at h;split at h
   ·rename_i hl
    rw[zx]at hl;obtain⟨j,h1,h⟩:=ak h;obtain⟨y,h2,h⟩:=ak h;cases h;have hN:=slot_get h1;have en:X.N=S.N:=C.n;rw[<- en]at hN;obtain⟨es,rfl,pe⟩:=OZ hE C hx hF h2 hz;exact PS.imp (ik C.nd hN (C.loc hl.1) pe (vX hl.2) (.inl (hf x))) fun D σ H q=>q
   ·cases h
  ·cases hz
theorem vZ:∀n,(∀e i,cS S n e=some i->FJ n e i=true->PS X e (LX X.K Ze (mV Γ i)))/\(∀e i,dM S n e=some i->eo n e i=true->du X e (LX X.K Ze (cM Γ i)))
 |0=>⟨fun e i h _=>(by cases h),fun e i h _=>(by unfold dM at h;cases h)⟩
 |n+1=>by
  obtain⟨Vx,ihSs⟩:=vZ n;refine⟨fun e i h hz=>?_,fun e i h hz=>?_⟩
  ·have no:nG i=true->PS X e (LX X.K Ze (mV Γ i)):=fun hn pins s σ H D I q=>by
    obtain⟨ι,ρ,M,M',_,_,q,_⟩:=q;rw[Kv hn]at q;cases q
   cases e with
   |If c a b p =>
    replace h:(do let k<-cC S n c;let x<-dM S n a;let y<-dM S n b;some (.ifS k x y))=some i:=h;obtain⟨k,h0,h⟩:=ak h;obtain⟨x,h1,h⟩:=ak h;obtain⟨y,h2,h⟩:=ak h;cases h;replace hz:(eo n a x&&eo n b y)=true:=hz;rw[zx]at hz;exact PS.imp (Ig (PT.dX ((hE n).C _ _ _ _ C h0)) (ihSs _ _ h1 hz.1) (ihSs _ _ h2 hz.2)) LX.ifS
   |Expr e p =>
    replace hz:(Bj e||nG i)=true:=hz;rw[yW]at hz;rcases hz with hz|hz
    ·exact J8 hE C hx hM h hz
    ·exact no hz
   |Assign ts v p =>
    replace hz:(Ib ts v||nG i)=true:=hz;rw[yW]at hz;rcases hz with hz|hz
    ·exact oy hE C hf hx hF h hz
    ·exact no hz
   |Raise a b c =>
    replace h:some (DJ S a b)=some i:=h;cases h;unfold DJ at no ⊢;cases a with
    |none=>exact no rfl
    |some e =>
     cases b with
     |some _=>exact no rfl
     |none =>
      dsimp only at no ⊢;split
      ·rename_i hq
       unfold Qh at hq;split at hq
       ·rename_i f p as q hg
        rw[mx hg];simp only[zx,beq_iff_eq]at hq;obtain⟨⟨h1,h2⟩,h3⟩:=hq;subst h1;unfold MS at h3;split at h3
        ·rename_i a
         cases a <;> first|cases h3|skip
         rename_i cc kk pp;cases cc <;> first|cases h3|skip
         refine PS.imp (hr _ _ _ _ _ _ h2) fun D σ H q=>?_;obtain⟨ι,ρ,M,M',S',R,e',k⟩:=q;cases e';exact k H ι S' Ext.refl
        ·cases h3
       ·cases hq
      ·exact fun pins s σ H D I q=>by
        obtain⟨ι,ρ,M,M',_,_,q,_⟩:=q;cases q
   |_=>exact no hz
  ·unfold dM at h
   cases e with
   |nil =>
    cases h;intro pins s σ H D I q;obtain⟨ι,ρ,M,M',_,_,q,_⟩:=q;cases q
   |cons s r =>
    obtain⟨y,h2,h⟩:=ak h;cases h;replace hz:(FJ n s ((cS S n s).getD .halt)&&eo n r y)=true:=hz;rw[zx]at hz;have one:PS X s (LX X.K Ze (mV Γ ((cS S n s).getD .halt))):=by
     cases h1:cS S n s with
     |some x=>exact Vx _ _ h1 (by rw[h1]at hz;exact hz.1)
     |none =>
      intro pins s σ H D I q;obtain⟨ι,ρ,M,M',_,_,q,_⟩:=q;cases q
    exact du.imp (cm (PS.or (PS.dX (qN (hsS n) C hf)) one) (ihSs _ _ h2 hz.2)) LX.seq
end
end L3
namespace L3
open PySem PySem.Spec PyProof.Rows L2
noncomputable def gQ:List Value:=[.type "ValueError",.type "Exception",.type "BaseException",.type "object"]
noncomputable def eN:List Str:="__class__"::quietNames
noncomputable def ZC(h:Heap)(C:Addr)(bm:List Value):Prop:=∃N nm q bs hdct sn sub ab col dd k0 k1 k2 k3 k5 mN,h.get? C=some (excClassObj nm q C N bs bm hdct sn sub ab col dd k0 k1 k2 k3 k5 "ValueError.__new__")/\h.Ns N mN/\∀n∈eN,mN n=none
noncomputable def ZH(h:Heap)(C D:Addr):Prop:=ZC h C (.ref D::gQ)/\ZC h D gQ
noncomputable def ZB(h:Heap)(B:Addr):Prop:=∃o cd,h.get? B=some o/\o.cls=.type "type"/\o.data=.cls cd
noncomputable def ZE(h:Heap)(e C:Addr):Prop:=∃oe,h.get? e=some oe/\oe.cls=.ref C
theorem ZC.keeps{h h':Heap}{C:Addr}{bm:List Value}(z:ZC h C bm)(k:∀b o,h.get? b=some o->h'.get? b=some o):ZC h' C bm:=by
 obtain⟨N,nm,q,bs,hdct,sn,sub,ab,col,dd,k0,k1,k2,k3,k5,mN,h1,h2,h3⟩:=z;exact⟨N,nm,q,bs,hdct,sn,sub,ab,col,dd,k0,k1,k2,k3,k5,mN,k _ _ h1,h2.keeps k,h3⟩
theorem ZH.keeps{h h':Heap}{C D:Addr}(z:ZH h C D)(k:∀b o,h.get? b=some o->h'.get? b=some o):ZH h' C D:=⟨z.1.keeps k,z.2.keeps k⟩
theorem ZH.tail{h:Heap}{C D:Addr}(z:ZH h C D):OwnTailQ h gQ (.ref D::gQ):=by
 obtain⟨_,N,nm,q,bs,hdct,sn,sub,ab,col,dd,k0,k1,k2,k3,k5,mN,h1,h2,h3⟩:=z;exact .own h1 h2 (fun n hn=>h3 n (.tail _ hn)) .base
section
variable {prog:Program}{w:World}{A:Around}{E:Value->Shared->Prop}{h:Heap}{g:Array GenState}{d:Drawn}{t:Nat}{os:OsState}{e C D:Addr}
theorem lJ{M:Model}{Q:Value->Shared->Prop}{s:Shared}(x:ZE s.heap e C)(hq:Q (.ref C) s):wpAny M A (typeOf (.ref e)) Q E s:=by
 obtain⟨oe,he,hc⟩:=x;unfold typeOf;exact zz (wpAny_loadPart he (zt (hc▸hq)))
theorem rV{M:Model}{base:Value}{b:Bool}{Q:Bool->Shared->Prop}{s:Shared}(z:ZH s.heap C D)(hb:(Value.ref C::Value.ref D::gQ).contains base=b)(hq:Q b s):wpAny M A (isSubtype (.ref C) base) Q E s:=by
 obtain⟨⟨N,nm,q,bs,hdct,sn,sub,ab,col,dd,k0,k1,k2,k3,k5,mN,h1,_,_⟩,_⟩:=z;obtain⟨hh,g,d,t,os⟩:=s;exact wpAny_isSubtype_exc h1 (hb▸hq)
theorem sr{M:Model}{n:Str}{y:Option Value}{Q:Option Value->Shared->Prop}{s:Shared}(z:ZH s.heap C D)(hn:n∈eN)(hB:typeLookup (.type "ValueError") n=pure y)(hq:Q y s):wpAny M A (typeLookup (.ref C) n) Q E s:=by
 obtain⟨⟨N,nm,q,bs,hdct,sn,sub,ab,col,dd,k0,k1,k2,k3,k5,mN,h1,h2,h3⟩,⟨N',nm',q',bs',hdct',sn',sub',ab',col',dd',k0',k1',k2',k3',k5',mN',h1',h2',h3'⟩⟩:=z;have Pw:lookupAlong gQ n=pure y:=by rw[typeLookup_eq,F.excBase_ValueError.mroIs]at hB;exact hB
 obtain⟨hh,g,d,t,os⟩:=s;rw[typeLookup_eq];refine zz (wpAny_mroOf_exc h1 ?_);rw[lookupAlong_cons];refine zz (wpAny_classOwn_exc h1 h2 ?_);rw[h3 n hn];show wpAny M A (lookupAlong (Value.ref D::gQ) n) Q E _;rw[lookupAlong_cons];refine zz (wpAny_classOwn_exc h1' h2' ?_);rw[h3' n hn];show wpAny M A (lookupAlong gQ n) Q E _;rw[Pw];exact zt hq
theorem sy{M:Model}{Q:Bool->Shared->Prop}{s:Shared}{B:Addr}(z:ZB s.heap B)(hq:Q true s):wpAny M A (isType (.ref B)) Q E s:=by
 obtain⟨⟨oc,od,da,sl⟩,cd,h1,h2,h3⟩:=z;cases h3;unfold isType loadHead;exact zz (wpAny_loadPart h1 (zt hq))
theorem JK{M:Model}{Q:Value->Shared->Prop}{s:Shared}{B:Addr}(z:ZB s.heap B)(hq:Q (.type "type") s):wpAny M A (typeOf (.ref B)) Q E s:=by
 obtain⟨o,cd,h1,h2,h3⟩:=z;unfold typeOf;exact zz (wpAny_loadPart h1 (zt (h2▸hq)))
theorem ZC.cls{h:Heap}{C:Addr}{bm:List Value}(z:ZC h C bm):ZB h C:=by
 obtain⟨N,nm,q,bs,hdct,sn,sub,ab,col,dd,k0,k1,k2,k3,k5,mN,h1,_,_⟩:=z;exact⟨_,_,h1,rfl,rfl⟩
theorem AV:typeLookup (.type "ValueError") "__class__" = pure (some (.builtin "object.__class__")):=by rw[typeLookup_type,builtinLookup_eq_fast];kernel_rfl
theorem vh{R:Result->Shared->Prop}(x:ZE h e C)(z:ZH h C D)(hq:R (.ok (.ret (.ref C))) ⟨h,g,d,t,os⟩) :
  codeAny (model prog w) A (.call (.builtin "getset_descriptor.__get__") ⟨[.builtin "object.__class__",.ref e,.ref C],[]⟩) R ⟨h,g,d,t,os⟩:=by
 obtain⟨oe,hx,hc⟩:=x;have QP:(⟨h,g,d,t,os⟩:Shared).TypeIs (.builtin "object.__class__") "getset_descriptor":=F.typeOf_object_class;have NN:(Value.ref C::Value.ref D::gQ).contains (.type (".".intercalate ("object.__class__".cutAt '.').dropLast))=true:=by
  rw[F.owner_object_class];rfl
 refine codeAny_call_builtin F.slot_gs_get.plain F.entry_gs_get (F.slot_gs_get.check _ _ _ _ _ _ _ _ QP (F.args_gs_get _ _ _) ?_)
 repeat (any_goals (first|assumption|(with_reducible refine wpAny_loadPart_at hx ?_;rw[hc])|with_reducible refine rV z NN ?_|wp_step))
 refine⟨Code.quiet_builtin _ (by decide +kernel),codeAny_builtin F.entry_object_class ?_⟩
 repeat (any_goals (first|assumption|(with_reducible refine wpAny_loadPart_at hx ?_;rw[hc])|wp_step))
theorem rK{tk:Tok}{Q:Fin->Shared->Prop}(x:ZE h e C)(z:ZH h C D)(hq:Q (.done (.ret (.ref C))) ⟨h,g,d,t,os⟩) :
  wpAny (model prog w) A (Builtin.«object.__getattribute__» ⟨[.ref e,.str "__class__" tk],[]⟩) Q E ⟨h,g,d,t,os⟩:=by
 have x0:=x;obtain⟨oe,hx,hc⟩:=x;have QP:(⟨h,g,d,t,os⟩:Shared).TypeIs (.builtin "object.__class__") "getset_descriptor":=F.typeOf_object_class;have f5:=F.typeOf_object_class;have f6:=F.slot_gs_get.lookup;have f7:=F.slot_gs_set.lookup;have hm:("__class__":Str)∈eN:=.head _
 repeat (any_goals (first|assumption|(with_reducible refine wpAny_loadPart_at hx ?_;rw[hc])|with_reducible refine sr z hm AV ?_|wp_step))
 refine vh x0 z ?_
 repeat (any_goals (first|assumption|wp_step))
theorem sA{tk:Tok}{R:Result->Shared->Prop}(x:ZE h e C)(z:ZH h C D)(hq:R (.ok (.ret (.ref C))) ⟨h,g,d,t,os⟩) :
  codeAny (model prog w) A (.call (.builtin "BaseException.__getattribute__") ⟨[.ref e,.str "__class__" tk],[]⟩) R ⟨h,g,d,t,os⟩:=by
 obtain⟨oe,hx,hc⟩:=id x;obtain⟨N,nm,q,bs,hdct,sn,sub,ab,col,dd,k0,k1,k2,k3,k5,mN,h1,_,_⟩:=z.1;exact codeAny_call_builtin F.attrBase_ValueError.ga.plain F.entry_bexc_ga (wpAny_check_ga_own F.attrBase_ValueError h1 z.tail hx hc (rK x z hq))
theorem AY{tk:Tok}{fill expr:Bool}{Q:Value->Shared->Prop}(x:ZE h e C)(z:ZH h C D)(hq:Q (.ref C) ⟨h,g,d,t,os⟩) :
  wpAny (model prog w) A (getAttrBy (.ref e) (.str "__class__" tk) fill expr) Q E ⟨h,g,d,t,os⟩:=by
 have x0:=x;obtain⟨oe,hx,hc⟩:=x;have f3:=F.attrBase_ValueError.ga.bind (.ref e);have YB:(expr&&onTheHeap (Value.builtin "BaseException.__getattribute__"))=false:=by cases expr <;> rfl
 have VC:(Value.builtin "BaseException.__getattribute__"==Value.builtin "object.__getattribute__")=false:=by decide +kernel
 have YA:(onTheHeap (Value.ref C)&&Value.builtin "BaseException.__getattribute__"==Value.builtin "object.__getattribute__")=false:=by rw[VC];rfl
 have VR:("__getattribute__":Str)∈eN:=.tail _ (.tail _ (.head _));have VQ:("__getattr__":Str)∈eN:=.tail _ (.tail _ (.tail _ (.head _)))
 repeat (any_goals (first|assumption|(with_reducible refine wpAny_loadPart_at hx ?_;rw[hc])|with_reducible refine sr z VR F.attrBase_ValueError.ga.lookup ?_|with_reducible refine sr z VQ F.attrBase_ValueError.noGetattr ?_|wp_step))
 refine sA x0 z ?_
 repeat (any_goals (first|assumption|wp_step))
theorem sC{Q:Option Value->Shared->Prop}(x:ZE h e C)(z:ZH h C D)(hq:Q (some (.ref C)) ⟨h,g,d,t+1,os⟩):wpAny (model prog w) A (getAttr? (.ref e) "__class__") Q E ⟨h,g,d,t,os⟩:=by
 unfold getAttr? getAttrBy?
 repeat (any_goals (first|assumption|with_reducible apply AY x z|wp_step))
theorem AW{dep:Int}{tk:Tok}{Q:Fin->Shared->Prop}{s:Shared}(x:ZE s.heap e C)(hq:Q (.done (.ret (.bool true))) s):wpAny (model prog w) A (Builtin.«isinstance.nested» ⟨[.ref e,.ref C,.int dep tk],[]⟩) Q E s:=by
 unfold Builtin.«isinstance.nested»;refine zz (lJ x ?_);rw[if_pos (beq_self_eq_true _)];exact zz (wpAny_rule (zz (zt (zt hq))))
theorem AX{dep:Int}{tk:Tok}{Q:Fin->Shared->Prop}{s:Shared}(x:ZE s.heap e C)(z:ZH s.heap C D)(hq:Q (.done (.ret (.bool true))) s):wpAny (model prog w) A (Builtin.«isinstance.nested» ⟨[.ref e,.type "ValueError",.int dep tk],[]⟩) Q E s:=by
 unfold Builtin.«isinstance.nested»;refine zz (lJ x ?_);rw[if_neg (by intro q;cases beq_iff_eq.mp q)];refine zz (wpAny_of_eq (show typeOf (.type "ValueError")=pure (.type "type") from by kernel_rfl) ?_);rw[if_pos (by decide)]
 k_delta "plainIsInstance"
 refine zz (zz (wpAny_of_eq (show isType (.type "ValueError")=pure true from rfl) ?_));simp only[xp,yz,if_false];unfold isInstance;refine zz (zz (lJ x (rV z (b:=true) rfl ?_)));simp only[if_true];exact zt (zz (zt (zt hq)))
theorem qB{B:Addr}{dep:Int}{tk:Tok}{Q:Fin->Shared->Prop}{s:Shared}(x:ZE s.heap e C)(z:ZH s.heap C D)(y:ZB s.heap B)(n1:B≠C)(n2:B≠D)(hq:Q (.done (.ret (.bool false))) { s with toks:=s.toks+1 }) :
  wpAny (model prog w) A (Builtin.«isinstance.nested» ⟨[.ref e,.ref B,.int dep tk],[]⟩) Q E s:=by
 have hb:(Value.ref C::Value.ref D::gQ).contains (.ref B)=false:=by
  rw[<- Bool.not_eq_true,List.contains_iff_mem];intro hm;rcases zi.mp hm with q|hm
  ·exact n1 (Value.ref.inj q)
  rcases zi.mp hm with q|hm
  ·exact n2 (Value.ref.inj q)
  ·unfold gQ at hm
   simp at hm
 unfold Builtin.«isinstance.nested»;refine zz (lJ x ?_);rw[if_neg (fun q=>n1 (Value.ref.inj (beq_iff_eq.mp q)).symm)];refine zz (JK y ?_);rw[if_pos (by decide)]
 k_delta "plainIsInstance"
 refine zz (zz (sy y ?_));simp only[xp,yz,if_false];unfold isInstance;refine zz (zz (lJ x (rV z hb ?_)));simp only[yz,if_false];obtain⟨hh,g,d,t,os⟩:=s;refine zz (sC x z ?_);refine zz (sy z.1.cls ?_);simp only[xp,yz,if_false];refine zz (wpAny_rule ?_);refine rV z hb ?_;exact zz (zt (zt hq))
end
end L3
namespace L3
open PySem PySem.Spec PyProof.Rows L2
noncomputable def pS:List Str:=["BadLine","BadTree","BadWord","NoPlace","Late","NoStretch","Twice"]
structure ZK (K:Q_) (mg:Str->Option Value) (C D:Addr):Prop where
 np:mg "Unknown" = some (.ref C)
 he:mg "HouseError" = some (.ref D)
 zh:∀h:Heap,K.In h->ZH h C D
 ot:∀x∈pS,∃B,mg x=some (.ref B)/\B≠C/\B≠D/\∀h:Heap,K.In h->ZB h B
section
variable {X:Cx}{C D:Addr}{Ze:Hp->Prop}
theorem Gb(Z:ZK X.K X.mg C D)(hg:Gl X "Unknown")(hc:X.calm=true)
  (hx:∀(pins:List (Addr×Obj)) (σ:St) (H:Hp) (s:Shared) (h':Heap) (e:Addr) (vs:List Value),Inv X pins σ H s->Ze H->Heap.MadeExcOf s.heap h' e (.ref C) vs->X.xe (.ref e) { s with heap:=h' })
  (t:Str) (np cp cpos pos:Pos) (k:Nat):PS X (.Raise (some (.Call (.Name "Unknown" np) [.Constant (.str t) k cp] [] cpos)) none pos) (fun _ _ H=>Ze H):=by
 intro pins s σ H D' I hz;have z:=Z.zh _ I.dY;obtain⟨N,nm,q,bs,hdct,sn,sub,ab,col,dd,k0,k1,k2,k3,k5,mN,h1,h2,h3⟩:=z.1;refine wpAny_Raise_call_subT (C:=C) (nm:=nm) (q:=q) (N:=N) (bs:=bs) (bm:=.ref D::gQ) (hdct:=hdct) (sn:=sn) (sub:=sub) (ab:=ab) (col:=col) (dd:=dd) (k0:=k0) (k1:=k1) (k2:=k2) (k3:=k3) (k5:=k5)
  F.excBase_ValueError (mN:=mN) (by rfl) (I.ok.hd hc) (by rfl) (h3 _ (.tail _ (.head _))) (iN I hg Z.np ⟨rfl,?_⟩)
 have st:starEach [Expr.Constant (.str t) k cp] X.env=(false,eval (Expr.Constant (.str t) k cp) X.env)::starEach [] X.env:=by rfl
 rw[st];refine Calls.evalArgs_plain (Calls.spliced_cons ?_);show wpAny _ _ (eval (.Constant (.str t) k cp) X.env) _ _ _;refine Calls.Constant_str (Calls.spliced_nil ⟨rfl,by show 1<=zq;decide,h1,h2,z.tail.tail,fun h' e md=>?_⟩);exact hx pins σ H _ h' e _ (I.tok _) hz md
end
section
variable {M:Model}{A:Around}{E:Value->Shared->Prop}{h:Heap}{g:Array GenState}{d:Drawn}{t:Nat}{os:OsState}{e C D:Addr}
theorem JL{Q:Bool->Shared->Prop}{s:Shared}(x:ZE s.heap e C)(z:ZH s.heap C D)(hq:Q true s):wpAny M A (excMatches (.ref e) (.ref D)) Q E s:=by
 obtain⟨⟨N,nm,q,bs,hdct,sn,sub,ab,col,dd,k0,k1,k2,k3,k5,mN,h1,_,_⟩,⟨N',nm',q',bs',hdct',sn',sub',ab',col',dd',k0',k1',k2',k3',k5',mN',h1',h2',h3'⟩⟩:=z;obtain⟨oe,he,fZ⟩:=x;obtain⟨h,g,d,t,os⟩:=s;have NN:(Value.ref D::gQ).contains (.type "BaseException")=true:=rfl;have V7:(Value.ref C::Value.ref D::gQ).contains (.ref D)=true:=by simp
 have f:=tc_notTuple;unfold excMatches
 repeat (first|(with_reducible refine wpAny_loadPart_at he ?_;rw[fZ])|with_reducible refine wpAny_loadPart_at h1' ?_|(with_reducible refine wpAny_isSubtype_exc h1' ?_;rw[NN])|(with_reducible refine wpAny_isSubtype_exc h1 ?_;rw[V7])|wp_step)
 exact hq
end
section
variable {X:Cx}{C D e:Addr}{oe:Obj}
theorem vi(hp:(e,oe)∈X.pn)(hc:oe.cls=.ref C):cI X (.builtin "isinstance") (fun xs H Q=>xs=[.ref e,.ref C]/\Q (.bl true) H):=by
 intro pins s σ H xs us Q I r ⟨ex,q⟩;subst ex;cases r with
 |cons r1 r =>
 cases r with
 |cons r2 r =>
 cases r;cases r1;cases r2;have x:ZE s.heap e C:=⟨oe,(I.pin _ (zQ _ hp)).1,hc⟩;refine call_isinstance (S:=fun _ R s=>ZE s.heap e C/\R (.ok (.ret (.bool true))) s) (fun _ _ _ _ _ hs=>isinstance_outer (AW hs.1 hs.2) (by intro q;cases q)) ⟨x,?_⟩;exact⟨.bl true,H,I,rfl,q⟩
theorem vk(Z:ZK X.K X.mg C D)(hp:(e,oe)∈X.pn)(hc:oe.cls=.ref C):cI X (.builtin "isinstance") (fun xs H Q=>xs=[.ref e,.ty "ValueError"]/\Q (.bl true) H):=by
 intro pins s σ H xs us Q I r ⟨ex,q⟩;subst ex;cases r with
 |cons r1 r =>
 cases r with
 |cons r2 r =>
 cases r;cases r1;cases r2;have x:ZE s.heap e C:=⟨oe,(I.pin _ (zQ _ hp)).1,hc⟩;refine call_isinstance (S:=fun _ R s=>(ZE s.heap e C/\ZH s.heap C D)/\R (.ok (.ret (.bool true))) s) (fun _ _ _ _ _ hs=>isinstance_outer (AX hs.1.1 hs.1.2 hs.2) (by intro q;cases q)) ⟨⟨x,Z.zh _ I.dY⟩,?_⟩;exact⟨.bl true,H,I,rfl,q⟩
end
end L3
namespace L3
open PySem PySem.Spec PyProof.Rows L2
theorem qC{h:Heap}{e C D:Addr}(x:ZE h e C)(z:ZH h C D):∀cs:List Value,(∀c∈cs,∃B,c=.ref B/\B≠C/\B≠D/\ZB h B)->AnswersAll (fun s=>s.heap=h) (.ref e) cs (cs.map fun _=>false)
 |[],_=>trivial
 |c::cs,hc=>by
  obtain⟨B,rfl,n1,n2,y⟩:=hc c (.head _);refine⟨fun dep tk=>?_,qC x z cs fun c hm=>hc c (.tail _ hm)⟩;intro prog w A R s hs;obtain⟨e1,hq⟩:=hs;subst e1;exact qB x z y n1 n2 (hq _)
theorem Ds{prog:Program}{w:World}{A:Around}{E:Value->Shared->Prop}{e C D tp:Addr}{n:Nat}{cs:List Value}{s:Shared}{Q:Fin->Shared->Prop}(x:ZE s.heap e C)(z:ZH s.heap C D)
  (IQ:s.heap.get? tp=some { cls:=.type "tuple",data:=.seq cs.toArray n }) (hc:∀c∈cs,∃B,c=.ref B/\B≠C/\B≠D/\ZB s.heap B) (hq:∀tk',Q (.done (.ret (.bool false))) { s with toks:=tk' }) :
  wpAny (model prog w) A (Builtin.«isinstance.nested» ⟨[.ref e,.ref tp,rawInt 0],[]⟩) Q E s:=by
 have ha:=qC x z cs hc;obtain⟨oe,he,fZ⟩:=x;obtain⟨h,g,d,t,os⟩:=s;have iE:(Value.ref C==Value.ref tp)=false:=beq_eq_false_iff_ne.mpr fun q=>by
  cases q;obtain⟨_,_,h1,h2,h3⟩:=z.1.cls;rw[IQ]at h1;cases h1;cases h3
 have Wg:(⟨h,g,d,t,os⟩:Shared).TypeIs (.ref tp) "tuple":=⟨_,IQ,rfl⟩;have f1:=F.isi_sub_tuple;have hv:(cs.map fun _=>false).any id=false:=by simp
 repeat (any_goals (first|assumption|(with_reducible refine wpAny_loadPart_at he ?_;rw[fZ])|wp_step))
 refine wpAny_arrayLoop ?_;simp only[yL,ww];refine isinstance_items (dep:=0) (fun _ tk h=>h) cs _ _ _ ha rfl fun tk'=>?_;rw[hv];simp only[yz,if_false]
 repeat (any_goals (first|assumption|wp_step))
 exact hq tk'
section
variable {X:Cx}{C D e:Addr}{oe:Obj}
theorem AZ(Z:ZK X.K X.mg C D)(hp:(e,oe)∈X.pn)(hc:oe.cls=.ref C):cI X (.builtin "isinstance") (fun xs H Q=>∃p vs,xs=[.ref e,.ref p]/\H p=some (.tup vs)/\(∀v∈vs,∃B,v=.ref B/\B≠C/\B≠D/\∀h:Heap,X.K.In h->ZB h B)/\Q (.bl false) H):=by
 intro pins s σ H xs us Q I r ⟨p,vs,ex,hh,hv,q⟩;subst ex;obtain⟨_,_,rfl,r1,r2⟩:=vals2 r;cases r1;cases r2;have x:ZE s.heap e C:=⟨oe,(I.pin _ (zQ _ hp)).1,hc⟩;obtain⟨_,its,rt,⟨o,ho,EF,n,hd⟩,hs⟩:=I.ax p _ hh;obtain⟨lX,gN⟩:=hs o ho;obtain⟨c,WJ,dat,sl⟩:=o;simp only at EF hd lX gN;subst EF hd lX gN;have hits:∀{vs:List V} {its:List Value},Vals vs its->(∀v∈vs,∃B,v=.ref B/\B≠C/\B≠D/\∀h:Heap,X.K.In h->ZB h B)->∀c∈its,∃B,c=.ref B/\B≠C/\B≠D/\ZB s.heap B:=by
  intro vs its r;induction r with
  |nil=>intro _ c hc;cases hc
  |cons r1 _ ih =>
   intro hv c hc;rcases zi.mp hc with rfl|hc
   ·obtain⟨B,rfl,n1,n2,y⟩:=hv _ (.head _)
    cases r1;exact⟨B,rfl,n1,n2,y _ I.dY⟩
   ·exact ih (fun v hm=>hv v (.tail _ hm)) c hc
 refine call_isinstance (S:=fun _ R s'=>s'.heap=s.heap/\∀tk,R (.ok (.ret (.bool false))) { s' with toks:=tk })
  (fun _ _ _ _ s' hs=>isinstance_outer (Ds (s:=s') (hs.1▸x) (hs.1▸Z.zh _ I.dY) (hs.1▸ho) (hs.1▸hits rt hv) hs.2) (by intro q;cases q)) ⟨rfl,fun tk=>?_⟩
 exact⟨.bl false,H,I.tok _,rfl,q⟩
theorem sD(Z:ZK X.K X.mg C D)(hp:(e,oe)∈X.pn)(hc:oe.cls=.ref C){B:Addr}(n1:B≠C)(n2:B≠D)(hB:∀h:Heap,X.K.In h->ZB h B):cI X (.builtin "isinstance") (fun xs H Q=>xs=[.ref e,.ref B]/\Q (.bl false) H):=by
 intro pins s σ H xs us Q I r ⟨ex,q⟩;subst ex;cases r with
 |cons r1 r =>
 cases r with
 |cons r2 r =>
 cases r;cases r1;cases r2;have x:ZE s.heap e C:=⟨oe,(I.pin _ (zQ _ hp)).1,hc⟩;refine call_isinstance (S:=fun _ R s=>(ZE s.heap e C/\ZH s.heap C D/\ZB s.heap B)/\R (.ok (.ret (.bool false))) { s with toks:=s.toks+1 }) (fun _ _ _ _ _ hs=>isinstance_outer (qB hs.1.1 hs.1.2.1 hs.1.2.2 n1 n2 hs.2) (by intro q;cases q)) ⟨⟨x,Z.zh _ I.dY,hB _ I.dY⟩,?_⟩;exact⟨.bl false,H,I.tok _,rfl,q⟩
end
end L3
namespace L3
open PySem PySem.Spec PyProof.Rows L2
section
variable {P:Program}{w:World}{K:Q_}{mg:Str->Option Value}{base:Heap}
theorem rh{ι:List Addr}{H:Hp}{ds:List D}{vs:List V}{N:List Str}(r:aB K ι H ds vs):bL K ι H (ds.map some++zM (N.length-ds.length) none) (start N vs) where
 len:=by
  unfold L2.start;rw[ze,ze,zl,zl,yt,yt,r.length]
 val:=fun i d e=>by
  unfold L2.start;by_cases hi:i<ds.length
  ·rw[zG (by rw[zl];exact hi),zA]at e
   rw[zG (by rw[zl,<- r.length];exact hi),zA];cases q:ds[i]? with
   |none=>rw[q]at e;cases e
   |some d' =>
    rw[q]at e;cases e;obtain⟨v,hv,rv⟩:=r.get q;exact⟨v,by rw[hv];rfl,rv⟩
  ·rw[zc (by rw[zl];omega),yZ]at e
   split at e <;> cases e
noncomputable def JC(P:Program)(w:World)(K:Q_)(mg:Str->Option Value)(base:Heap)(Γ:Ctx)(Cu:Addr)(k:Nat)(m:Str):Prop:=∃(fa:Addr) (fd:FuncData) (ps:List Str),Meth K Γ.hc m fa/\Binds K fd ps []/\cf P w K mg base (eA P w) k fa fd ps (iR K ps.length (Γ.rz (av m)) Cu)/\∀ds M M',Γ.rz (av m) ds M=some M'->ds.length=ps.length
noncomputable def Q9(P:Program)(w:World)(K:Q_)(mg:Str->Option Value)(base:Heap)(Γ:Ctx)(Cu:Addr)(k:Nat)(f:Str):Prop:=∃(fa:Addr) (fd:FuncData) (ps:List Str),mg f=some (.ref fa)/\Z0 K (.ref fa)=true/\Binds K fd ps []/\cf P w K mg base (eA P w) k fa fd ps (iR K ps.length (Γ.rz f) Cu)/\∀ds M M',Γ.rz f ds M=some M'->ds.length=ps.length
theorem DQ{Γ:Ctx}{nm x:Str}{st:Stmt}{fa Cu D:Addr}{fd:FuncData}{N ps fns gls bu:List Str}{b:aI}{k kk:Nat}(F:eL K nm x st fa fd)(hS:cq N ps (aq st))(hc:dM ⟨aq st,N,fns,gls,bu⟩ 200 (aM st)=some b)
  (hz:eo 200 (aM st) b=true) (Z:ZK K mg Cu D) (hE:∀n,Sound Γ n) (hk:kk<=k)
  (hC:∀(cdv:Value) (A:Around) (outer:List Env) (s:Shared) (H:Hp) (E:XK),bJ k (A.deeper (envOfC x (aq st) s.heap.objs.size fa cdv))->aL Γ ⟨aq st,N,fns,gls,bu⟩ (eG (eA P w) P w K mg base N x (aq st) fa cdv A outer s H E).dX)
  (hM:JC P w K mg base Γ Cu kk "known_rota")
  (hF:Q9 P w K mg base Γ Cu kk "standing_saying")
  : cf P w K mg base (eA P w) (k+1) fa fd ps (iR K ps.length (fun ds M=>if ds.length=ps.length then cM Γ b (ds.map some++zM (N.length-ds.length) none) M else none) Cu):=by
 obtain⟨oc,od,kV,doc,pm,an,cdv,ct,iW,rfl,lk,kj⟩:=F.ex;refine Jq lk kj hS (fun vs H Q E h=>h.1) fun A outer s H vs Q E hr h=>?_;obtain⟨hl,ι,M,M',ds,S,r,e,kk'⟩:=h;have C1:=hC cdv A outer s H E hr;dsimp only at e;split at e
 ·refine⟨_,(vZ (Ze:=fun H'=>E (.ref Cu) none H') (Cu:=Cu) hE (ou hE) C1 (fun _=>rfl) (fun t np cp cpos pos k hg=>Gb (X:=eG (eA P w) P w K mg base N x (aq st) fa cdv A outer s H E) Z (show Gl _ _ from C1.bA hg) rfl (fun pins σ H1 s1 h2 e vs I z md=>DI I md z) t np cp cpos pos k)
   (DH fun c H' z=>by rw[z.1];exact z.2) (let ⟨a,b,c,d,e,f,g⟩:=hM;⟨kk,a,b,c,d,e,f,hr.mono hk,g⟩)
   (let ⟨a,b,c,d,e,f,g,h⟩:=hF;⟨kk,a,b,c,d,e,f,g,hr.mono hk,h⟩)
   200).2 _ _ hc hz,?_⟩
  exact⟨ι,_,M,M',S,rh (N:=N) r,e,kk'⟩
 ·cases e
end
end L3
namespace L3
open PySem PySem.Spec PyProof.Rows L2
theorem rQ:entryFor table "proto.unchain" = some Builtin.«proto.unchain»:=entryFor_of_fast (by kernel_rfl)
theorem rO:plainId "proto.unchain" = true:=by decide +kernel
section
variable {prog:Program}{w:World}{A:Around}{E:Value->Shared->Prop}{s:Shared}
theorem Bv{α:Type}{a e:Addr}{o oe:Obj}{us vs:Array Value}{Q:α->Shared->Prop}(hh:A.handled=some (.ref e))(ho:s.heap.get? a=some o)(QA:o.data=.fields us)(VD:2<us.size)(he:s.heap.get? e=some oe)(hd:oe.data=.fields vs)(h2:vs[2]?=some .none)(ne:e≠a)
  (hE:∀h',Heap.SameBut a s.heap h'->(∃o',h'.get? a=some o'/\o'.cls=o.cls)->E (.ref a) { s with heap:=h' }):wpAny (model prog w) A (raiseNew (α:=α) (.ref a)) Q E s:=by
 unfold raiseNew;refine zz (wpAny_handled ?_);rw[hh];dsimp only;rw[if_pos (by simpa using ne)];refine zz (wpAny_holding (wpAny_runValue (codeAny_builtin rQ ?_)));rw[Around.under_plainId rO _];unfold Builtin.«proto.unchain»;dsimp only;refine zz (wpAny_field he hd h2 ?_);rw[if_pos (by rfl)];refine zz (zt (zt ?_));refine zz ?_;unfold updateField;refine zz (wpAny_load ho ?_);rw[QA];dsimp only;rw[if_pos VD];refine wpAny_update ho ?_;refine wpAny_throw (hE _ (Heap.SameBut.update ..) ⟨_,yr _ ho (Obj.isFreed_of_fields (Obj.data_mapFields QA _)),Obj.cls_mapFields ..⟩)
theorem p0{it e:Addr}{oe:Obj}{vs:Array Value}{x left step:Int}{Q:Option Value->Shared->Prop}(hh:A.handled=some (.ref e))(he:s.heap.get? e=some oe)(hd:oe.data=.fields vs)(h2:vs[2]?=some .none)(hit:IsRangeIter s.heap it x left step)(Py:left<=0)
  (hQ:∀h',Heap.ExtBut it s.heap h'->Q none { s with heap:=h' }):wpAny (model prog w) A (pyNext (.ref it)) Q E s:=by
 have hT:s.TypeIs (.ref it) "range_iterator":=⟨_,hit,rfl⟩;unfold pyNext;refine zz (wpAny_attempt (wpAny_callSpecial?_slot (name:=Str.ofString "__next__") hT PySem.F.slot_range_iterator_next
  (wpAny_call_entry PySem.F.slot_range_iterator_next hT PySem.F.entry_range_iterator_next ?_ (PySem.F.args_range_iterator_next_1 _))))
 show wpAny _ _ (field (.ref it) 0 >>= _) _ _ s;refine zz (wpAny_field hit rfl (x:=rawInt x) rfl ?_);show wpAny _ _ (field (.ref it) 1 >>= _) _ _ s;refine zz (wpAny_field hit rfl (x:=rawInt left) rfl ?_);show wpAny _ _ (field (.ref it) 2 >>= _) _ _ s;refine zz (wpAny_field hit rfl (x:=rawInt step) rfl ?_);show wpAny _ _ (if left<=0 then _ else _) _ _ s;rw[if_pos Py];refine zz (wpAny_rule ?_);refine zz ?_;show wpAny _ _ (newExc (.type "StopIteration") [] >>= _) _ _ _;refine zz ?_;simp only[newExc,newTuple];refine zz (wpAny_newObj_type ?_ (by size_fits));refine zz (m:=firstArgMember _ _) (wpAny_of_eq (a:=Value.none) (by first|rfl|(simp only[firstArgMember];rfl)) ?_)
 refine wpAny_newObj_type ?_ (by size_fits);have lt:e<s.heap.objs.size:=zn he;have k1:∀(o:Obj) b u,s.heap.get? b=some u->(s.heap.push o).get? b=some u:=fun o b u e=>zy _ e;refine Bv (show A.in1.handled=some (.ref e) from hh) (zk _ rfl) rfl (by rw[wD];exact zj (show 2<6 by decide) (Nat.le_add_right 6 _)) (zy _ (zy _ he)) hd h2 (zC (by rw[zV];exact xD lt)) fun h' sb ⟨o',g1,g2⟩=>?_;refine zz (wpAny_isInstance (T:="StopIteration") (b:=true) ⟨o',g1,g2⟩ isSubtype_stop ?_);refine zt (hQ _ fun b o hb q=>sb.extBut b o (zC (by rw[zV];exact xD (zn q))) (zy _ (zy _ q)))
end
noncomputable def FI(X:Cx):Prop:=∃(e:Addr) (oe:Obj) (vs:Array Value),X.A.handled=some (.ref e)/\X.s₀.heap.get? e=some oe/\X.H₀ e=none/\e ∉ X.fs/\e ∉ X.ex/\oe.data=.fields vs/\vs[2]?=some .none
theorem Dx{P:Program}{w:World}{K:Q_}{tg:Expr}(it:Addr)(lo:Int)(n:Nat):Dc FI P w K tg (rJ lo n) [it] it (fun i h=>IsRangeIter h it (lo+(i:Nat)*1) ((n:Int)-(i:Nat)) 1) where
 obj:=fun i h st b hb=>by
  have e:b=it:=by simpa using hb
  subst e;exact⟨_,st,fun v z=>by
   have z':Data.fields _=Data.cell v:=z;cases z'⟩
 keep:=fun i h h' st k=>k it (by simp) _ st
 item:=by
  intro X hP hw hK hc i pins s σ H E I hf st hg;subst hP hw hK;obtain⟨f0,f1,f2,f3,f4,f5⟩:=hf it (by simp);have hg:i<n:=hg;refine wpAny_pyNext_range_item st (by omega) fun h' st' sb=>?_;have I1:Inv X pins σ H { s with heap:=h',toks:=s.toks+1 }:=I.turned (fun b o hb e=>(sb.2 b hb).trans e) f0 f1 f3 f4 f5;have st2:IsRangeIter h' it (lo+((i+1:Nat):Int)*1) ((n:Int)-((i+1:Nat):Int)) 1:=by
   have a1:lo+(i:Nat)*1+1=lo+((i+1:Nat):Int)*1:=by omega
   have a2:(n:Int)-(i:Nat)-1=(n:Int)-((i+1:Nat):Int):=by omega
   rw[<- a1,<- a2];exact st'
  refine⟨_,rfl,pq (s:={ s with heap:=h',toks:=s.toks+1 }) (n:="range_iterator") st' rfl rfl (by decide) ⟨.int (lo+i),H,I1,⟨s.toks,?_⟩,⟨rfl,rfl⟩,st2,fun b hb=>(hf b hb).1⟩⟩;rw[vv]
 done:=by
  intro X hP hw hK hc i pins s σ H E I hf st hg;subst hP hw hK;obtain⟨f0,f1,f2,f3,f4,f5⟩:=hf it (by simp);obtain⟨e,oe,vs,h1,h2,h3,h4,h5,h6,h7⟩:=hc;exact p0 h1 (I.base.keep e oe h2 h3 h4 h5) h6 h7 st (by have:n<=i:=hg;omega) fun h' eb=>⟨rfl,I.turned (t':=s.toks) (fun b o hb e=>eb b o hb e) f0 f1 f3 f4 f5⟩
 self:=fun _ _ _ _ _ st h=>wpAny_pyIter_rangeiter st h
end L3
namespace L3
open PySem PySem.Spec PyProof.Rows L2
noncomputable abbrev fY(X:Cx) (e:Addr) (oe:Obj):Cx:={ X with A:=X.A.mark (some (.ref e)),calm:=false,pn:=(e,oe)::X.pn,xe:=fun _ _=>False }
section
variable {X:Cx}{pins:List (Addr×Obj)}{σ:L2.St}{H:Hp}{s:Shared}{e:Addr}{oe:Obj}
theorem nP(I:Inv X pins σ H s)(he:s.heap.get? e=some oe)(hH:H e=none)(hl:e≠X.env.locals)(hf:e ∉ X.fs)(hd:∀v,oe.data≠.cell v):Inv (fY X e oe) pins σ H s:=by
 have ok:=I.ok;refine⟨⟨ok.mod,ok.kind,ok.glob,ok.blt,ok.above,ok.inj,ok.has,ok.u0,fun z=>(by cases z),ok.frames,ok.vY,ok.Jr,ok.bs,ok.lF,ok.nJ,ok.qp,ok.eU,ok.nh⟩,I.os,I.bare,I.base,I.loc,I.cell,I.free,I.dj,fun p hp=>?_,I.ax,I.len⟩;rcases zi.mp (show p∈(e,oe)::(X.pn++pins) from hp) with rfl|hp
 ·exact⟨he,hH,hl,hf,hd⟩
 ·exact I.pin p hp
theorem Cz(hk:X.Ok)(I:Inv (fY X e oe) pins σ H s):Inv X pins σ H s :=
 ⟨hk,I.os,I.bare,I.base,I.loc,I.cell,I.free,I.dj,fun p hp=>I.pin p (show p∈(e,oe)::(X.pn++pins) from .tail _ hp),I.ax,I.len⟩
theorem name_goes{M:Model}{A:Around}{E:Value->Shared->Prop}{i:Nat}{x:Str}{pos:Pos}{Q:Unit->Shared->Prop}(I:Inv X pins σ H s)(hN:X.N.Nodup)(hi:X.N[i]?=some x)(hk:X.env.scope.names.lookup x=some .local)
  (h:∀s',Inv X pins (σ.set i none) H s'->Q () s'):wpAny M A (do bindName X.env x .none;unbindBehindTheSuite X.env x pos) Q E s:=by
 obtain⟨m,hn,hl⟩:=id I.loc;have fZ:(X.env.scope.kind==.class||(X.env.scope.kind==.module&&X.env.locals != X.env.globals))=false:=by rw[I.ok.kind];rfl
 have CG:i<σ.length:=by rw[I.len];exact(zw.mp hi).1
 have mf:=I.mf;refine wpAny_nameGoes_keeps hk hn fZ fun h' v hn' hs=>?_;refine h _ ⟨I.ok,I.os,I.bare,⟨fun b o e n hb hx=>?_,fun b o e n hb hx=>?_,I.base.free,fun b o e hx=>?_,I.base.iA,I.base.gX,I.base.iB⟩,⟨_,hn',fun j y v' e1 e2 e3=>?_⟩,fun y c e=>?_,I.free,I.dj,fun p hp=>?_,fun b ob e=>?_,by simpa using I.len⟩
 ·exact(hs.2 b (zC (zj (zn e) I.ok.above))).trans (I.base.keep b o e n hb hx)
 ·obtain⟨sl,e1⟩:=I.base.slot b o e n hb hx
  exact⟨sl,(hs.2 b (zC (zj (zn e) I.ok.above))).trans e1⟩
 ·obtain⟨o',e1⟩:=I.base.there b o e hx
  exact⟨o',(hs.2 b (zC (zj (zn e) I.ok.above))).trans e1⟩
 ·by_cases hj:j=i
  ·subst hj
   rw[zO CG]at e2;cases e2
  ·rw[zd (Ne.symm hj)]at e2
   obtain⟨u',r',q⟩:=hl j y v' e1 e2 e3;refine⟨u',r',?_⟩;rcases q with ⟨k,e⟩|⟨k,c,e,z⟩
   ·refine .inl ⟨k,?_⟩
    have:y≠x:=fun e=>hj (nK hN e1 (e▸hi))
    simp[this,e]
   ·exact .inr ⟨k,c,e,z.sameBut hs (mf y c e)⟩
 ·obtain⟨w',z⟩:=I.cell y c e
  exact⟨w',z.sameBut hs (mf y c e)⟩
 ·obtain⟨e,n,ne,nf,d⟩:=I.pin p hp
  exact⟨(hs.2 p.1 ne).trans e,n,ne,nf,d⟩
 ·refine(I.ax b ob e).jR (fun c w' hc q=>(hs.2 c ?_).trans q) (fun _ q=>q) fun _ _ q=>q
  rintro rfl;rcases hc with rfl|hc
  ·rw[I.free]at e;cases e
  ·rw[I.free]at hc;cases hc
end
noncomputable def Kp(H H':Hp):Prop:=∀a u,H a=some u->H' a=some u
theorem Kp.refl(H:Hp):Kp H H:=fun _ _ e=>e
theorem Kp.new{H H':Hp}{p:Addr}{o:HO}(k:Kp H H')(hp:H p=none):Kp H (upd H' p o):=fun a u e=>by rw[aA (aO e hp)];exact k a u e
theorem Kp.none{H H':Hp}{p:Addr}(k:Kp H H')(hp:H' p=none):H p=none:=by
 cases h:H p with
 |none=>rfl
 |some u=>rw[k p u h]at hp;cases hp
theorem Kp.sim{K:Q_}{ι:List Addr}{M:MH}{H H':Hp}(k:Kp H H')(S:aJ K ι M H):aJ K ι M H'/\Ext K ι H ι H':=by
 have X:Ext K ι H ι H':=⟨fun _ _ e=>e,fun a xs e=>k _ _ e,fun a xs e=>by
  rcases e with ⟨o,e⟩|e
  ·exact .inl ⟨o,k _ _ e⟩
  ·exact .inr e⟩
 refine⟨⟨S.len,S.inj,fun i a o h1 h2=>?_⟩,X⟩;obtain⟨u,hu,_⟩:=S.tracked h1;rw[k _ _ hu,<- hu];exact(S.obj i a o h1 h2).mono X
section
variable {X:Cx}
theorem GH(hu:X.A.units+100<cLine):cQ X (compareOp .Eq) (fun x y H Q=>∃p q t,x=.ref p/\y=.ref q/\aN X.K H p [.str t]/\aN X.K H q [.str t]/\Q (.bl true) H):=by
 intro pins s σ H x y v u Q I rx ry h;obtain⟨p,q,t,rfl,rfl,hp,hq,k⟩:=h;cases rx;cases ry;have r:aB X.K [] H [.str t] [.str t]:=.cons (.str t) .nil;have S:aJ X.K [] [] H:=⟨rfl,fun i j a h=>by simp at h,fun i a o h=>by simp at h⟩;have e:(if [D.str t].length=[D.str t].length then gk (bT [] 19) [.str t] [.str t] else some false)=some true:=by simp[gk,bT,bE,eY]
 exact(DP I (A:=X.A) (by omega) (fun r1 r2 g1 g2 h=>(ma I S 19 (A:=X.A.in1) (by show X.A.units+1+19<cLine;omega) r1 r2 g1 g2 h).2.2) hp hq r r e).1 X.prog X.w X.xe _ ⟨.bl true,H,I,rfl,k⟩
end
noncomputable def lD:List Str:=["_law_e","_law_some","_law_words_here"]
noncomputable def qt(p:Nat->Pos)(i:Nat)(B:Str):Expr:=.Call (.Name "isinstance" (p i)) [.Name "_law_e" (p (i+1)),.Name B (p (i+2))] [] (p (i+3))
noncomputable def pH(p:Nat->Pos)(sc:Scope):List Stmt:=[
 .Assign [.Name "_law_some" (p 0)] (.List [qt p 1 "Late",qt p 5 "Twice",qt p 9 "Unknown",qt p 13 "NoStretch"] (p 17)) (p 18),
 .Expr (.Call (.Attribute (.Name "_law_some" (p 19)) "append" (p 20)) [.Call (.Name "isinstance" (p 21)) [.Name "_law_e" (p 22),.Tuple [.Name "BadLine" (p 23),.Name "BadTree" (p 24),.Name "BadWord" (p 25),.Name "NoPlace" (p 26)] 0 (p 27)] [] (p 28)] [] (p 29)) (p 30),
 .Expr (.Call (.Attribute (.Name "_law_some" (p 31)) "append" (p 32)) [.UnaryOp .Not (qt p 33 "ValueError") (p 37)] [] (p 38)) (p 39),
 .Assign [.Name "_law_words_here" (p 40)] (.List [.Constant (.str "late") 0 (p 41),.Constant (.str "twice") 0 (p 42),.Constant (.str "unknown") 0 (p 43),.Constant (.str "stretch") 0 (p 44),.Constant (.str "other") 0 (p 45),.Constant (.str "base") 0 (p 46)] (p 47)) (p 48),
 .Return (some (.ListComp (.Subscript (.Name "_law_words_here" (p 49)) (.Name "_law_k" (p 50)) (p 51)) [⟨.Name "_law_k" (p 52),.Call (.Name "range" (p 53)) [.Constant (.int 6) 0 (p 54)] [] (p 55),[.Subscript (.Name "_law_some" (p 56)) (.Name "_law_k" (p 57)) (p 58)],0⟩] sc (p 59))) (p 60)]
noncomputable def sh:List Str:=["isinstance","range","Late","Twice","Unknown","NoStretch","BadLine","BadTree","BadWord","NoPlace","ValueError"]
structure Dk (sc dJ:Scope):Prop where
 e:sc.names.lookup ("_law_e":Str)=some .local
 v:∀x∈(["_law_some","_law_words_here"]:List Str),sc.names.lookup x=some .cell
 bA:∀x∈sh,sc.names.lookup x=some .globalImplicit
 comp:dk ⟨sc,lD,[],[],[]⟩ dJ ["_law_k"]=true
 fr:∀x∈(["_law_some","_law_words_here"]:List Str),dJ.names.lookup x=some .free
section
variable {X:Cx}{C D e:Addr}{oe:Obj}{p:Nat->Pos}
theorem GC{ev:Array Value}{scope:Scope}{cl:List (Str×Addr)}{xs N':List Str}{tg elt:Expr}{ifs:List Expr}{g:TG}{tc:TT}{te:TE}{p1 p2 p3 pos:Pos}(hh:X.A.handled=some (.ref e))(hp:(e,oe)∈X.pn)(hd:oe.data=.fields ev)(h2:ev[2]?=some .none)
  (S:∀_:X.Ok,ef X scope cl xs N') (hg:X.Ok->∀C s H fp,PG (bo X scope cl C N' s H fp) tg g) (hr:Gl X "range") (hm:X.mg "range" = none) (htc:∀C s H fp,jO (bo X scope cl C N' s H fp) ifs tc) (hte:∀C s H fp,PE (bo X scope cl C N' s H fp) elt te) :
  PE X (.ListComp elt [⟨tg,.Call (.Name "range" p1) [.Constant (.int 6) 0 p2] [] p3,ifs,0⟩] scope pos) (fun σ H Q=>∃W:Nat->Nat->List V->Hp->Prop,(∃m,W 0 m [] H)/\pR (rJ 0 6) g xs.length tc te σ (fun ys H'=>∀p,H' p=none->Q (.ref p) (upd H' p (.lst ys))) W):=by
 intro pins s σ H Q I ⟨W,⟨m0,w0⟩,hW⟩;have S:=S I.ok;rw[eval_ListComp];refine wpAny_comprehension_free (use:=none) rfl (fun x=>rfl) S.Hv S.kind S.names ?_;refine Call_ (iu I hr hm boot_range (q_ (aH (az (X:=X) (DZ (i:=6) (j:=0) (pos:=p2)) bq (by rfl) p3 pins s σ H (fun vs H1=>vs=[V.int 6]/\H1=H) I ⟨rfl,rfl⟩) fun us s1 ⟨vs,H1,I1,r1,q1⟩=>?_) rfl rfl));obtain⟨rfl,rfl⟩:=q1;obtain⟨u,rfl,ru⟩:=vals1 r1;obtain⟨t,rfl⟩:=ru;refine call_range_1 ?_;refine wpAny_pyIter_range (IsRange.new ..) (small_one (by decide) (by decide) (by decide) (by decide)) ?_;dsimp only;generalize EL:s1.heap.push _=h1;generalize AA:h1.push _=h2';have k1:∀b o,s1.heap.get? b=some o->h2'.get? b=some o:=fun b o e=>by
  rw[<- AA];exact zy _ (by rw[<- EL];exact zy _ e)
 have Na:s1.heap.objs.size<=h1.objs.size:=by rw[<- EL,zV];exact yH _
 have st:IsRangeIter h2' h1.objs.size (0+((0:Nat):Int)*1) (((6:Nat):Int)-((0:Nat):Int)) 1:=by
  rw[<- AA];exact zk _ rfl
 have fp:∀b∈[h1.objs.size],fG X pins H1 b:=fun b hb=>by
  rw[zS.mp hb];exact I1.nS Na (I1.ax.fresh Na)
 refine kY (ok:=FI) (RR:=fun acc C=>compPost (model X.prog X.w) X.A X.xe none (EP X pins σ Q) acc C) (fun Ca=>?_) S (hg I.ok) htc hte (I1.kept k1) (Dx h1.objs.size 0 6) st fp hW w0 ?_
 ·obtain⟨g1,g2,g3,g4,g5⟩:=(I1.kept k1).pin (e,oe) (zQ _ hp)
  refine⟨e,oe,ev,hh,g1,g2,fun z=>?_,fun z=>?_,hd,h2⟩
  ·rcases zi.mp (I1.fO e z) with q|q
   ·exact g3 q
   ·exact g4 q
  ·have hz:e=h1.objs.size:=zS.mp z
   have:=(fp h1.objs.size (by simp)).2.2.2.2.2 (e,oe) (zQ _ hp)
   exact this hz
 ·intro Dl Ca s' ys H' I' nD cn c1 c2 c3 c4 ns q
  obtain⟨m,hm⟩:=ns;exact⟨m,hm,fun h' sb=>⟨.ref Dl,_,qc I' sb cn c1 c2 c3 c4,rfl,q Dl nD⟩⟩
noncomputable def Jz:List V:=[.bl false,.bl false,.bl true,.bl false,.bl false,.bl false]
noncomputable def Jy:List V:=[.str "late",.str "twice",.str "unknown",.str "stretch",.str "other",.str "base"]
theorem Hw{K:Q_}{H:Hp}{a b:Addr}{v0:Option V}{Q:VK}(ha:H a=some (.lst Jz))(hb:H b=some (.lst Jy))(q:∀p,H p=none->Q (.ref p) (upd H p (.lst [.str "unknown"]))) :
  ∃W:Nat->Nat->List V->Hp->Prop,(∃m,W 0 m [] H)/\pR (rJ 0 6) (dC 0) 1 (tB (lq (kE K) (cX 2) (cX 0))) (lq (kE K) (cX 3) (cX 0)) [v0,some (.ref a),some (.ref b)] (fun ys H'=>∀p,H' p=none->Q (.ref p) (upd H' p (.lst ys))) W:=by
 refine⟨fun i m ys H'=>H'=H/\m=6-i/\i<=6/\ys=if i<=2 then [] else [.str "unknown"],⟨6,rfl,rfl,by decide,rfl⟩,?_⟩;rintro i m ys H' ⟨rfl,rfl,hi,rfl⟩;by_cases h6:i=6
 ·subst h6
  exact .inl ⟨zp _,by decide,q⟩
 ·right
  refine⟨(show i<6 by omega),by split <;> (show _<zq;decide),fun v H'' os ho hy=>?_⟩;obtain⟨rfl,rfl⟩:H''=H'/\v=.int (0+i):=hy;match os,ho with
  |[o0],_ =>
   refine⟨[some (.int (0+i))],rfl,rfl,?_⟩;have go:∀(x:Bool) (y:V),pO Jz (0+(i:Int))=some (.bl x)->pO Jy (0+(i:Int))=some y->(x=true->((if i<=2 then [] else [V.str "unknown"])++[y])=if i+1<=2 then [] else [V.str "unknown"])->(x=false->(if i<=2 then [] else [V.str "unknown"])=if i+1<=2 then [] else [V.str "unknown"]) ->
     tB (lq (kE K) (cX 2) (cX 0)) ([some (V.int (0+(i:Int)))]++[v0,some (.ref a),some (.ref b)]) H'' fun b' H2=>if b'=true then lq (kE K) (cX 3) (cX 0) ([some (V.int (0+(i:Int)))]++[v0,some (.ref a),some (.ref b)]) H2 fun y H3=>∃m',m'<6-i/\(H3=H''/\m'=6-(i+1)/\i+1<=6/\(if i<=2 then [] else [V.str "unknown"])++[y]=if i+1<=2 then [] else [V.str "unknown"])
      else ∃m',m'<6-i/\(H2=H''/\m'=6-(i+1)/\i+1<=6/\(if i<=2 then [] else [V.str "unknown"])=if i+1<=2 then [] else [V.str "unknown"]):=fun x y e1 e2 e3 e4=>by
    refine⟨.ref a,rfl,.int (0+i),rfl,a,Jz,0+i,.bl x,rfl,rfl,aN.of ha,e1,x,rfl,?_⟩;cases x with
    |true=>rw[if_pos rfl];exact⟨.ref b,rfl,.int (0+i),rfl,b,Jy,0+i,y,rfl,rfl,aN.of hb,e2,6-(i+1),by omega,rfl,rfl,by omega,e3 rfl⟩
    |false=>rw[if_neg zu];exact⟨6-(i+1),by omega,rfl,rfl,by omega,e4 rfl⟩
   have V0:i=0\/i=1\/i=2\/i=3\/i=4\/i=5:=by omega
   rcases V0 with rfl|rfl|rfl|rfl|rfl|rfl
   ·exact go false _ rfl rfl (fun z=>by cases z) (fun _=>rfl)
   ·exact go false _ rfl rfl (fun z=>by cases z) (fun _=>rfl)
   ·exact go true _ rfl rfl (fun _=>rfl) (fun z=>by cases z)
   ·exact go false _ rfl rfl (fun z=>by cases z) (fun _=>rfl)
   ·exact go false _ rfl rfl (fun z=>by cases z) (fun _=>rfl)
   ·exact go false _ rfl rfl (fun z=>by cases z) (fun _=>rfl)
theorem K8{ev:Array Value}{dJ:Scope}(Z:ZK X.K X.mg C D)(hp:(e,oe)∈X.pn)(hc:oe.cls=.ref C)(hh:X.A.handled=some (.ref e))(hd:oe.data=.fields ev)(h2:ev[2]?=some .none)(hN:X.N=lD)(hfn:∀x,X.fn x=true)(sc:Dk X.env.scope dJ)
  (hi:X.mg "isinstance" = none) (hv:X.mg "ValueError" = none) (VH:X.mg "range" = none) (l1:((p 20).endLine==(p 29).line)=true) (l2:((p 32).endLine==(p 38).line)=true) :
  du X (pH p dJ) (fun D' σ H=>∃w1 w2,σ=[some (.ref e),w1,w2]/\∀H' q,Kp H H'->H q=none->H' q=some (.lst [.str "unknown"])->D'.rt (.ref q) H'):=by
 have nd:X.N.Nodup:=by rw[hN];decide
 have g:∀x∈sh,Gl X x:=fun x hx=>sc.bA x hx;have ve:∀{pos:Pos},PE X (.Name "_law_e" pos) (cX 0):=eD (by rw[hN];rfl) (.inl sc.e);have vs:∀{pos:Pos},PE X (.Name "_law_some" pos) (cX 1):=eD (by rw[hN];rfl) (.inr (.inl (sc.v _ (by decide))));have n0:Gl X "isinstance":=g _ (by decide);obtain⟨B1,b1,c1,d1,z1⟩:=Z.ot "Late" (by decide);obtain⟨B2,b2,c2,d2,z2⟩:=Z.ot "Twice" (by decide);obtain⟨B3,b3,c3,d3,z3⟩:=Z.ot "NoStretch" (by decide);obtain⟨B4,b4,c4,d4,z4⟩:=Z.ot "BadLine" (by decide);obtain⟨B5,b5,c5,d5,z5⟩:=Z.ot "BadTree" (by decide);obtain⟨B6,b6,c6,d6,z6⟩:=Z.ot "BadWord" (by decide);obtain⟨B7,b7,c7,d7,z7⟩:=Z.ot "NoPlace" (by decide);have gl:∀{x:Str} {B:Addr} {pos:Pos},x∈sh->X.mg x=some (.ref B)->(x==("__debug__":Str))=false->PE X (.Name x pos) (tC (.ref B)):=fun hx hm hd=>Af (g _ hx) hm rfl hd;have is1:∀{i:Nat} {x:Str} {B:Addr},x∈sh->X.mg x=some (.ref B)->(x==("__debug__":Str))=false->B≠C->B≠D->(∀h:Heap,X.K.In h->ZB h B)->PE X (qt p i x) (vU (fun xs H Q=>xs=[.ref e,.ref B]/\Q (.bl false) H) (cR (cX 0) (cR (tC (.ref B)) gS))):=fun hx hm oV n1 n2 zb =>
  dP (sD Z hp hc n1 n2 zb) n0 hi G_ (az ve (az (gl hx hm oV) bq))
 have s1:=ik (pos:=p 18) (pos':=p 0) (X:=X) nd (i:=1) (x:="_law_some") (by rw[hN];rfl) (.inr (sc.v _ (by decide)))
  (kb (pos:=p 17) (az (is1 (i:=1) (x:="Late") (by decide) b1 (by decide) c1 d1 z1) (az (is1 (i:=5) (x:="Twice") (by decide) b2 (by decide) c2 d2 z2)
   (az (dP (p:=p 9) (pos:=p 12) (vi hp hc) n0 hi G_ (az (ve (pos:=p 10)) (az (gl (pos:=p 11) (by decide) Z.np (by decide)) bq))) (az (is1 (i:=13) (x:="NoStretch") (by decide) b3 (by decide) c3 d3 z3) bq)))))
  (by rfl) (.inl (hfn _))
 have s2:=mD (X:=X) (pos:=p 30) (Ii (cpos:=p 29) PySem.F.plainAttrs_list PySem.F.slot_list_append PySem.F.type_list_append lU (vs (pos:=p 19)) (az (dP (p:=p 21) (pos:=p 28) (AZ Z hp hc) n0 hi G_ (az (ve (pos:=p 22)) (az (tS (x1:=0) (pos:=p 27)
   (az (gl (pos:=p 23) (by decide) b4 (by decide)) (az (gl (pos:=p 24) (by decide) b5 (by decide)) (az (gl (pos:=p 25) (by decide) b6 (by decide)) (az (gl (pos:=p 26) (by decide) b7 (by decide)) bq))))) bq))) bq) (by rfl) (by rfl) l1) (by rfl)
 have s3:=mD (X:=X) (pos:=p 39) (Ii (cpos:=p 38) PySem.F.plainAttrs_list PySem.F.slot_list_append PySem.F.type_list_append lU (vs (pos:=p 31)) (az (DY (pos:=p 37) (dP (p:=p 33) (pos:=p 36) (vk Z hp hc) n0 hi G_ (az (ve (pos:=p 34)) (az (mE (pos:=p 35) (v:=.ty "ValueError") (u:=.type "ValueError") (g _ (by decide)) hv (by first|rfl|decide +kernel) rfl) bq)))) bq) (by rfl) (by rfl) l2) (by rfl)
 have s4:=ik (pos:=p 48) (pos':=p 40) (X:=X) nd (i:=2) (x:="_law_words_here") (by rw[hN];rfl) (.inr (sc.v _ (by decide)))
  (kb (pos:=p 47) (az (fV (x:="late") (j:=0) (pos:=p 41)) (az (fV (x:="twice") (j:=0) (pos:=p 42)) (az (fV (x:="unknown") (j:=0) (pos:=p 43)) (az (fV (x:="stretch") (j:=0) (pos:=p 44)) (az (fV (x:="other") (j:=0) (pos:=p 45)) (az (fV (x:="base") (j:=0) (pos:=p 46)) bq)))))))
  (by rfl) (.inl (hfn _))
 have CS:X.Ok->ef X dJ (eI X.env.cells dJ.names []) ["_law_k"] ((["_law_k"]:List Str)++blank lD ["_law_k"]):=fun ok=>rp (S:=⟨X.env.scope,lD,[],[],[]⟩) hN (fun x k h=>⟨k,h,.inl rfl⟩) ok sc.comp;have qD:∀{x:Str} (Ca:Addr) (s:Shared) (H:Hp) (fp:List Addr),x∈(["_law_some","_law_words_here"]:List Str)->u6 (bo X dJ (eI X.env.cells dJ.names []) Ca ((["_law_k"]:List Str)++blank lD ["_law_k"]) s H fp).env.scope x:=fun {x} Ca s H fp hx=>by
  have e:=fW (scope:=dJ) (env:=X.env) (y:=x);rw[sc.fr x hx]at e;show (relabel dJ X.env).names.lookup x=some .local\/(relabel dJ X.env).names.lookup x=some .cell\/(relabel dJ X.env).names.lookup x=some .free;rw[e];dsimp only[Option.map];split
  ·exact .inr (.inl rfl)
  ·exact .inr (.inr rfl)
 have loc:∀(Ca:Addr) (s:Shared) (H:Hp) (fp:List Addr),u6 (bo X dJ (eI X.env.cells dJ.names []) Ca ((["_law_k"]:List Str)++blank lD ["_law_k"]) s H fp).env.scope "_law_k":=fun Ca s H fp=>.inl (lookup_relabel_local (by
  have:=sc.comp
  unfold dk at this;simp only[zx,zD,beq_iff_eq]at this;exact(this.1.1.1.1.1.2 "_law_k" (by simp)).1.1))
 have s5:=tO (X:=X) (pos:=p 60) (GC (p1:=p 53) (p2:=p 54) (p3:=p 55) (pos:=p 59) (g:=dC 0) (tg:=.Name "_law_k" (p 52)) (tc:=tB (lq (kE X.K) (cX 2) (cX 0))) (te:=lq (kE X.K) (cX 3) (cX 0)) hh hp hd h2 CS (fun ok Ca s H fp=>lT (CS ok) rfl Ca s H fp) (g _ (by decide)) VH
  (fun Ca s H fp=>Ac (Mn (B0 (pos:=p 58) (r:=kE X.K) mK (eD (i:=2) (x:="_law_some") (pos:=p 56) rfl (qD Ca s H fp (by decide))) (eD (i:=0) (x:="_law_k") (pos:=p 57) rfl (loc Ca s H fp)) (kH rfl))))
  (fun Ca s H fp=>B0 (pos:=p 51) (r:=kE X.K) mK (eD (i:=3) (x:="_law_words_here") (pos:=p 49) rfl (qD Ca s H fp (by decide))) (eD (i:=0) (x:="_law_k") (pos:=p 50) rfl (loc Ca s H fp)) (kH rfl)))
 refine du.imp (cm s1 (cm s2 (cm s3 (cm s4 (cm s5 mC))))) fun D' σ H h=>?_;obtain⟨w1,w2,rfl,k⟩:=h;refine⟨_,rfl,rfl,_,rfl,rfl,_,rfl,rfl,_,rfl,rfl,by decide,fun a ha=>?_⟩;refine⟨.ref a,rfl,.inl ⟨rfl,_,aN.of aT⟩,?_⟩;refine⟨.ref e,rfl,by show 4<=zq;decide,fun q hq=>?_⟩;have Vf:a≠q:=aO aT hq;have K1:Kp H (upd H a (.lst [.bl false,.bl false,.bl true,.bl false])):=(Kp.refl H).new ha;have NB:=K1.none hq;refine⟨q,_,rfl,aT,?_,?_⟩
 ·intro v hm
  simp only[zi,zB,or_false]at hm;rcases hm with rfl|rfl|rfl|rfl
  ·exact⟨_,rfl,c4,d4,z4⟩
  ·exact⟨_,rfl,c5,d5,z5⟩
  ·exact⟨_,rfl,c6,d6,z6⟩
  ·exact⟨_,rfl,c7,d7,z7⟩
 refine⟨a,_,_,rfl,rfl,by rw[aA Vf];exact aT,by decide,?_⟩;refine⟨.ref a,rfl,.inl ⟨rfl,_,aN.of aT⟩,?_⟩;refine⟨.ref e,rfl,rfl,true,rfl,?_⟩;refine⟨a,_,_,rfl,rfl,aT,by decide,?_⟩;refine⟨by show 6<=zq;decide,fun b hb=>?_⟩;have Vg:a≠b:=aO aT hb;have K4:=((K1.new (p:=q) (o:=.tup [.ref B4,.ref B5,.ref B6,.ref B7]) NB).new (p:=a) (o:=.lst [.bl false,.bl false,.bl true,.bl false,.bl false]) ha).new (p:=a) (o:=.lst Jz) ha;have Wb:H b=none:=K4.none hb;refine Hw (K:=X.K) (a:=a) (b:=b) (v0:=some (.ref e)) (by rw[aA Vg];exact aT) aT fun r hr=>?_;have K5:=K4.new (p:=b) (o:=.lst Jy) Wb;exact k _ r (K5.new (K5.none hr)) (K5.none hr) aT
end
end L3
namespace L3
open PySem PySem.Spec PyProof.Rows L2
structure nu (K:Q_) (mg:Str->Option Value):Prop where
 hi:mg "isinstance" = none
 hv:mg "ValueError" = none
 hr:mg "range" = none
 fn:∃(fa:Addr) (fd:FuncData) (st:Stmt) (p:Nat->Pos) (dJ:Scope),eL K "_law_classes" "_law_classes" st fa fd/\mg "_law_classes" = some (.ref fa)/\Binds K fd ["_law_e"] []/\cq lD ["_law_e"] (aq st)/\aM st=pH p dJ/\Dk (aq st) dJ /\
  ((p 20).endLine==(p 29).line)=true/\((p 32).endLine==(p 38).line)=true
section
variable {P:Program}{w:World}{K:Q_}{mg:Str->Option Value}{base:Heap}{C D e:Addr}{oe:Obj}{ev:Array Value}
theorem Oj(Z:ZK K mg C D)(R:nu K mg):∃(fa:Addr),mg "_law_classes" = some (.ref fa)/\Z0 K (.ref fa)=true/\∀{k:Nat} {A:Around} {outer:List Env} {s:Shared} {H:Hp},bJ (k+1) A->mm P w K mg base A outer s H->s.heap.get? e=some oe->oe.cls=.ref C->oe.data=.fields ev->ev[2]?=some .none->H e=none->e ∉ dZ outer ->
  codeAny (model P w) (A.mark (some (.ref e))) (.call (.ref fa) ⟨[.ref e],[]⟩) (fun r s'=>match r with
   |.ok (.ret u)=>CE outer P w H s (fun v H'=>∃q,v=.ref q/\H q=none/\Kp H H'/\H' q=some (.lst [.str "unknown"])) u s'
   |_=>False) s:=by
 obtain⟨fa,fd,st,p,dJ,F,hm,hb,S,ER,sc,l1,l2⟩:=R.fn;refine⟨fa,hm,F.kp,fun {k A outer s H} hr e0 he hc hd h2 hH hf=>?_⟩;obtain⟨oc,od,kV,doc,pm,an,cdv,ct,iW,rfl,lk,kj⟩:=F.ex;have KX:K.In s.heap:=e0.mod.qQ.keeps fun b o e=>(e0.bs b o e).1;have lim:s.heap.NoLimit:=e0.mod.nolimit.keeps fun b o e=>(e0.bs b o e).1;have hbb:=hb s [.ref e] KX rfl;rw[zJ]at hbb;have CF:∀y∈(["_law_e"]:List Str).zip [Value.ref e],(aq st).names.lookup y.1=some .local\/((aq st).names.lookup y.1=some .cell/\((cellsFrom (s.heap.objs.size+1) (aq st).names []).lookup y.1).isSome=true):=fun ⟨n,v⟩ hy=>by
  rcases S.par n (xm hy).1 with q|q
  ·exact .inl q
  ·exact .inr ⟨q,Y4 _ _ _ (.inl q)⟩
 refine codeAny_call_function (show (A.mark (some (.ref e))).depth<recursionLimit from hr.depth) (KX _ _ lk) rfl S.co S.gen rfl (Y6 KX kj) (hbb _ _ _ _ ?_);refine wpAny_newFunctionEnv_cells S.kind CF fun env he' s1 x=>?_;subst he';refine⟨lim.keeps x.toInCall.keep,codeAny_func ?_⟩;have I:Inv (eG jP P w K mg base lD "_law_classes" (aq st) fa cdv A outer s H E0) [] (start lD [.ref e]) H s1:=qS S hr.hd e0 rfl (.cons rfl .nil) x;have I':=nP I (x.toInCall.keep e oe he) hH (zC (zn he)) hf (fun v z=>by rw[hd]at z;cases z);have body:=K8 (X:=fY (eG jP P w K mg base lD "_law_classes" (aq st) fa cdv A outer s H E0) e oe) (p:=p) Z (.head _) hc rfl hd h2 rfl (fun _=>rfl) sc R.hi R.hv R.hr l1 l2;rw[ER];refine wpAny_mono (body [] s1 _ H { nx:=fun _ _=>False,rt:=fun v H'=>∃q,v=.ref q/\H q=none/\Kp H H'/\H' q=some (.lst [.str "unknown"]) } I' ⟨none,none,rfl,fun H' q k hq hl=>⟨q,rfl,hq,k,hl⟩⟩) (fun fl s' hs=>?_) fun _ _ z=>z.elim;cases fl with
 |ret u =>
  obtain⟨v,σ',H',J,rv,q⟩:=hs;exact⟨v,H',J.os,J.bare,J.base,J.ax,rv,q⟩
 |next=>obtain⟨_,_,_,q⟩:=hs;exact q.elim
 |brk=>obtain⟨_,_,_,q⟩:=hs;exact q.elim
 |cont=>obtain⟨_,_,_,q⟩:=hs;exact q.elim
end
section
variable {X:Cx}{C D e:Addr}{oe:Obj}{ev:Array Value}{k:Nat}
theorem K7{ie:Nat}{p1 p2 p3:Pos}(Z:ZK X.K X.mg C D)(R:nu X.K X.mg)(hr:bJ (k+1) X.A)(hc:oe.cls=.ref C)(hd:oe.data=.fields ev)(h2:ev[2]?=some .none)(cu:X.stack=X.env::X.outer)(EJ:X.N[ie]?=some ("_law_e":Str))(he:X.env.scope.names.lookup ("_law_e":Str)=some .local)(hg:X.env.scope.names.lookup ("_law_classes":Str)=some .globalImplicit) :
  PE (fY X e oe) (.Call (.Name "_law_classes" p1) [.Name "_law_e" p2] [] p3) (fun σ H Q=>σ[ie]?=some (some (.ref e))/\∀H' q,Kp H H'->H q=none->H' q=some (.lst [.str "unknown"])->Q (.ref q) H'):=by
 intro pins s σ H Q I ⟨hs,h⟩;obtain⟨fa,hm,hk,run⟩:=Oj (P:=X.prog) (w:=X.w) (base:=X.base) (e:=e) (oe:=oe) (ev:=ev) Z R;refine wpAny_Call_Name_kw (iN (X:=fY X e oe) I hg hm ?_);have ha:PA (fY X e oe) [.Name "_law_e" p2] (cR (cX ie) gS):=az (eD EJ (.inl he)) bq;refine Z6 (h₀:=X.base) I.ok.mod.qQ hk (aH (ha p3 pins s σ H (fun vs H1=>vs=[.ref e]/\H1=H) I ⟨_,hs,rfl,rfl⟩) fun us s1 ⟨vs,H1,I1,r,q⟩=>⟨I1.dY,?_⟩) (by rfl) (by rfl);obtain⟨rfl,rfl⟩:=q;obtain⟨u,rfl,ru⟩:=vals1 r;cases ru;obtain⟨g1,g2,g3,g4,g5⟩:=I1.pin (e,oe) (.head _);have E1:=I1.CM;have nf:e ∉ dZ X.stack:=fun z=>by
  rcases zi.mp (I1.fO e z) with q|q
  ·exact g3 q
  ·exact g4 q
 refine wpAny_call (codeAny_mono (run hr ⟨E1.frames,E1.mod,E1.bs,E1.lF,E1.eU,E1.nh,E1.ax,E1.bare⟩ g1 hc hd h2 g2 nf) fun r s' hq=>?_);cases r with
 |error x=>exact hq.elim
 |ok fl =>
  cases fl with
  |ret u =>
   refine I1.after (Q:=Q) ?_;obtain⟨v,H',a1,a2,a3,a4,a5,q,rfl,b1,b2,b3⟩:=hq;exact⟨_,H',a1,a2,a3,a4,a5,h H' q b2 b1 b3⟩
  |next=>exact hq.elim
  |brk=>exact hq.elim
  |cont=>exact hq.elim
noncomputable def A4(p:Nat->Pos)(i:Nat)(m x:Str)(as:List Expr):Stmt:=.Try [.Expr (.Call (.Attribute (.Name "_law_house" (p i)) m (p (i+1))) as [] (p (i+2))) (p (i+3))]
 [.ExceptHandler (some (.Name "HouseError" (p (i+4)))) (some "_law_e") [.Assign [.Name x (p (i+5))] (.Call (.Name "_law_classes" (p (i+6))) [.Name "_law_e" (p (i+7))] [] (p (i+8))) (p (i+9))] (p (i+10))] [] [] (p (i+11))
theorem Dv{p:Nat->Pos}{i0 ie ix kk:Nat}{m x:Str}{a:Expr}{as:List Expr}{ra:Addr}{rd:FuncData}{y7:List Str}{hc0:Addr}{z:List L3.D->MH->Option MH}{ta:TA}(Z:ZK X.K X.mg C D)(R:nu X.K X.mg)(hr:bJ (k+1) X.A)(hk:kk<=k+1)(NI:X.N.Nodup)(hfn:∀x,X.fn x=true)(hex:X.ex=[])(cu:X.stack=X.env::X.outer)(Jf:X.env.frame=some X.env.locals)
  (h0:X.N[0]?=some ("_law_house":Str)) (oR:X.env.scope.names.lookup ("_law_house":Str)=some .local) (EJ:X.N[ie]?=some ("_law_e":Str)) (hle:X.env.scope.names.lookup ("_law_e":Str)=some .local) (qX:X.N[ix]?=some x) (VS:X.env.scope.names.lookup x=some .local)
  (V1:X.env.scope.names.lookup ("_law_classes":Str)=some .globalImplicit) (NK:X.env.scope.names.lookup ("HouseError":Str)=some .globalImplicit)
  (cls:iz X.K hc0) (hm:Meth X.K hc0 m ra) (VI:Binds X.K rd y7 []) (hF:cf X.prog X.w X.K X.mg X.base (eA X.prog X.w) kk ra rd y7 (iR X.K y7.length z C)) (hlen:∀ds M M',z ds M=some M'->ds.length=y7.length)
  (ha:∀E1,PA (X.dN E1) (a::as) ta) (fX:(a::as).all aV=true) (VO:(a::as).length<29) (kS:((p (i0+1)).endLine==(p (i0+2)).line)=true) :
  PS X (A4 p i0 m x (a::as)) (fun D' σ H=>∃ι M M' ds t vs fs,σ[0]?=some (some (.ref t))/\σ[ie]?=some none/\aJ X.K ι M H/\aB X.K ι H ds (.ref t::vs)/\z ds M=some M'/\(∃dx,H t=some (.ins hc0 dx fs))/\fs.lookup m=none/\ta σ H (fun us H1=>us=vs/\H1=H) /\
   ∀H' ι' q e,aJ X.K ι' M' H'->Ext X.K ι H ι' H'->(∀j:Nat,ι'[j]?≠some q)->H' q=some (.lst [.str "unknown"])->D'.nx (((σ.set ie (some (.ref e))).set ix (some (.ref q))).set ie none) H'):=by
 intro pins s σ H D' I h;obtain⟨ι,M,M',ds,t,vs,fs,s0,se,S,Rp,ez,⟨dx,ht⟩,hl,VE,kk'⟩:=h;refine wpAny_Try_except ?_;generalize QV:(fun (e:Value) (s₁:Shared)=>wpAny (model X.prog X.w) X.A (noteFrame e X.env) (fun _ s₂=>wpAny (model X.prog X.w) X.A (setFlight e none) (fun _ s₃=>wpAny (model X.prog X.w) X.A (handleBy e X.env [.ExceptHandler (some (.Name "HouseError" (p (i0+4)))) (some "_law_e") [.Assign [.Name x (p (i0+5))] (.Call (.Name "_law_classes" (p (i0+6))) [.Name "_law_e" (p (i0+7))] [] (p (i0+8))) (p (i0+9))] (p (i0+10))]) (SP X pins D') X.xe s₃) X.xe s₂) X.xe s₁)=E1;have Iw:=I.dN E1;have body:wpAny (model X.prog X.w) X.A (execs [.Expr (.Call (.Attribute (.Name "_law_house" (p i0)) m (p (i0+1))) (a::as) [] (p (i0+2))) (p (i0+3))] X.env) (fun _ _=>False) E1 s:=by
  refine wpAny_execs_cons (aH (Q:=fun _ _=>False) (wpAny_Expr_any ?_ I.quiet (by rfl)) fun _ _ z=>z.elim);have he:PE (X.dN E1) (.Name "_law_house" (p i0)) (cX 0):=eD h0 (.inl oR);refine Y3 (aH (he pins s σ H (fun v H1=>v=.ref t/\H1=H) Iw ⟨_,s0,rfl,rfl⟩) fun u s1 ⟨x',H1,I1,rx,q⟩=>?_) (mH rfl fX VO kS);obtain⟨rfl,rfl⟩:=q;obtain rfl:u=Value.ref t:=rx;refine kX (X:=X.dN E1) I1 ht cls hm hl ?_;have hpl':=fX;rw[zL,zx]at hpl';refine Z6 (first:=[.ref t]) (h₀:=X.base) I.ok.mod.qQ hm.kp (aH (ha E1 _ pins s1 σ H1 _ I1 VE) fun us s2 ⟨ws,H2,I2,r,q⟩=>⟨I2.dY,?_⟩) (ay hpl'.1) (bH hpl'.2)
  obtain⟨rfl,rfl⟩:=q;replace I2:Inv X pins σ H2 s2:=I2.dF;have r2:Vals (V.ref t::ws) (Value.ref t::us):=.cons rfl r;have hn:(V.ref t::ws).length=y7.length:=by rw[<- Rp.length];exact hlen _ _ _ ez
  have hl':((Value.ref t::us)++[]).length=y7.length:=by rw[zJ,<- r2.length];exact hn
  refine wpAny_call (codeAny_mono (hF.run X.A X.stack s2 H2 ⟨Value.ref t::us,[]⟩ (Value.ref t::us) (V.ref t::ws) (fun _ _=>False) (fun cls _ H'=>cls=.ref C/\∃ι',aJ X.K ι' M' H'/\Ext X.K ι H2 ι' H') (hr.mono hk) I2.CM (by have:=VI s2 (Value.ref t::us) I2.dY hl';rwa [zJ]at this) r2
   ⟨hn,ι,M,M',ds,S,Rp,ez,fun H' ι' S' X'=>⟨rfl,ι',S',X'⟩⟩) fun r s' hq=>?_)
  cases r with
  |ok fl =>
   cases fl with
   |ret u=>obtain⟨_,_,_,_,_,_,_,q⟩:=hq;exact q
   |next=>exact False.elim hq
   |brk=>exact False.elim hq
   |cont=>exact False.elim hq
  |error xx =>
   obtain⟨e,T,C',H',rfl,os,bare,un,ax,NY,e0,T0,eH,TH,ec,ι',S',X'⟩:=hq;cases ec;subst QV;show wpAny (model X.prog X.w) X.A (noteFrame (.ref e) X.env) _ _ s';have I3:Inv X pins σ H' s':=I2.call' (ch:=[]) os un ax bare (fun b z=>absurd z (by simp));have new:∀{H₁:Hp} {s₁:Shared} (J:Inv X pins σ H₁ s₁) b,s₁.heap.get? b=none->X.s₀.heap.get? b=none/\b≠X.env.locals/\(∀x c,X.env.cells.lookup x=some c->c≠b)/\(∀q∈X.pn++pins,q.1≠b)/\b ∉ X.fs:=fun {H₁ s₁} J b hb=>by
    have h0:X.s₀.heap.get? b=none:=by
     cases q:X.s₀.heap.get? b with
     |none=>rfl
     |some o =>
      obtain⟨o',e'⟩:=J.base.there b o q (by rw[hex];exact fun z=>nomatch z);rw[hb]at e';cases e'
    refine⟨h0,?_,?_,?_,?_⟩
    ·rintro rfl
     obtain⟨m,⟨o,_,_,ho,_⟩,_⟩:=J.loc;rw[hb]at ho;cases ho
    ·rintro x c hx rfl
     obtain⟨v,o,ho,_⟩:=J.cell x c hx;rw[hb]at ho;cases ho
    ·rintro q hq rfl
     rw[(J.pin q hq).1]at hb;cases hb
    ·intro z
     obtain⟨_,o,ho,_⟩:=J.ok.eU.mem z;rw[h0]at ho;cases ho
   have fr:X.A.frames=some (X.env::X.outer):=cu▸I3.ok.frames;have fl:s'.heap.FunFrames X.base (X.env::X.outer):=cu▸I3.stack;refine ue (base:=X.base) fr fl Jf NY fun h3 T' CJ hT' MY=>?_;have EX:s'.heap.get? T'=none:=yh hT';have n1:=new I2 e e0;have n2:=new I2 T T0;have I4:=jy (t':=s'.toks) (ch:=[e,T]) I3 (fun b hb=>by
    simp only[zi,zB,or_false]at hb;rcases hb with rfl|rfl
    ·exact⟨n1.1,n1.2.1,n1.2.2.1,n1.2.2.2.1,eH⟩
    ·exact⟨n2.1,n2.2.1,n2.2.2.1,n2.2.2.2.1,TH⟩) (cu▸MY)
   have n3:=new I3 T' EX;have NQ:H' T'=none:=by
    cases q:H' T' with
    |none=>rfl
    |some u =>
     obtain⟨o,ho⟩:=ji (I3.ax T' u q);rw[EX]at ho;cases ho
   refine wpAny_handleBy_cons (codeAny_handlers_test ?_) (by intro q;cases q);obtain⟨oe,vs',oT,ts,he',fZ,hd,h1,h2,lY,hT,oW,h3'⟩:=id CJ;have nc:∀v,oe.data≠.cell v:=fun v q=>by rw[hd]at q;cases q
   have I5:Inv (fY X e oe) pins σ H' { s' with heap:=h3 }:=nP I4 he' eH n1.2.1 n1.2.2.2.2 nc;refine iN (X:=fY X e oe) I5 NK Z.he ?_;refine JL ⟨oe,he',fZ⟩ (Z.zh _ I4.dY) ?_;rw[if_pos rfl];refine codeAny_handlers_suite_as (lands CJ fun h4 Su keep=>?_);have T4:∃o,h4.get? T'=some o:=let ⟨_,_,oT,_,_,_,_,_,_,_,q,_⟩:=Su;⟨oT,q⟩;have V3:h4.get? e=some oe:=keep e oe (Ne.symm lY) he';have I6:=jy (h':=h4) (t':=s'.toks) (ch:=[T']) I4 (fun b hb=>by
    simp only[zi,zB,or_false]at hb;subst hb;exact⟨n3.1,n3.2.1,n3.2.2.1,n3.2.2.2.1,NQ⟩) ⟨fun b o _ hb q=>keep b o (by simpa using hb) q,fun b o hb q=>⟨o.slots,keep b o (by simpa using hb) q⟩,fun b o q=>by
     by_cases hb:b=T'
     ·subst hb;exact T4
     ·exact⟨o,keep b o hb q⟩⟩
   have I7:Inv (fY X e oe) pins σ H' { s' with heap:=h4 }:=nP I6 V3 eH n1.2.1 n1.2.2.2.2 nc;refine nz (X:=fY X e oe) (v:=.ref e) (i:=ie) (x:="_law_e") I7 NI EJ (.inl hle) rfl (fun s5 I8=>?_) (.inr hle);have bW:ie<σ.length:=(zw.mp se).1;have su:=cm (X:=fY X e oe) (ik (pos:=p (i0+9)) (pos':=p (i0+5)) NI qX (.inl VS) (K7 (p1:=p (i0+6)) (p2:=p (i0+7)) (p3:=p (i0+8)) (k:=k) Z R hr fZ hd h2 cu EJ hle V1) (by rfl) (.inl (hfn x))) mC pins s5 (σ.set ie (some (.ref e))) H'
    { nx:=fun σ6 H6=>∃q,σ6=(σ.set ie (some (.ref e))).set ix (some (.ref q))/\Kp H' H6/\H' q=none/\H6 q=some (.lst [.str "unknown"]),rt:=fun _ _=>False } I8 ⟨by rw[zO bW],fun H'' q kp hq hl=>⟨q,rfl,kp,hq,hl⟩⟩
   refine wpAny_mono su (fun f s6 q=>?_) fun _ _ z=>False.elim z;cases f with
   |next =>
    obtain⟨σ6,H6,I9,qq,rfl,kp,NB,VT⟩:=q;obtain⟨S6,X6⟩:=kp.sim S';exact name_goes (i:=ie) (x:="_law_e") (Cz I.ok I9) NI EJ hle fun s7 Oz=>⟨_,H6,Oz,kk' H6 ι' qq e S6 (X'.trans X6) (fun j z=>by obtain⟨u,hu,_⟩:=S'.tracked z;rw[NB]at hu;cases hu) VT⟩
   |ret u=>obtain⟨_,_,_,_,_,q⟩:=q;exact q.elim
   |brk=>obtain⟨_,_,_,q⟩:=q;exact q.elim
   |cont=>obtain⟨_,_,_,q⟩:=q;exact q.elim
 exact wpAny_mono body (fun _ _ z=>z.elim) fun _ _ z=>by subst QV;exact z
end
noncomputable def OU:List Str:=["_law_classes","HouseError"]
noncomputable def fu:List Str:=["_law_house","_law_number","_law_name","_law_turn"]
noncomputable def lp:List Str:=["_law_house","_law_number","_law_name","_law_turn","_law_words_here","_law_e","_law_more"]
noncomputable def jY(p:Nat->Pos):List Stmt:=[.Assign [.Name "_law_words_here" (p 0)] (.List [] (p 1)) (p 2),A4 p 3 "ground_of" "_law_words_here" [.Name "_law_number" (p 15)],
 .Assign [.Name "_law_more" (p 16)] (.List [] (p 17)) (p 18),A4 p 19 "on_duty" "_law_more" [.Name "_law_name" (p 31),.Name "_law_turn" (p 32)],
 .Return (some (.BoolOp .And [.Compare (.Name "_law_words_here" (p 33)) [.Eq] [.List [.Constant (.str "unknown") 0 (p 34)] (p 35)] (p 36),.Compare (.Name "_law_more" (p 37)) [.Eq] [.List [.Constant (.str "unknown") 0 (p 38)] (p 39)] (p 40)] (p 41))) (p 42)]
noncomputable def jX(p:Nat->Pos):Prop:=((p 4).endLine==(p 5).line)=true/\((p 20).endLine==(p 21).line)=true
structure qy (sc:Scope):Prop where
 loc:∀x∈lp,sc.names.lookup x=some .local
 bA:∀x∈OU,sc.names.lookup x=some .globalImplicit
section
variable {X:Cx}{pins:List (Addr×Obj)}{σ:L2.St}{H:Hp}{s:Shared}{a:Addr}{ob:Obj}{ws:List V}
theorem GX(I:Inv X pins σ H s)(ha:H a=some (.lst ws))(hg:s.heap.get? a=some ob):Inv X pins σ (upd H a (.frz ob (.lst ws))) s:=by
 have ok:bK X.prog X.w H s.heap a (.lst ws):=I.ax a _ ha;exact I.write (x:=a) (e:=a) (h':=s.heap) (t':=s.toks) (by rw[ha];trivial) (.inl rfl) (fun _ _ _ e=>e) ⟨_,hg⟩ ⟨hg,ok⟩
theorem Mq{cg:List Stmt}{t:TS}(h:du X cg t):du X cg (fun D σ H=>∃q xs,H q=some (.lst xs)/\∀o,t D σ (upd H q (.frz o (.lst xs)))):=by
 intro pins s σ H D I ⟨q,xs,hq,ht⟩;obtain⟨o,ho⟩:=ji (I.ax q _ hq);exact h pins s σ _ D (GX I hq ho) (ht o)
variable {K:Q_}{ι:List Addr}{M:MH}{q:Addr}{xs:List V}{u:HO}
theorem J6(S:aJ K ι M H)(hq:H q=some (.lst xs))(hn:∀j:Nat,ι[j]?≠some q):aJ K ι M (upd H q u):=by
 refine⟨S.len,S.inj,fun i a o h1 h2=>?_⟩;rw[aA (fun z=>hn i (by rw[<- z];exact h1))];exact(S.obj i a o h1 h2).mono (Ext.write hq (oI _))
end
theorem Aj{C t:Nat}{m:Str}{M:MH}(h:D4 (gM C m (.ob t) M)=true):∃fs,M[t]?=some (.ins C fs)/\fs.lookup m=none:=by
 cases e:gM C m (.ob t) M with
 |none=>rw[e]at h;cases h
 |some r =>
  obtain⟨o,M'⟩:=r;cases o with
  |ok u=>exact(uu e).2
  |ex c ds=>rw[e]at h;cases h
theorem MT{C:Nat}{m:Str}{M:MH}{d:D}(h:D4 (gM C m d M)=true):∃t,d=.ob t:=by
 cases d <;> first|exact⟨_,rfl⟩|cases h
section
variable {X:Cx}{Cu D hc0:Addr}{k kk:Nat}{p:Nat->Pos}{rz:Str->List L3.D->MH->Option MH}
noncomputable def Ov(X:Cx)(hc0 Cu:Addr)(rz:Str->List L3.D->MH->Option MH)(kk:Nat)(m:Str):Prop:=∃(fa:Addr) (fd:FuncData) (ps:List Str),Meth X.K hc0 m fa/\Binds X.K fd ps []/\cf X.prog X.w X.K X.mg X.base (eA X.prog X.w) kk fa fd ps (iR X.K ps.length (rz (av m)) Cu)/\∀ds M M',rz (av m) ds M=some M'->ds.length=ps.length
theorem JW(Z:ZK X.K X.mg Cu D)(R:nu X.K X.mg)(hr:bJ (k+1) X.A)(hk:kk<=k+1)(hN:X.N=lp)(hfn:∀x,X.fn x=true)(hex:X.ex=[])(cu:X.stack=X.env::X.outer)(Jf:X.env.frame=some X.env.locals)(sc:qy X.env.scope)(cls:iz X.K hc0)(ln:jX p)(hu:X.A.units+100<cLine)
  (hD:Ov X hc0 Cu rz kk "on_duty")
  (hG:Ov X hc0 Cu rz kk "ground_of")
  : du X (jY p) (fun D' σ H=>∃ι M M' ds vs,σ=vs.map some++zM (lp.length-vs.length) none/\vs.length=fu.length/\aJ X.K ι M H/\aB X.K ι H ds vs/\oz hc0 rz ds M=some M'/\∀H' ι',aJ X.K ι' M' H'->Ext X.K ι H ι' H'->D'.rt (.bl true) H'):=by
 have nd:X.N.Nodup:=by rw[hN];decide
 obtain⟨da,dd,YL,d1,d2,d3,d4⟩:=hD;have nv:∀{i:Nat} {x:Str} {pos:Pos} {E1:Value->Shared->Prop},X.N[i]?=some x->x∈lp->(x==("__debug__":Str))=false->(x==("__classdict__":Str))=false->PE (X.dN E1) (.Name x pos) (cX i):=fun h1 h2 h3 h4=>eD h1 (.inl (sc.loc _ h2)) h3 h4;have nw:∀{i:Nat} {x:Str} {pos:Pos},X.N[i]?=some x->x∈lp->(x==("__debug__":Str))=false->(x==("__classdict__":Str))=false->PE X (.Name x pos) (cX i):=fun h1 h2 h3 h4=>eD h1 (.inl (sc.loc _ h2)) h3 h4;obtain⟨ga,gd,YI,g1,g2,g3,g4⟩:=hG;have s1:=ik (pos:=p 2) (pos':=p 0) (X:=X) nd (i:=4) (x:="_law_words_here") (by rw[hN];rfl) (.inl (sc.loc _ (by decide))) (kb (pos:=p 1) bq) (by rfl) (.inl (hfn _));have s2:=Dv (X:=X) (p:=p) (i0:=3) (ie:=5) (ix:=4) (x:="_law_words_here") (m:="ground_of") (k:=k) (kk:=kk) (a:=.Name "_law_number" (p 15)) (as:=[]) Z R hr hk nd hfn hex cu Jf (by rw[hN];rfl) (sc.loc _ (by decide)) (by rw[hN];rfl) (sc.loc _ (by decide)) (by rw[hN];rfl) (sc.loc _ (by decide)) (sc.bA _ (by decide)) (sc.bA _ (by decide))
  cls g1 g2 g3 g4 (fun E1=>az (nv (i:=1) (by rw[hN];rfl) (by decide) (by decide) (by decide)) bq) rfl (by show 1<29;decide) ln.1
 have s3:=ik (pos:=p 18) (pos':=p 16) (X:=X) nd (i:=6) (x:="_law_more") (by rw[hN];rfl) (.inl (sc.loc _ (by decide))) (kb (pos:=p 17) bq) (by rfl) (.inl (hfn _));have s4:=Dv (X:=X) (p:=p) (i0:=19) (ie:=5) (ix:=6) (x:="_law_more") (m:="on_duty") (k:=k) (kk:=kk) (a:=.Name "_law_name" (p 31)) (as:=[.Name "_law_turn" (p 32)]) Z R hr hk nd hfn hex cu Jf (by rw[hN];rfl) (sc.loc _ (by decide)) (by rw[hN];rfl) (sc.loc _ (by decide)) (by rw[hN];rfl) (sc.loc _ (by decide)) (sc.bA _ (by decide)) (sc.bA _ (by decide))
  cls d1 d2 d3 d4 (fun E1=>az (nv (i:=2) (by rw[hN];rfl) (by decide) (by decide) (by decide)) (az (nv (i:=3) (by rw[hN];rfl) (by decide) (by decide) (by decide)) bq)) rfl (by show 2<29;decide) ln.2
 have cmp:∀{i:Nat} {x:Str} {q1 q2 q3 q4:Pos},X.N[i]?=some x->x∈lp->(x==("__debug__":Str))=false->(x==("__classdict__":Str))=false->PE X (.Compare (.Name x q1) [.Eq] [.List [.Constant (.str "unknown") 0 q2] q3] q4) (lq (fun x y H Q=>∃p q t,x=.ref p/\y=.ref q/\aN X.K H p [.str t]/\aN X.K H q [.str t]/\Q (.bl true) H) (cX i) (FZ (cR (tC (.str "unknown")) gS))):=fun {i x q1 q2 q3 q4} h1 h2 h3 h4=>Ag (GH hu) (nw (pos:=q1) h1 h2 h3 h4) (kb (pos:=q3) (az (fV (x:="unknown") (j:=0) (pos:=q2)) bq)) rfl;have s5:=tO (X:=X) (pos:=p 42) (tU (pos:=p 41) (cmp (i:=4) (x:="_law_words_here") (q1:=p 33) (q2:=p 34) (q3:=p 35) (q4:=p 36) (by rw[hN];rfl) (by decide) (by decide) (by decide)) (tT (cmp (i:=6) (x:="_law_more") (q1:=p 37) (q2:=p 38) (q3:=p 39) (q4:=p 40) (by rw[hN];rfl) (by decide) (by decide) (by decide))));refine du.imp (cm s1 (cm s2 (Mq (cm s3 (cm s4 (cm s5 mC)))))) fun D' σ H h=>?_;obtain⟨ι,M,M',ds,vs,rfl,hl,S,Rp,ez,kq⟩:=h;unfold oz at ez;split at ez
 ·rename_i d0 d1 d2 d3
  cases Rp with
  |cons r0 Rp =>
  cases Rp with
  |cons r1 Rp =>
  cases Rp with
  |cons r2 Rp =>
  cases Rp with
  |cons r3 Rp =>
  cases Rp;rename_i v0 v1 v2 v3;split at ez
  ·rename_i h1
   obtain⟨t0,rfl⟩:=MT h1;obtain⟨f1,o1,n1⟩:=Aj h1;split at ez
   ·rename_i M1 e1
    split at ez
    ·rename_i h2
     obtain⟨f2,o2,n2⟩:=Aj h2;obtain⟨a0,dx,ws,rfl,_,ha,fr⟩:=iM S r0 o1;refine⟨by show 0<=zq;decide,fun l oR=>?_⟩;have X1:Ext X.K ι H ι (upd H l (.lst [])):=Ext.cW oR;refine⟨ι,M,M1,[.ob t0,d1],a0,[v1],ws,rfl,rfl,S.cW oR,.cons (r0.mono X1) (.cons (r1.mono X1) .nil),e1,⟨dx,by rw[aA (aO ha oR)];exact ha⟩,fr.none n1,⟨v1,rfl,rfl,rfl⟩,fun H' ι' q e S' X' hn hq=>?_⟩;refine⟨q,_,hq,fun o=>?_⟩;have Sf:aJ X.K ι' M1 (upd H' q (.frz o (.lst [.str "unknown"]))):=J6 S' hq hn;have Xf:Ext X.K ι' H' ι' (upd H' q (.frz o (.lst [.str "unknown"]))):=Ext.write hq (oI _);refine⟨by show 0<=zq;decide,fun b hb=>?_⟩;have Xb:=Ext.cW (K:=X.K) (ι:=ι') (ho:=.lst []) hb;have Sb:=Sf.cW (ho:=.lst []) hb;have X2:=((X1.trans X').trans Xf).trans Xb;obtain⟨a1,WG,Ub,ea,_,We,Ws⟩:=iM Sb (r0.mono X2) o2;cases ea;refine⟨ι',M1,M',[.ob t0,d2,d3],a0,[v2,v3],Ub,rfl,rfl,Sb,.cons (r0.mono X2) (.cons (r2.mono X2) (.cons (r3.mono X2) .nil)),ez,⟨WG,We⟩,Ws.none n2,⟨v2,rfl,v3,rfl,rfl,rfl⟩,fun H'' ι'' r e' S'' X'' hn' hr'=>?_⟩;have fz:vd X.K H'' q [.str "unknown"]:=X''.fz _ _ (.inl ⟨o,by rw[aA (aO aT hb)];exact aT⟩);refine⟨.ref q,rfl,by show 1<=zq;decide,fun c hc=>?_⟩;have Xc:=Ext.cW (K:=X.K) (ι:=ι'') (ho:=.lst [.str "unknown"]) hc;refine⟨q,c,_,rfl,rfl,(Xc.fz _ _ fz).seq,aN.of aT,true,rfl,?_⟩;rw[if_pos rfl];refine⟨.ref r,rfl,by show 1<=zq;decide,fun c2 oX=>?_⟩;have rc:upd H'' c (.lst [.str "unknown"]) r=some (.lst [.str "unknown"]):=by rw[aA (aO hr' hc)];exact hr'
     have WN:=Ext.cW (K:=X.K) (ι:=ι'') (ho:=.lst [.str "unknown"]) oX;refine⟨r,c2,_,rfl,rfl,aN.of (by rw[aA (aO rc oX)];exact rc),aN.of aT,?_⟩;exact kq _ ι'' ((S''.cW hc).cW oX) (((X2.trans X'').trans Xc).trans WN)
    ·cases ez
   ·cases ez
  ·cases ez
 ·cases ez
end
section
variable {P:Program}{w:World}{K:Q_}{mg:Str->Option Value}{base:Heap}{Cu D hc0 fa:Addr}{fd:FuncData}{p:Nat->Pos}{k:Nat}{rz:Str->List L3.D->MH->Option MH}{st:Stmt}
theorem IM{A:Around}{k:Nat}(hr:bJ k A):A.units+100<cLine:=by have:=hr.un;omega
theorem A3(F:eL K "_law_unknown" "_law_unknown" st fa fd)(hS:cq lp fu (aq st))(hb:aM st=jY p)(sc:qy (aq st))(ln:jX p)(Z:ZK K mg Cu D)(R:nu K mg)(cls:iz K hc0)
  (hD:∃(fa:Addr) (fd:FuncData) (ps:List Str),Meth K hc0 "on_duty" fa/\Binds K fd ps []/\cf P w K mg base (eA P w) k fa fd ps (iR K ps.length (rz (av "on_duty")) Cu)/\∀ds M M',rz (av "on_duty") ds M=some M'->ds.length=ps.length)
  (hG:∃(fa:Addr) (fd:FuncData) (ps:List Str),Meth K hc0 "ground_of" fa/\Binds K fd ps []/\cf P w K mg base (eA P w) k fa fd ps (iR K ps.length (rz (av "ground_of")) Cu)/\∀ds M M',rz (av "ground_of") ds M=some M'->ds.length=ps.length)
  : cf P w K mg base jP (k+2) fa fd fu (fC K fu.length (fun ds M=>match oz hc0 rz ds M with
   |some M'=>some (.ok (.bl true),M')
   |none=>none)):=by
 refine F.ok (k:=k+1) hS (fun vs H Q E h=>h.1) (fun cdv A outer s H vs Q E hr h=>?_);obtain⟨hl,ι,M,M',ds,d,S,Rp,ez,kk⟩:=h;dsimp only at ez;split at ez
 ·rename_i M1 Wt
  cases ez;rw[hb];exact⟨_,JW (X:=(eG jP P w K mg base lp "_law_unknown" (aq st) fa cdv A outer s H E).dX) (k:=k) (kk:=k) Z R hr (yH _) rfl (fun _=>rfl) rfl rfl rfl sc cls ln (IM hr) hD
   hG
   ,ι,M,_,ds,vs,rfl,hl,S,Rp,Wt,fun H' ι' S' X'=>kk _ H' ι' (.bl true) S' X'⟩
 ·cases ez
end
end L3
namespace L3
open PySem PySem.Spec PyProof.Rows L2
noncomputable def stillOk(h:Heap)(name:Str):Bool:=match h.clsAt mainGlobals name with
 |some (_,_,cd)=>eN.all fun n=>(h.nsMap cd.ns n).isNone
 |none=>false
noncomputable def Ah(h:Heap)(x:Str):Bool:=match h.clsAt mainGlobals x with
 |some (B,o,_)=>decide (o.cls=.type "type")&&!decide (h.nsMap mainGlobals "Unknown" = some (.ref B))&&!decide (h.nsMap mainGlobals "HouseError" = some (.ref B))
 |none=>false
noncomputable def FN(s:Shared):Bool:=s.heap.ownExcOk "Unknown" ["HouseError"] gQ "ValueError.__new__"&&s.heap.ownExcOk "HouseError" [] gQ "ValueError.__new__"&&stillOk s.heap "Unknown"&&stillOk s.heap "HouseError"&&pS.all (Ah s.heap)
noncomputable def AK(_:World)(h:Heap):Prop:=∃C D,h.nsMap mainGlobals "Unknown" = some (.ref C)/\h.nsMap mainGlobals "HouseError" = some (.ref D)/\ZH h C D/\∀x∈pS,∃B,h.nsMap mainGlobals x=some (.ref B)/\B≠C/\B≠D/\ZB h B
theorem HI{h:Heap}{name:Str}{chain:List Str}(x:h.ownExcOk name chain gQ "ValueError.__new__" = true)(y:stillOk h name=true):∃C,h.nsMap mainGlobals name=some (.ref C)/\ZC h C ((chain.map fun n=>(h.nsMap mainGlobals n).getD .none)++gQ):=by
 obtain⟨C,N,nm,q,bs,hdct,sn,sub,ab,col,dd,k0,k1,k2,k3,k5,hb,hC,hN,_⟩:=Heap.ownExc_of_ok x;refine⟨C,hb,N,nm,q,bs,hdct,sn,sub,ab,col,dd,k0,k1,k2,k3,k5,_,hC,hN,fun n hn=>?_⟩;unfold stillOk at y;cases hf:h.clsAt mainGlobals name with
 |none=>rw[hf]at y;cases y
 |some z =>
  obtain⟨C',o',cd'⟩:=z;rw[hf]at y;obtain⟨hn',ho',hd'⟩:=xV hf;rw[hb]at hn';obtain rfl:C=C':=by injection hn' with q1;injection q1
  rw[hC]at ho';obtain rfl:=Option.some.inj ho';obtain rfl:_=cd':=by injection hd'
  exact ya.mp (zD.mp y n hn)
theorem Rq(w:World)(s:Shared)(x:FN s=true):AK w s.heap:=by
 unfold FN at x;simp only[zx]at x;obtain⟨⟨⟨⟨x1,x2⟩,x3⟩,x4⟩,x5⟩:=x;obtain⟨C,c1,c2⟩:=HI x1 x3;obtain⟨D,d1,d2⟩:=HI x2 x4;refine⟨C,D,c1,d1,⟨?_,d2⟩,fun x hx=>?_⟩
 ·rw[zK,yJ,d1]at c2
  exact c2
 ·have y:=zD.mp x5 x hx
  unfold Ah at y;cases hf:s.heap.clsAt mainGlobals x with
  |none=>rw[hf]at y;cases y
  |some z =>
   obtain⟨B,o,cd⟩:=z;rw[hf]at y;obtain⟨h1,h2,h3⟩:=xV hf;simp only[zx,decide_eq_true_eq,yf,decide_eq_false_iff_not]at y;obtain⟨⟨y1,y2⟩,y3⟩:=y;exact⟨B,h1,fun q=>y2 (q▸c1),fun q=>y3 (q▸d1),o,cd,h2,y1,h3⟩
theorem gZ{h h':Heap}{a:Addr}{x:Str}{v:Value}(k:∀b o,h.get? b=some o->h'.get? b=some o)(e:h.nsMap a x=some v):h'.nsMap a x=some v:=by
 unfold Heap.nsMap at e ⊢;split at e
 ·rename_i o ho
  rw[k _ _ ho];exact e
 ·cases e
theorem JM(w:World)(h h':Heap)(z:AK w h)(k:∀b o,h.get? b=some o->h'.get? b=some o):AK w h':=by
 obtain⟨C,D,c,d,zh,ot⟩:=z;refine⟨C,D,gZ k c,gZ k d,zh.keeps k,fun x hx=>?_⟩;obtain⟨B,b1,b2,b3,o,cd,b4,b5⟩:=ot x hx;exact⟨B,gZ k b1,b2,b3,o,cd,k _ _ b4,b5⟩
noncomputable def NR:List Str:=(["__getattribute__","__getattr__","__setattr__"]:List Str)++kW
noncomputable def G2(ms:List Str)(h:Heap):Bool:=match h.clsAt mainGlobals "House" with
 |some (C,o,cd)=>decide (o.cls=.type "type")&&decide (cd.mro=[.ref C,.type "object"])&&!cd.abstract&&!cd.hasDel&&cd.hasDict&&decide ((o.slots.toList[4]?).join=some (.builtin "object.__new__"))&&h.isNs cd.ns&&(NR.all fun n=>(h.nsMap cd.ns n).isNone) &&
  ms.all fun m=>match h.fnAt cd.ns m with
   |some (_,o,_)=>decide (o.cls=.type "function")
   |none=>false
 |none=>false
noncomputable def G1(cg:List (Str×Stmt))(h:Heap):List (Option FnShape):=match h.clsAt mainGlobals "House" with
 |some (_,_,cd)=>cg.map fun p=>h.shapeAt cd.ns p.1
 |none=>[]
noncomputable def Bg(p:Str×Stmt):Option FnShape:=some ⟨p.1,av p.1,bC p.2,.stmts (aM p.2),aq p.2,mainGlobals,[],.none,.none,none,.none,builtinsNs,true⟩
noncomputable def qA(cg:List (Str×Stmt))(h:Heap):Prop:=∃C od cd sl mN,h.nsMap mainGlobals "House" = some (.ref C)/\h.get? C=some ⟨.type "type",od,.cls cd,sl⟩/\cd.mro=[.ref C,.type "object"]/\cd.abstract=false/\cd.hasDel=false/\cd.hasDict=true/\(sl.toList[4]?).join=some (.builtin "object.__new__")/\h.Ns cd.ns mN/\(∀x∈NR,mN x=none) /\
 ∀p∈cg,∃fI od iW doc pm cdv,mN p.1=some (.ref fI)/\h.get? fI=some ⟨.type "function",od,.func (Z1 p.1 (av p.1) (bC p.2) (aM p.2) (aq p.2) .none .none doc pm none cdv .none),iW⟩/\h.CodeRec cdv (av p.1)
theorem Pu{cg:List (Str×Stmt)}{h:Heap}(x:G2 (cg.map (·.1)) h=true)(y:G1 cg h=cg.map Bg):qA cg h:=by
 unfold G2 at x;unfold G1 at y;cases hf:h.clsAt mainGlobals "House" with
 |none=>rw[hf]at x;cases x
 |some z =>
  obtain⟨C,o,cd⟩:=z;rw[hf]at x y;obtain⟨hn,ho,hd⟩:=xV hf;obtain⟨oc,dd,dt,sl⟩:=o;simp only[zx,decide_eq_true_eq,yf]at x;obtain⟨⟨⟨⟨⟨⟨⟨⟨h1,h2⟩,h3⟩,h4⟩,h5⟩,h6⟩,h7⟩,h8⟩,h9⟩:=x;obtain rfl:oc=.type "type":=h1;obtain rfl:dt=_:=hd;refine⟨C,dd,cd,sl,_,hn,ho,h2,h3,h4,h5,h6,.of_isNs h7,fun n hn=>ya.mp (zD.mp h8 n hn),fun p hp=>?_⟩;have yp:h.shapeAt cd.ns p.1=Bg p:=xE.mp y p hp;have hfn:=zD.mp h9 p.1 (yN.mpr ⟨p,hp,rfl⟩);unfold Heap.shapeAt at yp;cases hg:h.fnAt cd.ns p.1 with
  |none=>rw[hg]at yp;cases yp
  |some z =>
   obtain⟨fI,o',fd⟩:=z;rw[hg]at yp hfn;obtain⟨hn',ho',hd'⟩:=Heap.fnAt_spec hg;obtain⟨n,q',ps,b,sc,g,cl,df,kd,doc,pm,an,code,ct,bi⟩:=fd;unfold Bg at yp;simp only[yV,Option.some.injEq,FnShape.mk.injEq]at yp;obtain⟨rfl,rfl,rfl,rfl,rfl,rfl,rfl,rfl,rfl,rfl,rfl,rfl,hc⟩:=yp;obtain⟨oc',od',dt',osl'⟩:=o';cases hd';simp only[decide_eq_true_eq]at hfn;subst hfn;exact⟨fI,od',osl',doc,pm,code,hn',ho',.of_ok hc⟩
theorem G0{cg:List (Str×Stmt)}{h h':Heap}(z:qA cg h)(k:∀b o,h.get? b=some o->h'.get? b=some o):qA cg h':=by
 obtain⟨C,od,cd,sl,mN,h1,h2,h3,h4,h5,h6,h7,h8,h9,NU⟩:=z;refine⟨C,od,cd,sl,mN,gZ k h1,k _ _ h2,h3,h4,h5,h6,h7,h8.keeps k,h9,fun p hp=>?_⟩;obtain⟨fI,od',iW,doc,pm,cdv,g1,g2,g3⟩:=NU p hp;exact⟨fI,od',iW,doc,pm,cdv,g1,k _ _ g2,g3.keeps k⟩
noncomputable def fK(cg:List (Str×Stmt)):PySem.W.Hook:=⟨Bool×List (Option FnShape),fun s=>(FN s&&G2 (cg.map (·.1)) s.heap,G1 cg s.heap),fun _=>(true,cg.map Bg),fun w h=>AK w h/\qA cg h,
 fun w s e=>by
  obtain⟨e1,e2⟩:=Prod.mk.inj e;rw[zx]at e1;exact⟨Rq w s e1.1,Pu e1.2 e2⟩,
 fun w h h' x k=>⟨JM w h h' x.1 k,G0 x.2 k⟩⟩
end L3
namespace L3
open PySem PySem.Spec PyProof.Rows L2
theorem Qk{α:Type}{P:List α->Prop}(h:∀a,P [a]):∀us:List α,us.length=1->P us
 |[a],_=>h a
theorem U2{α:Type}{P:List α->Prop}(h:∀a b,P [a,b]):∀us:List α,us.length=2->P us
 |a::r,z9=>Qk (P:=fun r=>P (a::r)) (fun b=>h a b) r (Nat.succ.inj z9)
theorem U1{α:Type}{P:List α->Prop}(h:∀a b c,P [a,b,c]):∀us:List α,us.length=3->P us
 |a::r,z9=>U2 (P:=fun r=>P (a::r)) (fun b c=>h a b c) r (Nat.succ.inj z9)
theorem U0{α:Type}{P:List α->Prop}(h:∀a b c d,P [a,b,c,d]):∀us:List α,us.length=4->P us
 |a::r,z9=>U1 (P:=fun r=>P (a::r)) (fun b c d=>h a b c d) r (Nat.succ.inj z9)
structure Ent where
 x:Str
 st:Stmt
 N:List Str
 ps:List Str
 b:aI
noncomputable def tabOf(es:List Ent):List (Str×Fd):=es.map fun e=>(e.x,⟨e.N.length,e.ps.length,e.b⟩)
structure Di (fns gls bu:List Str) (tab:List (Str×Fd)) (e:Ent):Prop where
 S:cq e.N e.ps (aq e.st)
 c:dM ⟨aq e.st,e.N,fns,gls,bu⟩ 200 (aM e.st)=some e.b
 t:tab.lookup e.x=some ⟨e.N.length,e.ps.length,e.b⟩
noncomputable def vf(K:Q_)(mg:Str->Option Value)(e:Ent):Prop:=∃(fa:Addr) (fd:FuncData),eL K e.x e.x e.st fa fd/\mg e.x=some (.ref fa)/\Binds K fd e.ps []
noncomputable def oh(K:Q_)(C:Addr)(m:Str)(e:Ent):Prop:=e.x=av m/\∃(fa:Addr) (fd:FuncData),eL K m (av m) e.st fa fd/\Meth K C m fa/\Binds K fd e.ps []
noncomputable def OA(K:Q_)(mg:Str->Option Value)(C:Addr)(e:Ent):Prop:=e.x = "House.__init__"/\∃(fa:Addr) (fd:FuncData),eL K "__init__" "House.__init__" e.st fa fd/\Mk K C fa/\mg "House" = some (.ref C)/\Binds K fd e.ps []
noncomputable def WX(K:Q_)(mg:Str->Option Value)(gl:Str->Option D)(x:Str):Prop:=∃d u v,gl x=some d/\mg x=some u/\RelV v u/\∀ι H,Rep K ι H d v
noncomputable def A0:List Str:=["known_rota","on_duty","ground_of"]
structure HH (K:Q_) (mg:Str->Option Value) (gl:Str->Option D) (es ms:List Ent) (gls bu:List Str) (C Cu Dd:Addr):Prop where
 ok:∀e∈es++ms,Di (es.map (·.x)) gls bu (tabOf (es++ms)) e
 df:∀e∈es,vf K mg e
 dm:∀m∈kU,∃e∈ms,oh K C m e
 di:∃e∈ms,OA K mg C e
 gs:∀x∈gls,WX K mg gl x
 bs:∀x∈bu,mg x=none
 cls:iz K C
 kJ:∀f∈kW,eK K C f
 Z:ZK K mg Cu Dd
 R:nu K mg
 rf:∃(fa:Addr) (fd:FuncData) (st:Stmt) (p:Nat->Pos),eL K "_law_unknown" "_law_unknown" st fa fd/\mg "_law_unknown" = some (.ref fa)/\Binds K fd fu []/\cq lp fu (aq st)/\aM st=jY p/\qy (aq st)/\jX p
 zm:∀m∈A0,∃e∈ms,oh K C m e/\eo 200 (aM e.st) e.b=true
 zf:∃e∈es,e.x = "standing_saying"/\eo 200 (aM e.st) e.b=true
section
variable {P:Program}{w:World}{K:Q_}{mg:Str->Option Value}{base:Heap}{es ms:List Ent}{gls bu:List Str}{gl:Str->Option D}{srt:List D->Option (List D)}{n0:Nat}{C Cu Dd:Addr}
noncomputable abbrev CN(es ms:List Ent) (gl:Str->Option D) (srt:List D->Option (List D)) (n0:Nat) (C:Addr) (k:Nat):Ctx:=je (tabOf (es++ms)) gl srt (n0,C) k
theorem lj(k:Nat):(CN es ms gl srt n0 C k).hc=C:=by cases k <;> rfl
noncomputable def AR(P:Program)(w:World)(K:Q_)(mg:Str->Option Value)(base:Heap)(g:List D->Mo D)(k:Nat)(fa:Addr)(fd:FuncData)(ps:List Str):Prop:=cf P w K mg base jP (2*k) fa fd ps (fC K ps.length g)/\∀ds M d M',g ds M=some (.ok d,M')->ds.length=ps.length
structure Dm (P:Program) (w:World) (K:Q_) (mg:Str->Option Value) (base:Heap) (es:List Ent) (C Cu:Addr) (Γ:Ctx) (k:Nat):Prop where
 a:∀e∈es,∃(fa:Addr) (fd:FuncData),eL K e.x e.x e.st fa fd/\mg e.x=some (.ref fa)/\Binds K fd e.ps []/\AR P w K mg base (Γ.fn e.x) k fa fd e.ps
 m:∀m∈kU,∃(fa:Addr) (fd:FuncData) (ps:List Str),Meth K C m fa/\Binds K fd ps []/\AR P w K mg base (Γ.fn (av m)) k fa fd ps
 i:∃(fa:Addr) (fd:FuncData) (ps:List Str),Mk K C fa/\mg "House" = some (.ref C)/\Binds K fd ps []/\AR P w K mg base (Γ.fn "House.__init__") k fa fd ps
 r:∃(fa:Addr) (fd:FuncData),mg "_law_unknown" = some (.ref fa)/\Z0 K (.ref fa)=true/\Binds K fd fu []/\AR P w K mg base (z0 Γ) k fa fd fu
 z:∀m∈A0,JC P w K mg base Γ Cu (2*k) m
 f:Q9 P w K mg base Γ Cu (2*k) "standing_saying"
variable (A:HH K mg gl es ms gls bu C Cu Dd)
include A
theorem Jx{k:Nat}(F:Dm P w K mg base es C Cu (CN es ms gl srt n0 C k) k){N ps:List Str}{x:Str}{sc:Scope}(hS:cq N ps sc){CX:lG}(fa:Addr)(cdv:Value)(Ar:Around)(outer:List Env)(s:Shared)(H:Hp)(E:XK)(hr:bJ (2*k+1) (Ar.deeper (envOfC x sc s.heap.objs.size fa cdv))) :
  aL (CN es ms gl srt n0 C k) ⟨sc,N,es.map (·.x),gls,bu⟩ (eG CX P w K mg base N x sc fa cdv Ar outer s H E).dX:={
 n:=rfl
 sc:=fun x q hx=>⟨q,hx,.inl rfl⟩
 calm:=rfl
 hu:=IM hr
 dX:=rfl
 fns:=fun x hx=>by
  obtain⟨e',he',rfl⟩:=yN.mp hx;obtain⟨fa',fd',g0,g1,g3,g4,g5⟩:=F.a e' he';exact⟨2*k,fa',fd',e'.ps,g1,g0.kp,g3,g4,hr.mono (yH _),g5⟩
 gls:=fun x hx=>by
  obtain⟨d',u,v,g1,g2,g3,g4⟩:=A.gs x hx;refine⟨d',u,v,?_,g2,g3,g4⟩;cases k <;> exact g1
 bu:=A.bs
 cls:=by rw[lj];exact A.cls
 kJ:=by rw[lj];exact A.kJ
 lV:=fun m hm=>by
  obtain⟨fa',fd',ps',g1,g3,g4,g5⟩:=F.m m hm;rw[lj];exact⟨2*k,fa',fd',ps',g1,g3,g4,hr.mono (yH _),g5⟩
 Ir:=by
  obtain⟨fa',fd',ps',g1,g2,g3,g4,g5⟩:=F.i;rw[lj];exact⟨2*k,fa',fd',ps',g1,g2,g3,g4,hr,g5⟩
 rfs:=by
  obtain⟨fa',fd',g1,g2,g3,g4,g5⟩:=F.r;exact⟨2*k,fa',fd',fu,g1,g2,g3,g4,hr.mono (yH _),g5⟩
 nd:=hS.nd }
omit A in
theorem PF{tab:List (Str×Fd)}{wh:Wh}{k:Nat}{x:Str}{n p:Nat}{b:aI}(ht:tab.lookup x=some ⟨n,p,b⟩):(je tab gl srt wh (k+1)).fn x=fun xs=>(do need (xs.length=p);nA (je tab gl srt wh k) n b xs:Mo D):=by
 funext xs;show (match tab.lookup x with
  |some d=>(do need (xs.length=d.p);nA (je tab gl srt wh k) d.n d.b xs:Mo D)
  |none=>Mo.stop)=_
 rw[ht]
omit A in
theorem O0{tab:List (Str×Fd)}{wh:Wh}{k:Nat}{x:Str}{n p:Nat}{b:aI}(ht:tab.lookup x=some ⟨n,p,b⟩):(je tab gl srt wh (k+1)).rz x=fun xs M=>if xs.length=p then cM (je tab gl srt wh k) b (xs.map some++zM (n-xs.length) none) M else none:=by
 funext xs M;show (match tab.lookup x with
  |some d=>if xs.length=d.p then cM (je tab gl srt wh k) d.b (xs.map some++zM (d.n-xs.length) none) M else none
  |none=>none)=_
 rw[ht]
theorem qu{k:Nat}(cN:ic (CN es ms gl srt n0 C k))(F:Dm P w K mg base es C Cu (CN es ms gl srt n0 C k) k){e:Ent}(he:e∈es++ms){nm:Str}{fa:Addr}{fd:FuncData}{q:Str}(hf:eL K nm q e.st fa fd):AR P w K mg base ((CN es ms gl srt n0 C (k+1)).fn e.x) (k+1) fa fd e.ps:=by
 obtain⟨hS,hc,ht⟩:=A.ok e he;have hfn:(CN es ms gl srt n0 C (k+1)).fn e.x=_:=PF ht;rw[hfn];refine⟨?_,fun ds M d M' h=>?_⟩
 ·refine hf.ok (k:=2*k+1) hS (fun vs H Q E h=>h.1) (fun cdv Ar outer s H vs Q E hr h=>?_)
  obtain⟨hl,ι,M,M',ds,d,S,r,eq,kk⟩:=h;obtain⟨_,M0,e1,eq1⟩:=ae eq;obtain⟨hn,hM⟩:=aG e1;rw[hM]at eq1;obtain⟨f,M1,e2,eq2⟩:=ae eq1;refine⟨_,(ou (sound cN) 200).Ss _ _ _ _ (Jx A F hS fa cdv Ar outer s H E hr) (fun _=>rfl) hc,?_⟩;refine⟨ι,_,_,f,M1,S,rh (N:=e.N) r,e2,fun H' ι' S' X'=>?_⟩;cases f with
  |nx ρ=>obtain⟨rfl,rfl⟩:=ah eq2;exact fun σ _=>kk .non H' ι' .non S' X'
  |rt v=>obtain⟨rfl,rfl⟩:=ah eq2;exact fun v' r'=>kk v' H' ι' r' S' X'
  |bk ρ=>exact(ai eq2).elim
  |ct ρ=>exact(ai eq2).elim
 ·obtain⟨_,_,e1,_⟩:=ae h
  exact(aG e1).1
theorem tG{k:Nat}(cN:ic (CN es ms gl srt n0 C k))(F:Dm P w K mg base es C Cu (CN es ms gl srt n0 C k) k){e:Ent}(he:e∈es++ms)(hz:eo 200 (aM e.st) e.b=true){nm:Str}{fa:Addr}{fd:FuncData}{q:Str}(hf:eL K nm q e.st fa fd) :
  cf P w K mg base (eA P w) (2*(k+1)) fa fd e.ps (iR K e.ps.length ((CN es ms gl srt n0 C (k+1)).rz e.x) Cu)/\∀ds M M',(CN es ms gl srt n0 C (k+1)).rz e.x ds M=some M'->ds.length=e.ps.length:=by
 obtain⟨hS,hc,ht⟩:=A.ok e he;have hrz:(CN es ms gl srt n0 C (k+1)).rz e.x=_:=O0 ht;rw[hrz];refine⟨DQ (k:=2*k+1) (kk:=2*k) hf hS hc hz A.Z (sound cN) (yH _) (fun cdv Ar outer s H E hr=>Jx A F hS fa cdv Ar outer s H E hr) (F.z _ (by decide))
  F.f
  ,fun ds M M' h=>?_⟩
 dsimp only at h;split at h
 ·assumption
 ·cases h
omit A in
theorem qd{fa:Addr}{fd:FuncData}{ps:List Str}:AR P w K mg base (fun _=>Mo.stop) 0 fa fd ps:=by
 refine⟨⟨fun vs H Q E h=>h.1,fun Ar outer s H args us vs Q E _ _ _ _ h=>?_⟩,fun ds M d M' h=>(ai h).elim⟩;obtain⟨_,_,_,_,_,_,_,_,e,_⟩:=h;exact(ai e).elim
omit A in
theorem Al{fa:Addr}{fd:FuncData}{ps:List Str}{z:List D->MH->Option MH}(hz:∀ds M,z ds M=none):cf P w K mg base (eA P w) (2*0) fa fd ps (iR K ps.length z Cu)/\∀ds M M',z ds M=some M'->ds.length=ps.length:=by
 refine⟨⟨fun vs H Q E h=>h.1,fun Ar outer s H args us vs Q E _ _ _ _ h=>?_⟩,fun ds M M' h=>(by rw[hz]at h;cases h)⟩;obtain⟨_,_,_,_,_,_,_,e,_⟩:=h;rw[hz]at e;cases e
theorem Lg(cN:∀k,ic (CN es ms gl srt n0 C k))(k:Nat):Dm P w K mg base es C Cu (CN es ms gl srt n0 C k) k:=by
 obtain⟨fr,Q1,str,pr,Fr,mr,br,Sr,V8,UM,Vl⟩:=A.rf;induction k with
 |zero =>
  refine { a:=fun e he=>?_,m:=fun m hm=>?_,i:=?_,r:=?_,z:=fun m hm=>?_,f:=?_ }
  ·obtain⟨fa,fd,F,hm,hb⟩:=A.df e he
   exact⟨fa,fd,F,hm,hb,qd⟩
  ·obtain⟨e,he,ex,fa,fd,F,hm,hb⟩:=A.dm m hm
   exact⟨fa,fd,e.ps,hm,hb,qd⟩
  ·obtain⟨e,he,ex,fa,fd,F,hm,hg,hb⟩:=A.di
   exact⟨fa,fd,e.ps,hm,hg,hb,qd⟩
  ·refine⟨fr,Q1,mr,Fr.kp,br,⟨⟨fun vs H Q E h=>h.1,fun Ar outer s H args us vs Q E _ _ _ _ h=>?_⟩,fun ds M d M' h=>(by cases h)⟩⟩
   obtain⟨_,_,_,_,_,_,_,_,e,_⟩:=h;cases e
  ·obtain⟨e,he,⟨ex,fa,fd,F,hm,hb⟩,_⟩:=A.zm m hm
   obtain⟨h1,h2⟩:=Al (P:=P) (w:=w) (K:=K) (mg:=mg) (base:=base) (Cu:=Cu) (fa:=fa) (fd:=fd) (ps:=e.ps) (z:=(CN es ms gl srt n0 C 0).rz (av m)) (fun _ _=>rfl);exact⟨fa,fd,e.ps,hm,hb,h1,h2⟩
  ·obtain⟨e,he,ex,_⟩:=A.zf
   obtain⟨fa,fd,F,hm,hb⟩:=A.df e he;rw[ex]at hm;obtain⟨h1,h2⟩:=Al (P:=P) (w:=w) (K:=K) (mg:=mg) (base:=base) (Cu:=Cu) (fa:=fa) (fd:=fd) (ps:=e.ps) (z:=(CN es ms gl srt n0 C 0).rz "standing_saying") (fun _ _=>rfl);exact⟨fa,fd,e.ps,hm,F.kp,hb,h1,h2⟩
 |succ k F =>
  have hs:=cN k;refine { a:=fun e he=>?_,m:=fun m hm=>?_,i:=?_,r:=?_,z:=fun m hm=>?_,f:=?_ }
  ·obtain⟨fa,fd,Fn,hm,hb⟩:=A.df e he
   exact⟨fa,fd,Fn,hm,hb,qu A hs F (zQ _ he) Fn⟩
  ·obtain⟨e,he,ex,fa,fd,Fn,hm',hb⟩:=A.dm m hm
   refine⟨fa,fd,e.ps,hm',hb,?_⟩;rw[<- ex];exact qu A hs F (zE _ he) Fn
  ·obtain⟨e,he,ex,fa,fd,Fn,hm',hg,hb⟩:=A.di
   refine⟨fa,fd,e.ps,hm',hg,hb,?_⟩;rw[<- ex];exact qu A hs F (zE _ he) Fn
  ·refine⟨fr,Q1,mr,Fr.kp,br,A3 (k:=2*k) (hc0:=C) (rz:=(CN es ms gl srt n0 C k).rz) Fr Sr V8 UM Vl A.Z A.R A.cls ?_
    ?_
    ,fun ds M d M' h=>?_⟩
   ·have:=F.z "on_duty" (by decide)
    unfold JC at this;rw[lj]at this;exact this
   ·have:=F.z "ground_of" (by decide)
    unfold JC at this;rw[lj]at this;exact this
   ·replace h:(match oz C (CN es ms gl srt n0 C k).rz ds M with
     |some M'=>(some (.ok (.bl true),M'):Option (Out D×MH))
     |none=>none)=some (.ok d,M'):=h
    cases q:oz C (CN es ms gl srt n0 C k).rz ds M with
    |none=>rw[q]at h;cases h
    |some M1 =>
     unfold oz at q;split at q
     ·rfl
     ·cases q
  ·obtain⟨e,he,⟨ex,fa,fd,Fn,hm',hb⟩,hz⟩:=A.zm m hm
   obtain⟨h1,h2⟩:=tG (P:=P) (w:=w) (base:=base) A hs F (zE _ he) hz Fn;rw[ex]at h1 h2;exact⟨fa,fd,e.ps,by rw[lj];exact hm',hb,h1,h2⟩
  ·obtain⟨e,he,ex,hz⟩:=A.zf
   obtain⟨fa,fd,Fn,hm',hb⟩:=A.df e he;obtain⟨h1,h2⟩:=tG (P:=P) (w:=w) (base:=base) A hs F (zQ _ he) hz Fn;rw[ex]at h1 h2 hm';exact⟨fa,fd,e.ps,hm',Fn.kp,hb,h1,h2⟩
end
theorem qU{K:Q_}{ι:List Addr}{H:Hp}:∀ns:List Int,aB K ι H (ns.map D.int) (ns.map V.int)
 |[]=>.nil
 |n::r=>.cons (.int n) (qU r)
theorem PD{K:Q_}{H:Hp}{a:Addr}{xs:List V}(hO:Dh H)(h:aN K H a xs):vd K H a xs:=by
 rcases h with (h|h)|h
 ·rcases hO a with z|⟨o,ys,z⟩
  ·rw[z]at h;cases h
  ·rw[z]at h;cases h
 ·exact .inl h
 ·exact .inr h
theorem LM{K:Q_}{H:Hp}{a:Addr}{ns:List Int}{g:List D->Mo D}{E:XK}(hO:Dh H)(hS:aN K H a (ns.map V.int))(hg:∃M',g [.fl (ns.map .int)] []=some (.ok (.bl true),M')):fC K 1 g [.ref a] H (fun v _=>v=.bl true) E:=by
 obtain⟨M',e⟩:=hg;refine⟨rfl,[],[],M',_,_,⟨rfl,fun i j a h=>by simp at h,fun i a o h=>by simp at h⟩,.cons (.fl (PD hO hS) (qU ns)) .nil,e,fun v H' ι' r _ _=>?_⟩;cases r;rfl
end L3
namespace L3
open PySem PySem.Spec PyProof.Rows L2
noncomputable def Io:List D->Option (List D):=fun _=>none
theorem LK{Γ:Ctx}(h:Γ.srt=Io):ic Γ:=by
 refine⟨?_,?_,trivial,trivial,trivial⟩
 ·trivial
 ·intro S X f a p1 p4 fa C hs hp ha pins s σ H Q I q
  exfalso;obtain⟨ι,ρ,M,d,M',S',R,e,k⟩:=q
  obtain⟨x,M1,e1,ea⟩:=ae e;obtain⟨ds,M2,e2,eb⟩:=ae ea;obtain⟨ys,M3,e3,ec⟩:=ae eb;rw[h]at e3;cases e3
end L3
namespace L3
open PySem PySem.Spec PySem.Calls PyProof.Rows L2
noncomputable def aU(h:Heap):Q_:=(List.range h.objs.size).filterMap fun a=>(h.get? a).map fun o=>(a,o)
theorem kg{h:Heap}{a:Addr}:∀l:List Nat,(l.filterMap fun a=>(h.get? a).map fun o=>(a,o)).lookup a=if a∈l then h.get? a else none
 |[]=>rfl
 |b::l=>by
  rw[yk];by_cases e:a=b
  ·subst e
   rw[if_pos (zR ..)];cases g:h.get? a with
   |none =>
    simp only[wM];rw[kg l,g];split <;> rfl
   |some o=>simp only[yV,List.lookup_cons_self]
  ·have hb:(a==b)=false:=by simpa using e
   have hm:(a∈b::l)=(a∈l):=by simp[e]
   simp only[hm];cases g:h.get? b with
   |none=>simp only[wM];exact kg l
   |some o=>simp only[yV,yq,hb];exact kg l
theorem cH{h:Heap}{a:Addr}{o:Obj}(e:h.get? a=some o):(aU h).lookup a=some o:=by
 unfold aU;rw[kg,if_pos,e];rw[xz];unfold Heap.get? at e;by_cases q:a<h.objs.size
 ·exact q
 ·rw[xu (wF q)]at e
  simp at e
theorem G8(h:Heap):(aU h).In h:=by
 intro a o e;unfold aU at e;rw[kg]at e;split at e
 ·exact e
 ·cases e
theorem mP{h:Heap}{cd:Value}{x:Str}(c:h.CodeRec cd x):Z7 (aU h) cd x=true:=by
 obtain⟨c,o,vs,t,rfl,e,d,v⟩:=c;have e':=cH e;obtain⟨oc,od,da,sl⟩:=o;cases d;unfold Z7;simp only[e'];rw[<- xY]at v;cases q:vs.toList with
 |nil=>rw[q]at v;cases v
 |cons y r =>
  cases r with
  |nil=>rw[q]at v;cases v
  |cons z r =>
   rw[q]at v;cases v;simp
noncomputable def Oh:Stmt->Pos
 |.FunctionDef _ _ _ _ _ _ _ _ _ pos=>pos
 |_=>⟨0,0,0,0⟩
noncomputable def nE(x:Str)(st:Stmt):DefRec:=⟨x,bC st,aM st,aq st,Oh st⟩
section
variable {q:Program}{lo:List Str}{iX:ExcName->Option Value}{mg mb:Str->Option Value}{h:Heap}{bu:List Str}
theorem vf.Ee(T:Top q lo iX mg mb h){rs:List DefRec}(hr:recsOf q=rs)(i:Nat){e:Ent}(hm:rs[i]?=some (nE e.x e.st))
  (hb:∀(kV doc pm:Value) (an:Option Addr) (cdv ct:Value) (us:List Value),us.length=e.ps.length->bindArgs (Z1 e.x e.x (bC e.st) (aM e.st) (aq e.st) .none kV doc pm an cdv ct) ⟨us,[]⟩=pure (e.ps.zip us)):vf (aU h) mg e:=by
 obtain⟨a,o,pm,code,doc,h1,h2,h3,h4⟩:=T.fn _ (zF (hr▸hm));obtain⟨oc,od,da,sl⟩:=o;cases h3;have l:=cH h2;have F:eL (aU h) e.x e.x e.st a _:=pA (st:=e.st) (cdv:=code) l (mP h4) (by unfold Z0;simp only[l]);exact⟨a,_,F,h1,F.binds hb⟩
noncomputable def Jo(q:Program)(lo bu:List Str):Bool:=bu.all fun x=>!(startupNames.contains x||lo.contains x||((recsOf q).map (·.name)).contains x||((litsOf q).map (·.1)).contains x||((clssOf q lo).map (·.name)).contains x)
theorem mM(T:Top q lo iX mg mb h)(e:Jo q lo bu=true):∀x∈bu,mg x=none:=by
 intro x hx
 have:=zD.mp e x hx
 simp only[yf,Bool.or_eq_false_iff,List.contains_eq_mem,decide_eq_false_iff_not]at this;obtain⟨⟨⟨⟨h1,h2⟩,h3⟩,h4⟩,h5⟩:=this;exact T.free x h1 h2 h3 h4 h5
theorem JH{w:World}(hn:h.Ns mainGlobals mg)(z:AK w h):∃C D,ZK (aU h) mg C D:=by
 obtain⟨C,D,c,d,zh,ot⟩:=z;have e:=hn.eq_nsMap;have k:∀h':Heap,(aU h).In h'->∀b o,h.get? b=some o->h'.get? b=some o:=fun h' hi b o q=>hi b o (cH q);refine⟨C,D,by rw[e];exact c,by rw[e];exact d,fun h' hi=>zh.keeps (k h' hi),fun x hx=>?_⟩;obtain⟨B,b1,b2,b3,o,cd,b4,b5⟩:=ot x hx;exact⟨B,by rw[e];exact b1,b2,b3,fun h' hi=>⟨o,cd,k h' hi _ _ b4,b5⟩⟩
theorem Pk{N:Addr}{mN:Str->Option Value}(hN:h.Ns N mN)(x:Str):Y8 (aU h) N x=some (mN x):=by
 obtain⟨o,es,ep,ho,hd,sk,hf⟩:=hN;obtain⟨oc,od,da,sl⟩:=o;cases hd;unfold Y8;rw[cH ho];dsimp only;have e:=hf x;unfold nsFind findBy at e;rw[<- wp]at e;cases q:es.toList.find? (fun e=>e.key.isStr x) with
 |some en=>rw[q]at e;rw[<- e];rfl
 |none =>
  rw[q]at e;have nr:es.toList.any (·.refKey)=false:=by
   rw[xy];intro e' he';obtain⟨n,t,hk⟩:=sk e' (Array.mem_def.mpr he');unfold DictEntry.refKey;rw[hk];exact zu
  dsimp only;rw[nr,if_neg zu,<- e];rfl
theorem AG{C:Addr}{oc:Value}{od:Option Addr}{cd:ClassData}{sl:Array (Option Value)}{mN:Str->Option Value}(hC:h.get? C=some ⟨oc,od,.cls cd,sl⟩)(hm:cd.mro=[.ref C,.type "object"])(hN:h.Ns cd.ns mN)(x:Str) :
  Z2 (aU h) (.ref C) x=match mN x with
   |some v=>some (some v)
   |none=>some (fastBuiltinOwn "object" x):=by
 have l:=cH hC;unfold Z2;dsimp only;rw[l];dsimp only;rw[hm];unfold Y9 Y_;dsimp only;rw[l];dsimp only;rw[Pk hN];cases mN x with
 |some v=>rfl
 |none =>
  dsimp only;unfold Y9 Y_;dsimp only;cases fastBuiltinOwn "object" x <;> rfl
theorem KL{cg:List (Str×Stmt)}(hn:h.Ns mainGlobals mg)(z:qA cg h):∃C,mg "House" = some (.ref C)/\iz (aU h) C/\(∀f∈kW,eK (aU h) C f)/\(∀p∈cg,∃fa kV doc pm an cdv ct,eL (aU h) p.1 (av p.1) p.2 fa (Z1 p.1 (av p.1) (bC p.2) (aM p.2) (aq p.2) .none kV doc pm an cdv ct)/\Meth (aU h) C p.1 fa)/\X_ (aU h) C=true/\Z0 (aU h) (.ref C)=true:=by
 obtain⟨C,od,cd,sl,mN,h1,h2,h3,h4,h5,h6,h7,h8,h9,NU⟩:=z;have e:=hn.eq_nsMap;have l:=cH h2;have cl:V_ (aU h) C=some cd:=by unfold V_;rw[l]
 have Jp:∀x∈NR,∀{r:Option Value},fastBuiltinOwn "object" x=r->Z2 (aU h) (.ref C) x=some r:=fun x hx {r} hr=>by rw[AG h2 h3 h8,h9 x hx,hr]
 have ty:K_ (aU h) (.ref C)=some (.type "type"):=by unfold K_;dsimp only;rw[l];rfl
 have sp:U_ (aU h) (.ref C) "__call__" = some (some (.builtin "type.__call__")):=by
  unfold U_;rw[ty];show Z2 (aU h) (.type "type") "__call__" = _;show fastLookup "type" "__call__" = _;decide +kernel
 refine⟨C,by rw[e];exact h1,⟨?_,?_,?_,Jp _ (by decide) (by decide +kernel)⟩,fun f hf=>Jp f (zE _ hf) ?_,fun p hp=>?_,?_,?_⟩
 ·unfold Z5
  rw[Jp "__getattribute__" (by decide) (r:=some (.builtin "object.__getattribute__")) (by decide +kernel),Jp "__getattr__" (by decide) (r:=none) (by decide +kernel)];decide
 ·unfold Z9
  rw[cl];exact h6
 ·unfold Y1
  rw[cl];show PySem.W.onlyObject cd.mro=true;rw[h3];rfl
 ·revert f
  decide +kernel
 ·obtain⟨fI,od',iW,doc,pm,cdv,g1,g2,g3⟩:=NU p hp
  have lf:=cH g2;have F:eL (aU h) p.1 (av p.1) p.2 fI _:=pA (st:=p.2) (cdv:=cdv) lf (mP g3) (by unfold Z0;simp only[lf]);refine⟨fI,_,_,_,_,_,_,F,?_,?_,F.kp⟩
  ·rw[AG h2 h3 h8,g1]
  ·unfold Z_ K_
   dsimp only;rw[lf];show (some (Value.type "function")==some (Value.type "function"))=true;decide
 ·unfold X_
  rw[l];dsimp only;have ins:W_ (aU h) (.ref C) (.type "type")=some true:=by
   unfold W_;rw[ty];show PySem.W.subIn (aU h) (.type "type") (.type "type")=_;show (fastBuiltinMro "type").map (·.contains (.type "type"))=some true;decide +kernel
  rw[h4,h5,h7,h3,sp,ins];simp
 ·unfold Z0
  dsimp only;rw[l];dsimp only;rw[sp];decide
theorem oh.Ee{K:Q_}{C:Addr}{m:Str}{e:Ent}(hx:e.x=av m)(z:∃fa kV doc pm an cdv ct,eL K m (av m) e.st fa (Z1 m (av m) (bC e.st) (aM e.st) (aq e.st) .none kV doc pm an cdv ct)/\Meth K C m fa)
  (hb:∀(kV doc pm:Value) (an:Option Addr) (cdv ct:Value) (us:List Value),us.length=e.ps.length->bindArgs (Z1 m (av m) (bC e.st) (aM e.st) (aq e.st) .none kV doc pm an cdv ct) ⟨us,[]⟩=pure (e.ps.zip us)):oh K C m e:=by
 obtain⟨fa,kV,doc,pm,an,cdv,ct,F,hm⟩:=z;exact⟨hx,fa,_,F,hm,F.binds hb⟩
theorem nu.Ee(T:Top q lo iX mg mb h){rs:List DefRec}(hr:recsOf q=rs)(i:Nat){st:Stmt}(hm:rs[i]?=some (nE "_law_classes" st)){p:Nat->Pos}{dJ:Scope}
  (hb:∀(kV doc pm:Value) (an:Option Addr) (cdv ct:Value) (us:List Value),us.length=1->bindArgs (Z1 "_law_classes" "_law_classes" (bC st) (aM st) (aq st) .none kV doc pm an cdv ct) ⟨us,[]⟩=pure ((["_law_e"]:List Str).zip us))
  (S:cq lD ["_law_e"] (aq st)) (ER:aM st=pH p dJ) (sc:Dk (aq st) dJ) (l1:((p 20).endLine==(p 29).line)=true) (l2:((p 32).endLine==(p 38).line)=true) (hi:mg "isinstance" = none) (hv:mg "ValueError" = none) (hg:mg "range" = none):nu (aU h) mg:=by
 obtain⟨a,o,pm,code,doc,h1,h2,h3,h4⟩:=T.fn _ (zF (hr▸hm));obtain⟨oc,od,da,sl⟩:=o;cases h3;have l:=cH h2;have F:eL (aU h) "_law_classes" "_law_classes" st a _:=pA (st:=st) (cdv:=code) l (mP h4) (by unfold Z0;simp only[l]);exact⟨hi,hv,hg,a,_,st,p,dJ,F,h1,F.binds hb,S,ER,sc,l1,l2⟩
theorem Ln(T:Top q lo iX mg mb h){rs:List DefRec}(hr:recsOf q=rs)(i:Nat){st:Stmt}(hm:rs[i]?=some (nE "_law_unknown" st)){p:Nat->Pos}
  (hb:∀(kV doc pm:Value) (an:Option Addr) (cdv ct:Value) (us:List Value),us.length=fu.length->bindArgs (Z1 "_law_unknown" "_law_unknown" (bC st) (aM st) (aq st) .none kV doc pm an cdv ct) ⟨us,[]⟩=pure (fu.zip us))
  (S:cq lp fu (aq st)) (ER:aM st=jY p) (sc:qy (aq st)) (ln:jX p) :
  ∃(fa:Addr) (fd:FuncData) (st:Stmt) (p:Nat->Pos),eL (aU h) "_law_unknown" "_law_unknown" st fa fd/\mg "_law_unknown" = some (.ref fa)/\Binds (aU h) fd fu []/\cq lp fu (aq st)/\aM st=jY p/\qy (aq st)/\jX p:=by
 obtain⟨a,o,pm,code,doc,h1,h2,h3,h4⟩:=T.fn _ (zF (hr▸hm));obtain⟨oc,od,da,sl⟩:=o;cases h3;have l:=cH h2;have F:eL (aU h) "_law_unknown" "_law_unknown" st a _:=pA (st:=st) (cdv:=code) l (mP h4) (by unfold Z0;simp only[l]);exact⟨a,_,st,p,F,h1,F.binds hb,S,ER,sc,ln⟩
theorem KH{P:Program}{w:World}{es ms:List Ent}{gls bu:List Str}{gl:Str->Option D}{srt:List D->Option (List D)}{n0:Nat}{C Cu Dd:Addr}(A:HH (aU h) mg gl es ms gls bu C Cu Dd)(cN:∀k,ic (CN es ms gl srt n0 C k))(k:Nat){e:Ent}(he:e∈es){x:Str}(hx:e.ps=[x])
  (hb1:∀(kV doc pm:Value) (an:Option Addr) (cdv ct u:Value),bindArgs (Z1 e.x e.x (bC e.st) (aM e.st) (aq e.st) .none kV doc pm an cdv ct) ⟨[u],[]⟩=pure [(x,u)]) {fa:Addr} (Jg:mg e.x=some (.ref fa)) :
  ∃fd:FuncData,(∀(s:Shared) (u:Value),BindsTo s fd ⟨[u],[]⟩ [(x,u)])/\∀base:Heap,(aU h).In base->base.Ns mainGlobals mg->cf P w (aU h) mg base jP (2*k) fa fd [x] (fC (aU h) 1 ((CN es ms gl srt n0 C k).fn e.x)):=by
 obtain⟨fa',fd,F,hm,_⟩:=A.df e he;rw[Jg]at hm;cases hm;refine⟨fd,fun s u=>?_,fun base _ _=>?_⟩
 ·obtain⟨_,_,kV,doc,pm,an,cdv,ct,_,rfl,_⟩:=F.ex
  exact .of_eq (hb1 kV doc pm an cdv ct u)
 ·obtain⟨fa',fd',F',hm',_,g,_⟩:=(Lg (P:=P) (w:=w) (base:=base) A cN k).a e he
  rw[Jg]at hm';cases hm';obtain⟨_,_,_,_,_,_,_,_,_,_,l1,_⟩:=F.ex;obtain⟨_,_,_,_,_,_,_,_,_,_,l2,_⟩:=F'.ex;rw[l1]at l2;cases l2;rw[hx]at g;exact g
end
theorem OQ{l:PySem.W.OpenLaw}{q:Program}{loose:List Str}{XP:(Str->Option Value)->Heap->Prop}{YP:World->Heap->Prop}{d:DefRec}{x:Str}{k:Nat}(hk:bJ k callerA)(hn:l.most=some 63)(NL:d.params.defaults=[])
  (F:∀(w:World) (iX:ExcName->Option Value) (mg mb:Str->Option Value) (fa:Addr) (h:Heap),Top q (PySem.W.looseW q loose) iX mg mb h->YP w h->mg d.name=some (.ref fa) ->
   ∃(g:List D->Mo D) (fd:FuncData),(∀ns:List Int,ns.length<=63->∃M',g [.fl (ns.map .int)] []=some (.ok (.bl true),M'))/\(∀(s:Shared) (u:Value),BindsTo s fd ⟨[u],[]⟩ [(x,u)])/\∀base:Heap,(aU h).In base->base.Ns mainGlobals mg->cf l.prog w (aU h) mg base jP k fa fd [x] (fC (aU h) 1 g)) :
  PySem.W.WalkO q loose XP YP l.row.toRowW d [] (fun f vs=>PySem.call f vs):=by
 refine Rn.vP hn NL fun w s₀ s₁ mg mb fa o pm cd doc a vs ns G Y ho hd kj qV G3 hints hlen hg'=>?_;obtain⟨g,fd,hg,hb,hF⟩:=F w _ mg mb fa _ G.T Y qV;exact GR (G8 _) G.T.g G.T.b G.T.builtins G.T.nolimit hg' G3 hints (zN hlen (by decide)) hk hF hb (fun H hO hS=>LM hO hS (hg ns hlen)) fun _ _ _ z=>z
end L3
namespace L3
open PySem PySem.Spec PyProof.Rows L2
theorem Em:∀{ps:List Str} {us:List Value} (x:Str),x∈ps->us.length=ps.length->((ps.zip us).lookup x).isSome=true
 |p::ps,u::us,x,h,l=>by
  rw[yX,yq];by_cases e:x=p
  ·simp[e]
  ·have:=Em x ((zi.mp h).resolve_left e) (Nat.succ.inj l)
   simpa [beq_eq_false_iff_ne.mpr e] using this
theorem AE{p:Str}{u:Value}{l:List (Str×Value)}:∀qs:List Str,p ∉ qs->(qs.filterMap fun n=>(((p,u)::l).lookup n).map (n,·))=qs.filterMap fun n=>(l.lookup n).map (n,·)
 |[],_=>rfl
 |q::qs,h=>by
  have h:p≠q/\p ∉ qs:=not_or.mp fun x=>h (zi.mpr x);rw[yk,yk,AE qs h.2,yq,beq_eq_false_iff_ne.mpr (Ne.symm h.1)]
theorem E4:∀(ps:List Str) (us:List Value),ps.Nodup->us.length=ps.length->(ps.filterMap fun n=>((ps.zip us).lookup n).map (n,·))=ps.zip us
 |[],_,_,_=>by simp
 |p::ps,u::us,nd,l=>by
  have nd:=yT.mp nd;rw[yX,List.filterMap_cons_some (b:=(p,u)) (by simp),AE ps nd.1,E4 ps us nd.2 (Nat.succ.inj l)]
theorem Hy{fd:FuncData}{ps:List Str}(h:fd.params.posonlyargs=[]/\fd.params.args.map Arg.arg=ps/\fd.params.kwonlyargs=[]/\fd.params.vararg=none/\fd.params.kwarg=none)(hd:fd.defaults=.none)(nd:ps.Nodup)(us:List Value)(hl:us.length=ps.length):bindArgs fd ⟨us,[]⟩=pure (ps.zip us):=by
 obtain⟨h1,h2,h3,h4,h5⟩:=h;have e:ps.filter (fun n=>((ps.zip us).lookup n).isNone)=[]:=List.filter_eq_nil_iff.mpr fun x hx=>by
  have:=Em x hx hl
  revert this;cases (ps.zip us).lookup x <;> simp
 obtain⟨n,q,p,b,sc,g,c,df⟩:=fd;obtain⟨p1,p2,p3,p4,p5⟩:=p;cases h1;cases h3;cases h4;cases h5;cases hd;have h2:p2.map Arg.arg=ps:=h2;have d:¬ (decide (us.length > (p2.map Arg.arg).length)&&true)=true:=by rw[hl,h2];simp
 refine(if_neg d).trans ?_;refine(if_neg ?_).trans ?_
 ·show ¬ (!(List.filter (fun n=>(((p2.map Arg.arg).zip us).lookup n).isNone) ((p2.map Arg.arg).take ((p2.map Arg.arg).length-(List.drop (0-(p2.map Arg.arg).length) ([]:List Value)).length))).isEmpty)=true
  rw[wV,h2,yU,xS,zY,e];exact zu
 ·show (forIn (List.zip (List.drop _ _) (List.drop (0-(p2.map Arg.arg).length) ([]:List Value))) ((p2.map Arg.arg).zip us) _ >>= _)=_
  rw[wV,List.zip_nil_right];show (pure (((p2.map Arg.arg)++[]).filterMap fun n=>(((p2.map Arg.arg).zip us).lookup n).map (n,·)):Sem (List (Str×Value)))=_;rw[zJ,h2,E4 _ _ nd hl]
noncomputable def q9(s:Stmt):Str:=match s with
 |.FunctionDef n _ _ _ _ _ _ _ _ _=>n
 |_=>""
noncomputable def EE(p:Str->Str)(s:Stmt)(x:List Str)(b:aI):Ent:=⟨p (q9 s),s,(bC s).args.map Arg.arg++x,(bC s).args.map Arg.arg,b⟩
noncomputable def qI(e:Ent):Bool:=(decide ((aq e.st).kind=.function)&&!(aq e.st).isCoroutine&&!(aq e.st).isGenerator)&&(decide e.N.Nodup&&decide (e.N.take e.ps.length=e.ps))&&(e.ps.all (fun x=>decide ((aq e.st).names.lookup x=some .local\/(aq e.st).names.lookup x=some .cell))&&(aq e.st).names.all fun y=>decide (y.2≠.free)) &&
 ((bC e.st).posonlyargs.isEmpty&&decide ((bC e.st).args.map Arg.arg=e.ps)&&(bC e.st).kwonlyargs.isEmpty&&(bC e.st).vararg.isNone&&(bC e.st).kwarg.isNone)
theorem HY{e:Ent}(h:qI e=true):cq e.N e.ps (aq e.st):=by
 unfold qI at h;simp only[zx,decide_eq_true_eq,yf,zD]at h;obtain⟨⟨⟨⟨⟨a,b⟩,c⟩,d,f⟩,g,i⟩,_⟩:=h;exact⟨a,b,c,d,f,g,i⟩
theorem Bi{e:Ent}(h:qI e=true){x q:Str}(kV doc pm:Value)(an:Option Addr)(cdv ct:Value)(us:List Value)(hl:us.length=e.ps.length):bindArgs (Z1 x q (bC e.st) (aM e.st) (aq e.st) .none kV doc pm an cdv ct) ⟨us,[]⟩=pure (e.ps.zip us):=by
 have S:=HY h;unfold qI at h;simp only[zx,decide_eq_true_eq,yc,ya]at h;obtain⟨_,⟨⟨⟨a,b⟩,c⟩,d⟩,f⟩:=h;exact Hy ⟨a,b,c,d,f⟩ rfl (S.pre▸S.nd.sublist (wc _ _)) us hl
theorem Ho{fns gls bu:List Str}{tab:List (Str×Fd)}{l:List Ent}(hS:l.all qI=true)(hc:l.map (fun e=>dM ⟨aq e.st,e.N,fns,gls,bu⟩ 200 (aM e.st))=l.map fun e=>some e.b)(ht:l.map (fun e=>tab.lookup e.x)=l.map fun e=>some ⟨e.N.length,e.ps.length,e.b⟩):∀e∈l,Di fns gls bu tab e :=
 fun e he=>⟨HY (zD.mp hS e he),xE.mp hc e he,xE.mp ht e he⟩
section
variable {q:Program}{lo:List Str}{iX:ExcName->Option Value}{mg mb:Str->Option Value}{h:Heap}{es ms:List Ent}{K:Q_}{C:Addr}
theorem Hr(T:Top q lo iX mg mb h){rs:List DefRec}(hr:recsOf q=rs)(hS:es.all qI=true)(is:List Nat)(hm:is.map (fun i=>rs[i]?)=es.map fun e=>some (nE e.x e.st)):∀e∈es,vf (aU h) mg e:=fun e he=>by
 have m:some (nE e.x e.st)∈is.map fun i=>rs[i]?:=hm▸yN.mpr ⟨e,he,rfl⟩;obtain⟨i,_,hi⟩:=yN.mp m;exact vf.Ee T hr i hi (Bi (zD.mp hS e he))
noncomputable abbrev PR(K:Q_) (C:Addr) (cg:List (Str×Stmt)):Prop:=∀p∈cg,∃fa kV doc pm an cdv ct,eL K p.1 (av p.1) p.2 fa (Z1 p.1 (av p.1) (bC p.2) (aM p.2) (aq p.2) .none kV doc pm an cdv ct)/\Meth K C p.1 fa
theorem nM(hm:PR K C (ms.map fun e=>(q9 e.st,e.st)))(hS:ms.all qI=true){l:List Str}{f:Ent->Bool}(hl:l.all (fun m=>ms.any fun e=>e.x==av m&&q9 e.st==m&&f e)=true):∀m∈l,∃e∈ms,oh K C m e/\f e=true:=fun m hl'=>by
 obtain⟨e,he,h⟩:=xr.mp (zD.mp hl m hl');simp only[zx,beq_iff_eq]at h;obtain⟨⟨h1,h2⟩,h3⟩:=h;subst h2;exact⟨e,he,oh.Ee h1 (hm _ (yN.mpr ⟨e,he,rfl⟩)) (Bi (zD.mp hS e he)),h3⟩
end
end L3
namespace L3
open PySem
theorem Bz{Γ:Ctx}:∀i ρ,af Γ (.var i) ρ=(lK ρ i):=fun _ _=>rfl
theorem ON{Γ:Ctx}:∀i ρ,af Γ (.cint i) ρ=(pure (.int i)):=fun _ _=>rfl
theorem Pa{Γ:Ctx}:∀b ρ,af Γ (.cbl b) ρ=(pure (.bl b)):=fun _ _=>rfl
theorem OM{Γ:Ctx}:∀ρ,af Γ (.cnon) ρ=(pure .non):=fun _=>rfl
theorem OL{Γ:Ctx}:∀x ρ,af Γ (.cstr x) ρ=(pure (.str x)):=fun _ _=>rfl
theorem O9{Γ:Ctx}:∀x ρ,af Γ (.glb x) ρ=(lift (Γ.gl x)):=fun _ _=>rfl
theorem BR{Γ:Ctx}:∀op a b ρ,af Γ (.bin op a b) ρ=(do let x<-af Γ a ρ;let y<-af Γ b ρ;eT op x y):=fun _ _ _ _=>rfl
theorem BO{Γ:Ctx}:∀op a b ρ,af Γ (.cmp op a b) ρ=(do let x<-af Γ a ρ;let y<-af Γ b ρ;let k<-cb op x y;pure (.bl k)):=fun _ _ _ _=>rfl
theorem vF{Γ:Ctx}:∀op op' a b c ρ,af Γ (.cmp2 op op' a b c) ρ=(do
  let x<-af Γ a ρ
  let y<-af Γ b ρ
  let k<-cb op x y
  if k=true then do let z<-af Γ c ρ;let k'<-cb op' y z;pure (.bl k') else pure (.bl false)):=fun _ _ _ _ _ _=>rfl
theorem BS{Γ:Ctx}:∀a b ρ,af Γ (.and a b) ρ=(do let x<-af Γ a ρ;let k<-lift (bD x);if k=true then af Γ b ρ else pure (.bl false)):=fun _ _ _=>rfl
theorem Qi{Γ:Ctx}:∀a b ρ,af Γ (.or a b) ρ=(do let x<-af Γ a ρ;let k<-lift (bD x);if k=true then pure (.bl true) else af Γ b ρ):=fun _ _ _=>rfl
theorem O8{Γ:Ctx}:∀a ρ,af Γ (.not a) ρ=(do let x<-af Γ a ρ;let k<-lift (bD x);pure (.bl (!k))):=fun _ _=>rfl
theorem BL{Γ:Ctx}:∀c a b ρ,af Γ (.ifE c a b) ρ=(do let k<-bh Γ c ρ;if k=true then af Γ a ρ else af Γ b ρ):=fun _ _ _ _=>rfl
theorem BA{Γ:Ctx}:∀es ρ,af Γ (.tup es) ρ=(do let xs<-aR Γ es ρ;need (xs.length<=zq);pure (.tup xs)):=fun _ _=>rfl
theorem BJ{Γ:Ctx}:∀es ρ,af Γ (.lst es) ρ=(do let xs<-aR Γ es ρ;need (xs.length<=zq);bz (.lst xs)):=fun _ _=>rfl
theorem OJ{Γ:Ctx}:∀ρ,af Γ (.dic0) ρ=(bz (.aW [])):=fun _=>rfl
theorem BM{Γ:Ctx}:∀a b ρ,af Γ (.idx a b) ρ=(do let x<-af Γ a ρ;let y<-af Γ b ρ;hV x y):=fun _ _ _=>rfl
theorem BD{Γ:Ctx}:∀a lo hi ρ,af Γ (.slc a lo hi) ρ=(do let x<-af Γ a ρ;let l<-gT Γ lo ρ;let h<-gT Γ hi ρ;fR x l h):=fun _ _ _ _=>rfl
theorem mX{Γ:Ctx}:∀f es ρ,af Γ (.call f es) ρ=(do let xs<-aR Γ es ρ;Γ.fn f xs):=fun _ _ _=>rfl
theorem BQ{Γ:Ctx}:∀b es ρ,af Γ (.blt b es) ρ=(do let xs<-aR Γ es ρ;eJ b xs):=fun _ _ _=>rfl
theorem vE{Γ:Ctx}:∀j it c e ρ,af Γ (.comp j it c e) ρ=(do
  let s<-fD Γ it ρ
  need (s.ds.length<=zq)
  let ys<-dQ s.ck (iG Γ c) (af Γ e) (ρ.set j none) s.ds
  bz (.lst ys)):=fun _ _ _ _ _=>rfl
theorem Mj{Γ:Ctx}:∀a ρ,af Γ (.sortL a) ρ=(do
  let x<-af Γ a ρ
  let ds<-kL x
  let ys<-lift (Γ.srt ds)
  bz (.lst ys)):=fun _ _=>rfl
theorem vC{Γ:Ctx}:∀a ρ,af Γ (.intB a) ρ=(do let x<-af Γ a ρ;let b<-lift (bD x);pure (.int (if b then 1 else 0))):=fun _ _=>rfl
theorem BP{Γ:Ctx}:∀m a ρ,af Γ (.clr m a) ρ=(do let x<-af Γ a ρ;uT m x):=fun _ _ _=>rfl
theorem vA{Γ:Ctx}:∀a ρ,af Γ (.revL a) ρ=(do
  let x<-af Γ a ρ
  let ds<-kL x
  bz (.lst ds.reverse)):=fun _ _=>rfl
theorem BG{Γ:Ctx}:∀a ρ,af Γ (.neg a) ρ=(do
  let x<-af Γ a ρ
  (match x with
  |.int i=>pure (.int (-i))
  |_=>Mo.stop)):=fun _ _=>rfl
theorem BK{Γ:Ctx}:∀a t ρ,af Γ (.isI a t) ρ=(do let x<-af Γ a ρ;let k<-dz t x;pure (.bl k)):=fun _ _ _=>rfl
theorem vB{Γ:Ctx}:∀a t u ρ,af Γ (.isI2 a t u) ρ=(do let x<-af Γ a ρ;let k<-dz t x;let l<-dz u x;pure (.bl (k||l))):=fun _ _ _ _=>rfl
theorem vD{Γ:Ctx}:∀ks es ρ,af Γ (.dicS ks es) ρ=(do let o<-bz (.aW []);let xs<-aR Γ es ρ;pE ks o xs):=fun _ _ _=>rfl
theorem tK{Γ:Ctx}:∀i j a b e ρ,af Γ (.compZ i j a b e) ρ=(do
  let x<-af Γ a ρ
  let y<-af Γ b ρ
  let s<-ny x y
  need (s.ds.length<=zq)
  let ys<-d9 s.c1 s.c2 (af Γ e) ((ρ.set i none).set j none) s.ds
  bz (.lst ys)):=fun _ _ _ _ _ _=>rfl
theorem BH{Γ:Ctx}:∀m a es ρ,af Γ (.mth m a es) ρ=(do let x<-af Γ a ρ;iU m x;let xs<-aR Γ es ρ;iq m x xs):=fun _ _ _ _=>rfl
theorem OI{Γ:Ctx}:∀ρ,aR Γ (.nil) ρ=(pure []):=fun _=>rfl
theorem tJ{Γ:Ctx}:∀e es ρ,aR Γ (.cons e es) ρ=(do let x<-af Γ e ρ;let xs<-aR Γ es ρ;pure (x::xs)):=fun _ _ _=>rfl
theorem OH{Γ:Ctx}:∀ρ,gT Γ (.none) ρ=(pure none):=fun _=>rfl
theorem vt{Γ:Ctx}:∀e ρ,gT Γ (.some e) ρ=(do
  let x<-af Γ e ρ
  (match x with
  |.int i=>pure (some i)
  |_=>Mo.stop)):=fun _ _=>rfl
theorem Bw{Γ:Ctx}:∀e ρ,fD Γ (.seq e) ρ=(do let x<-af Γ e ρ;fw x):=fun _ _=>rfl
theorem vm{Γ:Ctx}:∀a ρ,fD Γ (.rng1 a) ρ=(do
  let x<-af Γ a ρ
  (match x with
  |.int i=>do need (small i);pure ⟨none,fE 0 i⟩
  |_=>Mo.stop)):=fun _ _=>rfl
theorem OB{Γ:Ctx}:∀a b ρ,fD Γ (.tq a b) ρ=(do
  let x<-af Γ a ρ
  let y<-af Γ b ρ
  (match x,y with
  |.int i,.int j=>do need (small i/\small j);pure ⟨none,fE i j⟩
  |_,_=>Mo.stop)):=fun _ _ _=>rfl
theorem BW{Γ:Ctx}:∀e ρ,bh Γ (.cmp e) ρ=(do let x<-af Γ e ρ;lift (bD x)):=fun _ _=>rfl
theorem BU{Γ:Ctx}:∀e ρ,bh Γ (.tru e) ρ=(do let x<-af Γ e ρ;kx x):=fun _ _=>rfl
theorem BV{Γ:Ctx}:∀c ρ,bh Γ (.not c) ρ=(do let k<-bh Γ c ρ;pure (!k)):=fun _ _=>rfl
theorem BX{Γ:Ctx}:∀a b ρ,bh Γ (.and a b) ρ=(do let k<-bh Γ a ρ;if k=true then bh Γ b ρ else pure false):=fun _ _ _=>rfl
theorem DS{Γ:Ctx}:∀a b ρ,bh Γ (.or a b) ρ=(do let k<-bh Γ a ρ;if k=true then pure true else bh Γ b ρ):=fun _ _ _=>rfl
theorem Ml{Γ:Ctx}:∀ρ,iG Γ (.none) ρ=(pure true):=fun _=>rfl
theorem tL{Γ:Ctx}:∀c ρ,iG Γ (.some c) ρ=(bh Γ c ρ):=fun _ _=>rfl
theorem By{Γ:Ctx}:∀e ρ,kA Γ (.seq e) ρ=(do let x<-af Γ e ρ;fw x):=fun _ _=>rfl
theorem OG{Γ:Ctx}:∀e ρ,kA Γ (.enum e) ρ=(do let x<-af Γ e ρ;Jt x):=fun _ _=>rfl
theorem kF{Γ:Ctx}:∀i e ρ,bp Γ (.set i e) ρ=(do let x<-af Γ e ρ;pure (.nx (ρ.set i (some x)))):=fun _ _ _=>rfl
theorem vq{Γ:Ctx}:∀is e b ρ,bp Γ (.forN is e b) ρ=(do let x<-af Γ e ρ;let s<-fw x;dA s.ck is (au Γ b) s.ds ρ):=fun _ _ _ _=>rfl
theorem tI{Γ:Ctx}:∀o i e ρ,bp Γ (.setIx o i e) ρ=(do let v<-af Γ e ρ;let x<-af Γ o ρ;let y<-af Γ i ρ;setIx x y v;pure (.nx ρ)):=fun _ _ _ _=>rfl
theorem mW{Γ:Ctx}:∀e ρ,bp Γ (.expr e) ρ=(do let _<-af Γ e ρ;pure (.nx ρ)):=fun _ _=>rfl
theorem Bx{Γ:Ctx}:∀e ρ,bp Γ (.ret e) ρ=(do let x<-af Γ e ρ;pure (.rt x)):=fun _ _=>rfl
theorem OD{Γ:Ctx}:∀ρ,bp Γ (.retN) ρ=(pure (.rt .non)):=fun _=>rfl
theorem OE{Γ:Ctx}:∀ρ,bp Γ (.pass) ρ=(pure (.nx ρ)):=fun _=>rfl
theorem O7{Γ:Ctx}:∀ρ,bp Γ (.brk) ρ=(pure (.bk ρ)):=fun _=>rfl
theorem O6{Γ:Ctx}:∀ρ,bp Γ (.cnt) ρ=(pure (.ct ρ)):=fun _=>rfl
theorem OF{Γ:Ctx}:∀ρ,bp Γ (.halt) ρ=(Mo.stop):=fun _=>rfl
theorem oA{Γ:Ctx}:∀c a b ρ,bp Γ (.ifS c a b) ρ=(do let k<-bh Γ c ρ;if k=true then au Γ a ρ else au Γ b ρ):=fun _ _ _ _=>rfl
theorem vo{Γ:Ctx}:∀i it b ρ,bp Γ (.forS i it b) ρ=(do let s<-fD Γ it ρ;dB s.ck i (au Γ b) s.ds ρ):=fun _ _ _ _=>rfl
theorem vp{Γ:Ctx}:∀i j it b ρ,bp Γ (.forP i j it b) ρ=(do let s<-kA Γ it ρ;fg s.ck i j (au Γ b) s.ds ρ):=fun _ _ _ _ _=>rfl
theorem rN{Γ:Ctx}:∀c b ρ,bp Γ (.whileS c b) ρ=(dS (bh Γ c) (au Γ b) Γ.wh ρ):=fun _ _ _=>rfl
theorem OC{Γ:Ctx}:∀ρ,au Γ (.nil) ρ=(pure (.nx ρ)):=fun _=>rfl
theorem fT{Γ:Ctx}:∀s r ρ,au Γ (.cons s r) ρ=(do
  let f<-bp Γ s ρ
  (match f with
  |.nx ρ'=>au Γ r ρ'
  |.rt v=>pure (.rt v)
  |.bk ρ'=>pure (.bk ρ')
  |.ct ρ'=>pure (.ct ρ'))):=fun _ _ _=>rfl
end L3
namespace L3
open PySem
theorem GK{p:Prop}[Decidable p](h:p)(M:MH):need p M=some (.ok (),M):=by unfold need;rw[if_pos h];rfl
theorem RZ{α:Type}(a:α)(M:MH):lift (some a) M=some (.ok a,M):=rfl
theorem Hh{i:Nat}{o:MO}{M:MH}(h:M[i]?=some o):getM i M=some (.ok o,M):=by unfold getM;rw[h]
theorem Hi{i:Nat}{ds:List D}{M:MH}(h:M[i]?=some (.lst ds)):getL i M=some (.ok ds,M):=by unfold getL;rw[h]
theorem Hj{i:Nat}{ds:List (Ky×D)}{M:MH}(h:M[i]?=some (.aW ds)):getD i M=some (.ok ds,M):=by unfold getD;rw[h]
theorem GJ(o:MO)(M:MH):bz o M=some (.ok (.ob M.length),M++[o]):=rfl
theorem Gk{i:Nat}{o:MO}{M:MH}(h:i<M.length):cY i o M=some (.ok (),M.set i o):=by unfold cY;rw[if_pos h]
theorem dI{α:Type}{xs:List α}{j:Nat}{v:α}(h:xs[j]?=some v):ee xs (j:Int)=some v:=by
 have hj:j<xs.length:=(zw.mp h).1;unfold ee oN;rw[if_pos (by first|lia|omega),if_pos (by first|lia|omega)]
 simpa using h
theorem aj(M:MH)(o:MO):(M++[o])[M.length]?=some o:=by simp
structure Gr (M M':MH):Prop where
 keep:∀(i:Nat) (o:MO),M[i]?=some o->M'[i]?=some o
 len:M.length<=M'.length
theorem Gr.refl{M:MH}:Gr M M:=⟨fun _ _ h=>h,zp _⟩
theorem Gr.trans{M M1 M2:MH}(a:Gr M M1)(b:Gr M1 M2):Gr M M2:=⟨fun i o e=>b.keep i o (a.keep i o e),zN a.len b.len⟩
theorem Gr.app(M X:MH):Gr M (M++X):=⟨fun i o e=>by rw[zG (zw.mp e).1];exact e,by rw[ze];omega⟩
theorem Gr.snoc{M M1:MH}(g:Gr M M1)(o:MO):Gr M (M1++[o]):=g.trans (Gr.app _ _)
theorem fH{M:MH}{j:Nat}{o q:MO}(h:M[j]?=some q):(M.set j o)[j]?=some o:=zO (zw.mp h).1
theorem aP{α:Type}{M:List α}{j:Nat}{q:α}(h:M[j]?=some q):j<M.length:=(zw.mp h).1
theorem kK(bs:List Bool):(bs.map D.bl).mapM bD=some bs:=by
 induction bs with
 |nil=>rfl
 |cons b r ih=>rw[zK,xA,ih];rfl
theorem Eg(bs:List Str):(bs.map D.str).mapM sW=some bs:=by
 induction bs with
 |nil=>rfl
 |cons b r ih=>rw[zK,xA,ih];rfl
theorem NZ{Γ:Ctx}{ρ:Ev}{M:MH}{d:D}{i:Nat}(h:ρ[i]?=some (some d)):af Γ (.var i) ρ M=some (.ok d,M):=by
 show lK ρ i M=_;unfold lK;rw[h];rfl
theorem dG{lo hi:Int}:(fE lo hi).length=(hi-lo).toNat:=by unfold fE;rw[zl,yG]
theorem y8{lo hi:Int}{j:Nat}{d:D}(h:(fE lo hi)[j]?=some d):d=.int (lo+j)/\j<(hi-lo).toNat:=by
 unfold fE at h;rw[zA]at h;cases q:(List.range (hi-lo).toNat)[j]? with
 |none=>rw[q]at h;cases h
 |some n =>
  rw[q]at h;obtain⟨h1,h2⟩:=zw.mp q;rw[yG]at h1;rw[wk]at h2;subst h2;cases h;exact⟨rfl,h1⟩
end L3
namespace L3
open PySem
theorem dq{α:Type}{xs:List α}{i:Int}(h0:0<=i)(h1:i<xs.length):∃v,ee xs i=some v/\v∈xs:=by
 obtain⟨n,rfl⟩:=ye h0;have hj:n<xs.length:=by first|lia|omega
 exact⟨xs[n],dI (zr hj),yM hj⟩
theorem Cs(x:Str):x.cps.toList.length=x.length:=by simp[Str.length]
theorem bG:(100000:Nat)<=zq:=by unfold zq;decide
theorem Au{n:Nat}(h:n<=100000):n<=zq:=zN h bG
end L3
namespace L3
open PySem
noncomputable def Wp{α:Type}(m:Mo α)(M:MH)(Q:α->MH->Prop):Prop:=∃a M',m M=some (.ok a,M')/\Q a M'
inductive WY {α:Type} (Q:α->MH->Prop):Type where
 |mk
noncomputable def W{α:Type}(m:Mo α)(M:MH)(Q:α->MH->Prop)(_:WY Q:=.mk):Prop:=Wp m M Q
theorem C9{α:Type}{m:Mo α}{M:MH}{Q R:α->MH->Prop}(h:∀a M,Q a M=R a M):W m M Q=W m M R:=by
 have:Q=R:=funext fun a=>funext fun M=>h a M
 subst this;rfl
theorem W.mono{α:Type}{m:Mo α}{M:MH}{Q R:α->MH->Prop}(h:W m M Q)(f:∀a M',Q a M'->R a M'):W m M R:=by
 obtain⟨a,M',e,q⟩:=h;exact⟨a,M',e,f a M' q⟩
theorem W.of{α:Type}{m:Mo α}{M M':MH}{a:α}{Q:α->MH->Prop}(e:m M=some (.ok a,M'))(q:Q a M'):W m M Q:=⟨a,M',e,q⟩
theorem ao{α:Type}(a:α)(M:MH)(Q:α->MH->Prop):W (pure a:Mo α) M Q=Q a M:=by
 refine propext ⟨fun ⟨b,M',e,q⟩=>?_,fun q=>⟨a,M,rfl,q⟩⟩;cases e;exact q
theorem Xh{α:Type}(a:α)(M:MH)(Q:α->MH->Prop):W (fun M=>some (.ok a,M)) M Q=Q a M:=ao a M Q
theorem ar{α β:Type}(m:Mo α)(k:α->Mo β)(M:MH)(Q:β->MH->Prop):W (m >>= k) M Q=W m M fun a M'=>W (k a) M' Q:=by
 refine propext ⟨fun ⟨b,M',e,q⟩=>?_,fun ⟨a,M1,e,b,M2,e2,q⟩=>⟨b,M2,by rw[qb e];exact e2,q⟩⟩;obtain⟨a,M1,e1,e2⟩:=ae e;exact⟨a,M1,e1,b,M',e2,q⟩
theorem bM{p:Prop}[Decidable p](M:MH)(Q:Unit->MH->Prop):W (need p) M Q=(p/\Q () M):=by
 refine propext ⟨fun ⟨b,M',e,q⟩=>?_,fun ⟨hp,q⟩=>⟨(),M,GK hp M,q⟩⟩;unfold need at e;split at e
 ·rename_i hp
  cases e;exact⟨hp,q⟩
 ·cases e
theorem cK{α:Type}(o:Option α)(M:MH)(Q:α->MH->Prop):W (lift o) M Q=∃a,o=some a/\Q a M:=by
 refine propext ⟨fun ⟨b,M',e,q⟩=>?_,fun ⟨a,ho,q⟩=>⟨a,M,by rw[ho];rfl,q⟩⟩;cases o with
 |none=>cases e
 |some a=>cases e;exact⟨_,rfl,q⟩
theorem jW(i:Nat)(M:MH)(Q:MO->MH->Prop):W (getM i) M Q=∃o,M[i]?=some o/\Q o M:=by
 refine propext ⟨fun ⟨b,M',e,q⟩=>?_,fun ⟨a,ho,q⟩=>⟨a,M,Hh ho,q⟩⟩;unfold getM at e;split at e
 ·rename_i o h;cases e;exact⟨_,h,q⟩
 ·cases e
theorem iP(i:Nat)(M:MH)(Q:List D->MH->Prop):W (getL i) M Q=∃ds,M[i]?=some (.lst ds)/\Q ds M:=by
 refine propext ⟨fun ⟨b,M',e,q⟩=>?_,fun ⟨a,ho,q⟩=>⟨a,M,Hi ho,q⟩⟩;unfold getL at e;split at e
 ·rename_i o h;cases e;exact⟨_,h,q⟩
 ·cases e
theorem Dt(i:Nat)(M:MH)(Q:List (Ky×D)->MH->Prop):W (getD i) M Q=∃ds,M[i]?=some (.aW ds)/\Q ds M:=by
 refine propext ⟨fun ⟨b,M',e,q⟩=>?_,fun ⟨a,ho,q⟩=>⟨a,M,Hj ho,q⟩⟩;unfold getD at e;split at e
 ·rename_i o h;cases e;exact⟨_,h,q⟩
 ·cases e
theorem sI(o:MO)(M:MH)(Q:D->MH->Prop):W (bz o) M Q=Q (.ob M.length) (M++[o]):=by
 refine propext ⟨fun ⟨b,M',e,q⟩=>?_,fun q=>⟨_,_,GJ o M,q⟩⟩;cases e;exact q
theorem fL(i:Nat)(o:MO)(M:MH)(Q:Unit->MH->Prop):W (cY i o) M Q=(i<M.length/\Q () (M.set i o)):=by
 refine propext ⟨fun ⟨b,M',e,q⟩=>?_,fun ⟨h,q⟩=>⟨_,_,Gk h,q⟩⟩;unfold cY at e;split at e
 ·rename_i h;cases e;exact⟨h,q⟩
 ·cases e
theorem eX{α:Type}(M:MH)(Q:α->MH->Prop):W (Mo.stop:Mo α) M Q=False:=by
 refine propext ⟨fun ⟨b,M',e,q⟩=>?_,fun q=>q.elim⟩;cases e
theorem Lj{α:Type}(b:Bool)(m n:Mo α)(M:MH)(Q:α->MH->Prop):W (if b=true then m else n) M Q=((b=true->W m M Q)/\(b=false->W n M Q)):=by
 cases b <;> simp
section
variable {α β:Type}
theorem aZ(a:α)(M:MH)(Q:α->MH->Prop):Wp (pure a:Mo α) M Q=Q a M:=ao a M Q
theorem aw(m:Mo α)(k:α->Mo β)(M:MH)(Q:β->MH->Prop):Wp (m >>= k) M Q=Wp m M fun a M'=>Wp (k a) M' Q:=ar m k M Q
theorem cL{p:Prop}[Decidable p](M:MH)(Q:Unit->MH->Prop):Wp (need p) M Q=(p/\Q () M):=bM M Q
theorem fN(o:Option α)(M:MH)(Q:α->MH->Prop):Wp (lift o) M Q=∃a,o=some a/\Q a M:=cK o M Q
theorem UI(i:Nat)(M:MH)(Q:MO->MH->Prop):Wp (getM i) M Q=∃o,M[i]?=some o/\Q o M:=jW i M Q
theorem dW(i:Nat)(M:MH)(Q:List D->MH->Prop):Wp (getL i) M Q=∃ds,M[i]?=some (.lst ds)/\Q ds M:=iP i M Q
theorem Ll(i:Nat)(M:MH)(Q:List (Ky×D)->MH->Prop):Wp (getD i) M Q=∃ds,M[i]?=some (.aW ds)/\Q ds M:=Dt i M Q
theorem eB(o:MO)(M:MH)(Q:D->MH->Prop):Wp (bz o) M Q=Q (.ob M.length) (M++[o]):=sI o M Q
theorem UH(i:Nat)(o:MO)(M:MH)(Q:Unit->MH->Prop):Wp (cY i o) M Q=(i<M.length/\Q () (M.set i o)):=fL i o M Q
theorem sO(M:MH)(Q:α->MH->Prop):Wp (Mo.stop:Mo α) M Q=False:=eX M Q
theorem pT(b:Bool)(m n:Mo α)(M:MH)(Q:α->MH->Prop):Wp (if b=true then m else n) M Q=((b=true->Wp m M Q)/\(b=false->Wp n M Q)):=Lj b m n M Q
end
section
variable {Γ:Ctx}{ρ:Ev}{M:MH}{a b c:IE}{Q:D->MH->Prop}{es:cG}
theorem cz{i:Nat}:W (af Γ (.var i) ρ) M Q=∃d,ρ[i]?=some (some d)/\Q d M:=by
 refine propext ⟨fun ⟨b,M',e,q⟩=>?_,fun ⟨d,h,q⟩=>⟨d,M,NZ h,q⟩⟩;simp only[Bz]at e;unfold lK at e;cases h:ρ[i]? with
 |none=>rw[h]at e;cases e
 |some o =>
  rw[h]at e;cases o with
  |none=>cases e
  |some d=>cases e;exact⟨_,rfl,q⟩
theorem Us{i:Int}:W (af Γ (.cint i) ρ) M Q=Q (.int i) M:=ao _ M Q
theorem Xe{i:Bool}:W (af Γ (.cbl i) ρ) M Q=Q (.bl i) M:=ao _ M Q
theorem Uj:W (af Γ .cnon ρ) M Q=Q .non M:=ao _ M Q
theorem Ud{i:Str}:W (af Γ (.cstr i) ρ) M Q=Q (.str i) M:=ao _ M Q
theorem Uv{i:Str}:W (af Γ (.glb i) ρ) M Q=∃d,Γ.gl i=some d/\Q d M:=cK _ M Q
theorem UA{op:Operator}:W (af Γ (.bin op a b) ρ) M Q=W (af Γ a ρ) M fun x M1=>W (af Γ b ρ) M1 fun y M2=>W (eT op x y) M2 Q:=by
 delta W;simp only[BR,aw]
theorem Ux{op:CmpOp}:W (af Γ (.cmp op a b) ρ) M Q=W (af Γ a ρ) M fun x M1=>W (af Γ b ρ) M1 fun y M2=>W (cb op x y) M2 fun k M3=>Q (.bl k) M3:=by
 delta W;simp only[BO,aw,aZ]
theorem Tv{op op':CmpOp}:W (af Γ (.cmp2 op op' a b c) ρ) M Q=W (af Γ a ρ) M fun x M1=>W (af Γ b ρ) M1 fun y M2=>W (cb op x y) M2 fun k M3=>(k=true->W (af Γ c ρ) M3 fun z M4=>W (cb op' y z) M4 fun k' M5=>Q (.bl k') M5)/\(k=false->Q (.bl false) M3):=by
 delta W;simp only[vF,aw,aZ,pT]
theorem UB:W (af Γ (.and a b) ρ) M Q=W (af Γ a ρ) M fun x M1=>∃k,bD x=some k/\(k=true->W (af Γ b ρ) M1 Q)/\(k=false->Q (.bl false) M1):=by
 delta W;simp only[BS,aw,aZ,pT,fN]
theorem Ut{q:IC}:W (af Γ (.ifE q a b) ρ) M Q=W (bh Γ q ρ) M fun k M1=>(k=true->W (af Γ a ρ) M1 Q)/\(k=false->W (af Γ b ρ) M1 Q):=by
 delta W;simp only[BL,aw,pT]
theorem Uc:W (af Γ (.tup es) ρ) M Q=W (aR Γ es ρ) M fun xs M1=>xs.length<=zq/\Q (.tup xs) M1:=by
 delta W;simp only[BA,aw,aZ,cL]
theorem Uq:W (af Γ (.lst es) ρ) M Q=W (aR Γ es ρ) M fun xs M1=>xs.length<=zq/\Q (.ob M1.length) (M1++[.lst xs]):=by
 delta W;simp only[BJ,aw,eB,cL]
theorem Tt:W (af Γ .dic0 ρ) M Q=Q (.ob M.length) (M++[.aW []]):=sI _ M Q
theorem Uu:W (af Γ (.idx a b) ρ) M Q=W (af Γ a ρ) M fun x M1=>W (af Γ b ρ) M1 fun y M2=>W (hV x y) M2 Q:=by
 delta W;simp only[BM,aw]
theorem Uh{lo hi:ml}:W (af Γ (.slc a lo hi) ρ) M Q=W (af Γ a ρ) M fun x M1=>W (gT Γ lo ρ) M1 fun l M2=>W (gT Γ hi ρ) M2 fun h M3=>W (fR x l h) M3 Q:=by
 delta W;simp only[BD,aw]
theorem Tw{f:Str}:W (af Γ (.call f es) ρ) M Q=W (aR Γ es ρ) M fun xs M1=>W (Γ.fn f xs) M1 Q:=by
 delta W;simp only[mX,aw]
theorem BE{Γ:Ctx}:∀es ρ,af Γ (.rfs es) ρ=(do let xs<-aR Γ es ρ;z0 Γ xs):=fun _ _=>rfl
theorem Ui:W (af Γ (.rfs es) ρ) M Q=W (aR Γ es ρ) M fun xs M1=>∃M2,Γ.rf xs M1=some M2/\Q (.bl true) M2:=by
 rw[BE,ar];refine C9 (fun xs M1=>?_);refine propext ⟨fun ⟨d,M',e,q⟩=>?_,fun ⟨M2,e,q⟩=>⟨_,M2,by unfold z0;rw[e],q⟩⟩;unfold z0 at e;cases h:Γ.rf xs M1 with
 |none=>rw[h]at e;cases e
 |some M2=>rw[h]at e;cases e;exact⟨_,rfl,q⟩
theorem Uz{f:Bl}:W (af Γ (.blt f es) ρ) M Q=W (aR Γ es ρ) M fun xs M1=>W (eJ f xs) M1 Q:=by
 delta W;simp only[BQ,aw]
theorem Tu{j:Nat}{it:IT}{cc:nt}:W (af Γ (.comp j it cc a) ρ) M Q=W (fD Γ it ρ) M fun s M1=>s.ds.length<=zq/\W (dQ s.ck (iG Γ cc) (af Γ a) (ρ.set j none) s.ds) M1 fun ys M2=>Q (.ob M2.length) (M2++[.lst ys]):=by
 delta W;simp only[vE,aw,eB,cL]
theorem Tn{Q:List D->MH->Prop}:W (aR Γ .nil ρ) M Q=Q [] M:=ao _ M Q
theorem Ru{Q:List D->MH->Prop}:W (aR Γ (.cons a es) ρ) M Q=W (af Γ a ρ) M fun x M1=>W (aR Γ es ρ) M1 fun xs M2=>Q (x::xs) M2:=by
 delta W;simp only[tJ,aw,aZ]
theorem Tj{Q:Option Int->MH->Prop}:W (gT Γ .none ρ) M Q=Q none M:=ao _ M Q
theorem Ti{Q:Option Int->MH->Prop}:W (gT Γ (.some a) ρ) M Q=W (af Γ a ρ) M fun x M1=>∃i,x=.int i/\Q (some i) M1:=by
 delta W;simp only[vt,aw];refine congrArg _ (funext fun x=>funext fun M1=>?_);cases x <;> simp[sO,aZ]
theorem TR{Q:Src->MH->Prop}:W (fD Γ (.seq a) ρ) M Q=W (af Γ a ρ) M fun x M1=>W (fw x) M1 Q:=by
 delta W;simp only[Bw,aw]
theorem SW{Q:Src->MH->Prop}:W (fD Γ (.rng1 a) ρ) M Q=W (af Γ a ρ) M fun x M1=>∃i,x=.int i/\small i/\Q ⟨none,fE 0 i⟩ M1:=by
 delta W;simp only[vm,aw];refine congrArg _ (funext fun x=>funext fun M1=>?_);cases x <;> simp[sO,aZ,aw,cL]
section
variable {Q:Bool->MH->Prop}{q r:IC}
theorem UE:W (bh Γ (.cmp a) ρ) M Q=W (af Γ a ρ) M fun x M1=>∃k,bD x=some k/\Q k M1:=by delta W;simp only[BW,aw,fN]
theorem UC:W (bh Γ (.tru a) ρ) M Q=W (af Γ a ρ) M fun x M1=>W (kx x) M1 Q:=by delta W;simp only[BU,aw]
theorem UD:W (bh Γ (.not q) ρ) M Q=W (bh Γ q ρ) M fun k M1=>Q (!k) M1:=by delta W;simp only[BV,aw,aZ]
theorem UG:W (bh Γ (.and q r) ρ) M Q=W (bh Γ q ρ) M fun k M1=>(k=true->W (bh Γ r ρ) M1 Q)/\(k=false->Q false M1):=by delta W;simp only[BX,aw,pT,aZ]
theorem Xg:W (bh Γ (.or q r) ρ) M Q=W (bh Γ q ρ) M fun k M1=>(k=true->Q true M1)/\(k=false->W (bh Γ r ρ) M1 Q):=by delta W;simp only[DS,aw,pT,aZ]
theorem Rx:W (iG Γ .none ρ) M Q=Q true M:=ao _ M Q
theorem Rw:W (iG Γ (.some q) ρ) M Q=W (bh Γ q ρ) M Q:=by delta W;simp only[tL]
end
section
variable {Q:Fl->MH->Prop}{s:IS}{r s1 s2:aI}{q:IC}
noncomputable def tZ(Γ:Ctx)(r:aI)(Q:Fl->MH->Prop)(f:Fl)(M:MH):Prop:=match f with
 |.nx ρ=>W (au Γ r ρ) M Q
 |.rt v=>Q (.rt v) M
 |.bk ρ=>Q (.bk ρ) M
 |.ct ρ=>Q (.ct ρ) M
theorem Vc:tZ Γ r Q (.nx ρ) M=W (au Γ r ρ) M Q:=rfl
theorem Vb{v:D}:tZ Γ r Q (.rt v) M=Q (.rt v) M:=rfl
theorem Ve:tZ Γ r Q (.bk ρ) M=Q (.bk ρ) M:=rfl
theorem Vd:tZ Γ r Q (.ct ρ) M=Q (.ct ρ) M:=rfl
theorem TX:W (au Γ .nil ρ) M Q=Q (.nx ρ) M:=ao _ M Q
theorem bQ:W (au Γ (.cons s r) ρ) M Q=W (bp Γ s ρ) M (tZ Γ r Q):=by
 delta W;simp only[fT,aw];refine congrArg _ (funext fun f=>funext fun M1=>?_);cases f <;> simp[tZ,aZ,W]
theorem cy{i:Nat}:W (bp Γ (.set i a) ρ) M Q=W (af Γ a ρ) M fun x M1=>Q (.nx (ρ.set i (some x))) M1:=by delta W;simp only[kF,aw,aZ]
theorem Rt:W (bp Γ (.setIx a b c) ρ) M Q=W (af Γ c ρ) M fun v M1=>W (af Γ a ρ) M1 fun x M2=>W (af Γ b ρ) M2 fun y M3=>W (setIx x y v) M3 fun _ M4=>Q (.nx ρ) M4:=by delta W;simp only[tI,aw,aZ]
theorem Tf:W (bp Γ (.expr a) ρ) M Q=W (af Γ a ρ) M fun _ M1=>Q (.nx ρ) M1:=by delta W;simp only[mW,aw,aZ]
theorem TV:W (bp Γ (.ret a) ρ) M Q=W (af Γ a ρ) M fun x M1=>Q (.rt x) M1:=by delta W;simp only[Bx,aw,aZ]
theorem SX:W (bp Γ .retN ρ) M Q=Q (.rt .non) M:=ao _ M Q
theorem SY:W (bp Γ .pass ρ) M Q=Q (.nx ρ) M:=ao _ M Q
theorem Ua:W (bp Γ .brk ρ) M Q=Q (.bk ρ) M:=ao _ M Q
theorem TZ:W (bp Γ .cnt ρ) M Q=Q (.ct ρ) M:=ao _ M Q
theorem OO:W (bp Γ (.ifS q s1 s2) ρ) M Q=W (bh Γ q ρ) M fun k M1=>(k=true->W (au Γ s1 ρ) M1 Q)/\(k=false->W (au Γ s2 ρ) M1 Q):=by delta W;simp only[oA,aw,pT]
noncomputable def pX:Bool->aI->aI->aI
 |true,a,_=>a
 |false,_,b=>b
theorem Xm{a b:aI}:pX true a b=a:=rfl
theorem Xn{a b:aI}:pX false a b=b:=rfl
theorem TU:W (bp Γ (.ifS q s1 s2) ρ) M Q=W (bh Γ q ρ) M fun k M1=>W (au Γ (pX k s1 s2) ρ) M1 Q:=by
 rw[OO];refine congrArg _ (funext fun k=>funext fun M1=>?_);cases k <;> simp[pX]
theorem sT{k:Bool}(h:k=true)(t:W (au Γ s1 ρ) M Q):W (au Γ (pX k s1 s2) ρ) M Q:=h▸t
theorem sF{k:Bool}(h:k=false)(t:W (au Γ s2 ρ) M Q):W (au Γ (pX k s1 s2) ρ) M Q:=h▸t
theorem TY{i:Nat}{it:IT}:W (bp Γ (.forS i it s1) ρ) M Q=W (fD Γ it ρ) M fun s M1=>W (dB s.ck i (au Γ s1) s.ds ρ) M1 Q:=by delta W;simp only[vo,aw]
end
noncomputable def uN(Q:D->MH->Prop)(f:Fl)(M:MH):Prop:=match f with
 |.nx _=>Q .non M
 |.rt v=>Q v M
 |_=>False
theorem WA:uN Q (.nx ρ) M=Q .non M:=rfl
theorem Wz{v:D}:uN Q (.rt v) M=Q v M:=rfl
theorem wf{n p:Nat}{b:aI}{xs:List D}:W (do need (xs.length=p);nA Γ n b xs:Mo D) M Q=(xs.length=p/\W (au Γ b (xs.map some++zM (n-xs.length) none)) M (uN Q)):=by
 rw[ar,bM];unfold nA;rw[ar];refine congrArg _ (C9 fun f M1=>?_);cases f <;> simp[uN,ao,eX]
end
end L3
namespace L3
open PySem
section
variable {M:MH}{Q:D->MH->Prop}{B:Bool->MH->Prop}{U:Unit->MH->Prop}{S:Src->MH->Prop}{x y v:D}
theorem UZ{i j:Int}:W (eT .Add (.int i) (.int j)) M Q=Q (.int (i+j)) M:=ao _ M Q
theorem UU{i j:Int}:W (eT .Sub (.int i) (.int j)) M Q=Q (.int (i-j)) M:=ao _ M Q
theorem UX{i j:Str}:W (eT .Add (.str i) (.str j)) M Q=(i.length+j.length<=zq/\Q (.str (i++j)) M):=by
 show W (need _ >>= fun _=>pure _) M Q=_;rw[ar,bM,ao]
theorem UW{i j:List D}:W (eT .Add (.tup i) (.tup j)) M Q=(i.length+j.length<=zq/\Q (.tup (i++j)) M):=by
 show W (need _ >>= fun _=>pure _) M Q=_;rw[ar,bM,ao]
theorem UY{i j:Nat}:W (eT .Add (.ob i) (.ob j)) M Q=∃xs,M[i]?=some (.lst xs)/\∃ys,M[j]?=some (.lst ys)/\xs.length+ys.length<=zq/\Q (.ob M.length) (M++[.lst (xs++ys)]):=by
 show W (getL i >>= fun xs=>getL j >>= fun ys=>need _ >>= fun _=>bz _) M Q=_;delta W;simp only[aw,dW,cL,eB]
theorem XJ{i j:Int}:W (eT .FloorDiv (.int i) (.int j)) M Q=((0<j/\j<1073741824)/\Q (.int (i / j)) M):=by
 show W (need _ >>= fun _=>pure _) M Q=_;rw[ar,bM,ao]
theorem Xw{i j:Int}:W (eT .Mod (.int i) (.int j)) M Q=(0<j/\Q (.int (i % j)) M):=by
 show W (need _ >>= fun _=>pure _) M Q=_;rw[ar,bM,ao]
theorem tV:W (cb .Eq x y) M B=∃b,bT M 20 x y=some b/\B b M:=by
 show W (nV x y) M B=_;refine propext ⟨fun ⟨b,M',e,q⟩=>?_,fun ⟨b,e,q⟩=>⟨b,M,by unfold nV;rw[e],q⟩⟩;unfold nV at e;cases h:bT M 20 x y with
 |none=>rw[h]at e;cases e
 |some k=>rw[h]at e;cases e;exact⟨_,rfl,q⟩
theorem MG:W (cb .NotEq x y) M B=∃b,bT M 20 x y=some b/\B (!b) M:=by
 show W (cb .Eq x y >>= fun b=>pure (!b)) M B=_;rw[ar]
 have:∀b M,W (pure (!b):Mo Bool) M B=B (!b) M:=fun b M=>ao _ M B
 rw[C9 this,tV]
theorem KP{n:Nat}(h1:bE x=true)(h2:bE y=true):bT M (n+1) x y=some (eY x y):=by
 cases x <;> cases y <;> first|exact absurd h1 zu|exact absurd h2 zu|rfl
theorem Fb{n:Nat}{i j:Int}:bT M (n+1) (.int i) (.int j)=some (i==j):=rfl
theorem N9{n:Nat}{i j:Str}:bT M (n+1) (.str i) (.str j)=some (i==j):=rfl
theorem Js{n:Nat}{i j:Bool}:bT M (n+1) (.bl i) (.bl j)=some (i==j):=rfl
theorem X8{n:Nat}:bT M (n+1) .non .non=some true:=rfl
theorem X0{n:Nat}{j:Str}:bT M (n+1) .non (.str j)=some false:=rfl
theorem XZ{n:Nat}{j:Str}:bT M (n+1) (.str j) .non=some false:=rfl
theorem Wy{n:Nat}{i j:List D}:bT M (n+1) (.tup i) (.tup j)=gk (bT M n) i j:=rfl
theorem Oa{n:Nat}{i j:Nat}{xs:List D}(h1:M[i]?=some (.lst xs))(h2:M[j]?=some (.lst [])):bT M (n+1) (.ob i) (.ob j)=some xs.isEmpty:=by
 show (match M[i]?,M[j]? with
   |some (.lst xs),some (.lst ys)=>if xs.length=ys.length then gk (bT M n) xs ys else some false
   |_,_=>none)=_
 rw[h1,h2];cases xs <;> rfl
theorem XH{i j:Int}:W (cb .Eq (.int i) (.int j)) M B=B (i==j) M:=by rw[tV];simp[Fb]
theorem XG{i j:Str}:W (cb .Eq (.str i) (.str j)) M B=B (i==j) M:=by rw[tV];simp[N9]
theorem XI{i j:Bool}:W (cb .Eq (.bl i) (.bl j)) M B=B (i==j) M:=by rw[tV];simp[Js]
theorem Xu{i j:Int}:W (cb .NotEq (.int i) (.int j)) M B=B (!(i==j)) M:=by rw[MG];simp[Fb]
theorem Xv{i j:Bool}:W (cb .NotEq (.bl i) (.bl j)) M B=B (!(i==j)) M:=by rw[MG];simp[Js]
theorem Xy{i j:Int}:W (cb .Lt (.int i) (.int j)) M B=B (decide (i<j)) M:=ao _ M B
theorem XA{i j:Int}:W (cb .LtE (.int i) (.int j)) M B=B (decide (i<=j)) M:=ao _ M B
theorem XE{i j:Int}:W (cb .Gt (.int i) (.int j)) M B=B (decide (j<i)) M:=ao _ M B
theorem XF{i j:Int}:W (cb .GtE (.int i) (.int j)) M B=B (decide (j<=i)) M:=ao _ M B
theorem Xz{i j:Str}:W (cb .LtE (.str i) (.str j)) M B=B (!decide (j.cps.toList<i.cps.toList)) M:=ao _ M B
theorem Xx{i j:Str}:W (cb .Lt (.str i) (.str j)) M B=B (decide (i.cps.toList<j.cps.toList)) M:=ao _ M B
theorem Yj:W (cb .In x y) M B=W (inD x y) M B:=rfl
theorem XC{i j:Str}:W (inD (.str i) (.str j)) M B=B (DD j i) M:=ao _ M B
theorem Li{ds:List D}:W (kO x ds) M B=∃b,i4 M x ds=some b/\B b M:=by
 refine propext ⟨fun ⟨b,M',e,q⟩=>?_,fun ⟨b,e,q⟩=>⟨b,M,by unfold kO;rw[e],q⟩⟩;unfold kO at e;cases h:i4 M x ds with
 |none=>rw[h]at e;cases e
 |some k=>rw[h]at e;cases e;exact⟨_,rfl,q⟩
theorem nQ(h1:bE x=true):∀{ds:List D},ds.all bE=true->i4 M x ds=some (ds.any fun d=>eY d x)
 |[],_=>rfl
 |d::ds,h=>by
  rw[zL,zx]at h;unfold i4;rw[KP h.1 h1,nQ h1 h.2];rfl
theorem XB{ds:List D}:W (inD x (.tup ds)) M B=∃b,i4 M x ds=some b/\B b M:=Li
theorem XD{i:Nat}:W (inD x (.ob i)) M B=∃o,M[i]?=some o/\W (match o with
  |.lst ds=>kO x ds
  |.aW kvs=>(do let k<-lift (ki x);pure (dh kvs k).isSome)
  |.ins _ _=>Mo.stop
  ) M B:=by
 exact(ar (getM i) _ M B).trans (jW i M _)
theorem Yi:W (cb .Is x y) M B=(gL y=true/\B (gL x) M):=by
 show W (need _ >>= fun _=>pure _) M B=_;rw[ar,bM,ao]
theorem TF:W (cb .IsNot x y) M B=(gL y=true/\B (!gL x) M):=by
 show W (need _ >>= fun _=>pure _) M B=_;rw[ar,bM,ao]
theorem XU{ds:List D}{i:Int}:W (hV (.tup ds) (.int i)) M Q=∃d,ee ds i=some d/\Q d M:=cK _ M Q
theorem Yt{ds:List D}{i:Int}:W (hV (.fl ds) (.int i)) M Q=∃d,ee ds i=some d/\Q d M:=cK _ M Q
theorem XW{t:Str}{i:Int}:W (hV (.str t) (.int i)) M Q=(t.length<=zq/\∃c,ee t.cps.toList i=some c/\Q (sgn c) M):=by
 show W (need _ >>= fun _=>lift (ee t.cps.toList i) >>= fun c=>pure (sgn c)) M Q=_;delta W;simp only[aw,cL,fN,aZ]
noncomputable def nF(o:MO)(y:D)(M:MH)(Q:D->MH->Prop):Prop:=match o with
 |.lst ds=>∃i,y=.int i/\∃d,ee ds i=some d/\Q d M
 |.aW kvs=>∃k,ki y=some k/\∃d,dh kvs k=some d/\Q d M
 |.ins _ _=>False
theorem XX{ds:List D}{i:Int}:nF (.lst ds) (.int i) M Q=∃d,ee ds i=some d/\Q d M:=by simp[nF]
theorem XY{kvs:List (Ky×D)}:nF (.aW kvs) y M Q=∃k,ki y=some k/\∃d,dh kvs k=some d/\Q d M:=rfl
theorem Ys{j:Nat}:W (hV (.ob j) y) M Q=∃o,M[j]?=some o/\nF o y M Q:=by
 have e:hV (.ob j) y=(getM j >>= fun o=>(match o with
  |.lst ds=>(match y with
   |.int i=>lift (ee ds i)
   |_=>Mo.stop)
  |.aW kvs=>(do let q<-lift (ki y);lift (dh kvs q))
  |.ins _ _=>Mo.stop
  ):Mo D):=by cases y <;> rfl
 rw[e,ar,jW];refine congrArg _ (funext fun o=>congrArg _ ?_);cases o with
 |lst ds=>cases y <;> simp[nF,eX,cK]
 |aW kvs=>simp[nF,ar,cK]
 |ins C fs=>simp[nF,eX]
noncomputable def kI(j:Nat)(o:MO)(y v:D)(M:MH)(U:Unit->MH->Prop):Prop:=match o with
 |.lst ds=>∃i,y=.int i/\∃n,oN ds.length i=some n/\U () (M.set j (.lst (ds.set n v)))
 |.aW kvs=>∃k,ki y=some k/\kvs.length<zq/\U () (M.set j (.aW (iI kvs k v)))
 |.ins _ _=>False
theorem Xl{j:Nat}{ds:List D}{i:Int}:kI j (.lst ds) (.int i) v M U=∃n,oN ds.length i=some n/\U () (M.set j (.lst (ds.set n v))):=by simp[kI]
theorem OW{j:Nat}{kvs:List (Ky×D)}:kI j (.aW kvs) y v M U=∃k,ki y=some k/\kvs.length<zq/\U () (M.set j (.aW (iI kvs k v))):=rfl
theorem FV{j:Nat}:W (setIx (.ob j) y v) M U=∃o,M[j]?=some o/\kI j o y v M U:=by
 show W (getM j >>= _) M U=_;rw[ar,jW];refine congrArg _ (funext fun o=>?_);refine propext (and_congr_right fun h=>?_);have hl:j<M.length:=(zw.mp h).1;cases o with
 |lst ds=>cases y <;> simp[kI,eX,cK,ar,fL,hl]
 |aW kvs=>simp[kI,ar,cK,bM,fL,hl]
 |ins C fs=>simp[kI,eX]
theorem W0{t:Str}{lo hi:Option Int}:W (fR (.str t) lo hi) M Q=(t.length<=zq/\Q (.str ⟨(cutD t.cps.toList lo hi).toArray⟩) M):=by
 show W (need _ >>= fun _=>pure _) M Q=_;rw[ar,bM,ao]
theorem W5{j:Nat}{lo hi:Option Int}:W (fR (.ob j) lo hi) M Q=∃ds,M[j]?=some (.lst ds)/\Q (.ob M.length) (M++[.lst (cutD ds lo hi)]):=by
 show W (getL j >>= fun ds=>bz _) M Q=_;delta W;simp only[aw,dW,eB]
theorem WZ{ds:List D}{lo hi:Option Int}:W (fR (.tup ds) lo hi) M Q=Q (.tup (cutD ds lo hi)) M:=ao _ M Q
theorem Yc{ds:List D}{lo hi:Option Int}:W (fR (.fl ds) lo hi) M Q=Q (.ob M.length) (M++[.lst (cutD ds lo hi)]):=sI _ M Q
theorem Vu{t:Str}:W (eJ .len [.str t]) M Q=(t.length<=zq/\Q (.int t.length) M):=by
 show W (need _ >>= fun _=>pure _) M Q=_;rw[ar,bM,ao]
noncomputable def Ak(o:MO)(p:Prop):Prop:=match o with
 |.lst _=>p
 |.aW _=>p
 |_=>False
theorem Yk{ds:List D}{p:Prop}:Ak (.lst ds) p=p:=rfl
theorem Yl{ds:List (Ky×D)}{p:Prop}:Ak (.aW ds) p=p:=rfl
noncomputable def um(o:MO):Int:=match o with
 |.lst ds=>ds.length
 |.aW kvs=>kvs.length
 |.ins _ _=>0
theorem Vv{j:Nat}:W (eJ .len [.ob j]) M Q=∃o,M[j]?=some o/\Ak o (Q (.int (um o)) M):=by
 show W (getM j >>= _) M Q=_;rw[ar,jW];refine congrArg _ (funext fun o=>congrArg _ ?_);cases o <;> simp[um,Ak,ao,eX]
theorem Vr{ds:List D}:um (.lst ds)=ds.length:=rfl
theorem Vs{ds:List (Ky×D)}:um (.aW ds)=ds.length:=rfl
theorem Vt{ds:List D}:W (eJ .len [.tup ds]) M Q=Q (.int ds.length) M:=ao _ M Q
theorem Vw{ds:List D}:W (eJ .len [.fl ds]) M Q=Q (.int ds.length) M:=ao _ M Q
theorem Vq{j:Nat}:W (eJ .tuple [.ob j]) M Q=∃ds,M[j]?=some (.lst ds)/\Q (.tup ds) M:=by
 show W (getL j >>= fun ds=>pure _) M Q=_;delta W;simp only[aw,dW,aZ]
theorem k_all{j:Nat}:W (eJ .all [.ob j]) M Q=∃ds,M[j]?=some (.lst ds)/\∃bs,ds.mapM bD=some bs/\Q (.bl (bs.all id)) M:=by
 show W (getL j >>= fun ds=>lift (ds.mapM bD) >>= fun bs=>pure _) M Q=_;delta W;simp only[aw,dW,fN,aZ]
theorem XR{j:Nat}:W (eJ .any [.ob j]) M Q=∃ds,M[j]?=some (.lst ds)/\∃bs,ds.mapM bD=some bs/\Q (.bl (bs.any id)) M:=by
 show W (getL j >>= fun ds=>lift (ds.mapM bD) >>= fun bs=>pure _) M Q=_;delta W;simp only[aw,dW,fN,aZ]
theorem W6{ds:List D}:W (fw (.tup ds)) M S=S ⟨none,ds⟩ M:=ao _ M S
theorem Yd{ds:List D}:W (fw (.fl ds)) M S=S ⟨none,ds⟩ M:=ao _ M S
theorem Xa{j:Nat}:W (fw (.ob j)) M S=∃ds,M[j]?=some (.lst ds)/\S ⟨some (j,ds),ds⟩ M:=by
 show W (getL j >>= fun ds=>pure _) M S=_;delta W;simp only[aw,dW,aZ]
theorem Ye{b:Bool}:W (kx (.bl b)) M B=B b M:=ao _ M B
theorem Xi{ds:List D}:W (kx (.tup ds)) M B=B (!ds.isEmpty) M:=ao _ M B
theorem Xk{b:Int}:W (kx (.int b)) M B=B (b != 0) M:=ao _ M B
theorem Yu{b:Bool}:bD (.bl b)=some b:=rfl
theorem eM{ck:Option (Nat×List D)}{c:Ev->Mo Bool}{e:Ev->Mo D}{ρ:Ev}{ds:List D}{L:List D->MH->Prop}(I:Nat->List D->MH->Prop)(h0:I 0 [] M)(hs:∀n ys M,I n ys M->gK ck M)
  (h:∀(n:Nat) (d:D) (ys:List D) (M:MH),ds[n]?=some d->I n ys M->W (c (some d::ρ)) M fun b M1=>(b=true->W (e (some d::ρ)) M1 fun y M2=>I (n+1) (ys++[y]) M2)/\(b=false->I (n+1) ys M1))
  (q:∀ys M,I ds.length ys M->L ys M):W (dQ ck c e ρ ds) M L:=by
 suffices H:∀(r:List D) (n:Nat) (ys:List D) (M:MH),(∀j d,r[j]?=some d->ds[n+j]?=some d)->n+r.length=ds.length->I n ys M->W (dQ ck c e ρ r) M fun zs M'=>L (ys++zs) M' by
  simpa using H ds 0 [] M (fun j d e=>by simpa using e) (by simp) h0
 intro r;induction r with
 |nil =>
  intro n ys M _ hn hI;unfold dQ;rw[ar];refine W.of (show bN ck M=some (.ok (),M) from if_pos (hs _ _ _ hI)) ?_;rw[ao,zJ]
  have:n=ds.length:=by simpa using hn
  exact q _ _ (this▸hI)
 |cons d r ih =>
  intro n ys M hr hn hI;unfold dQ;rw[ar];refine W.of (show bN ck M=some (.ok (),M) from if_pos (hs _ _ _ hI)) ?_;rw[ar];have hd:ds[n]?=some d:=by simpa using hr 0 d rfl
  have hr':∀j d',r[j]?=some d'->ds[n+1+j]?=some d':=fun j d' e=>by
   have:=hr (j+1) d' (by simpa using e)
   rwa [show n+(j+1)=n+1+j by omega]at this
  have hn':n+1+r.length=ds.length:=by rw[zg]at hn;first|lia|omega
  refine(h n d ys M hd hI).mono fun b M1 hb=>?_;rw[Lj];refine⟨fun hb'=>?_,fun hb'=>ih (n+1) ys M1 hr' hn' (hb.2 hb')⟩;rw[ar];refine(hb.1 hb').mono fun y M2 NT=>?_;rw[ar];refine(ih (n+1) (ys++[y]) M2 hr' hn' NT).mono fun zs M3 hL=>?_;rw[ao];simpa using hL
noncomputable def kM(I:Nat->Ev->MH->Prop)(F:Fl->MH->Prop)(n:Nat)(f:Fl)(M1:MH):Prop:=match f with
 |.nx ρ'=>I (n+1) ρ' M1
 |.ct ρ'=>I (n+1) ρ' M1
 |.bk ρ'=>F (.nx ρ') M1
 |.rt v=>F (.rt v) M1
theorem XN{I:Nat->Ev->MH->Prop}{F:Fl->MH->Prop}{n:Nat}{ρ:Ev}:kM I F n (.nx ρ) M=I (n+1) ρ M:=rfl
theorem XO{I:Nat->Ev->MH->Prop}{F:Fl->MH->Prop}{n:Nat}{ρ:Ev}:kM I F n (.ct ρ) M=I (n+1) ρ M:=rfl
theorem XQ{I:Nat->Ev->MH->Prop}{F:Fl->MH->Prop}{n:Nat}{ρ:Ev}:kM I F n (.bk ρ) M=F (.nx ρ) M:=rfl
theorem XM{I:Nat->Ev->MH->Prop}{F:Fl->MH->Prop}{n:Nat}{v:D}:kM I F n (.rt v) M=F (.rt v) M:=rfl
theorem dU{ck:Option (Nat×List D)}{i:Nat}{body:Ev->Mo Fl}{ds:List D}{ρ:Ev}{F:Fl->MH->Prop}(I:Nat->Ev->MH->Prop)(h0:I 0 ρ M)(hs:∀n ρ M,I n ρ M->gK ck M)
  (h:∀(n:Nat) (d:D) (ρ:Ev) (M:MH),ds[n]?=some d->I n ρ M->W (body (ρ.set i (some d))) M (kM I F n))
  (q:∀ρ M,I ds.length ρ M->F (.nx ρ) M):W (dB ck i body ds ρ) M F:=by
 suffices H:∀(r:List D) (n:Nat) (ρ:Ev) (M:MH),(∀j d,r[j]?=some d->ds[n+j]?=some d)->n+r.length=ds.length->I n ρ M->W (dB ck i body r ρ) M F from
  H ds 0 ρ M (fun j d e=>by simpa using e) (by simp) h0
 intro r;induction r with
 |nil =>
  intro n ρ M _ hn hI;unfold dB;rw[ar];refine W.of (show bN ck M=some (.ok (),M) from if_pos (hs _ _ _ hI)) ?_;rw[ao]
  have:n=ds.length:=by simpa using hn
  exact q _ _ (this▸hI)
 |cons d r ih =>
  intro n ρ M hr hn hI;unfold dB;rw[ar];refine W.of (show bN ck M=some (.ok (),M) from if_pos (hs _ _ _ hI)) ?_;rw[ar];have hd:ds[n]?=some d:=by simpa using hr 0 d rfl
  have hr':∀j d',r[j]?=some d'->ds[n+1+j]?=some d':=fun j d' e=>by
   have:=hr (j+1) d' (by simpa using e)
   rwa [show n+(j+1)=n+1+j by omega]at this
  have hn':n+1+r.length=ds.length:=by rw[zg]at hn;first|lia|omega
  refine(h n d ρ M hd hI).mono fun f M1 hf=>?_;cases f with
  |nx ρ'=>exact ih (n+1) ρ' M1 hr' hn' hf
  |ct ρ'=>exact ih (n+1) ρ' M1 hr' hn' hf
  |bk ρ'=>exact(ao _ _ _).mpr hf
  |rt v=>exact(ao _ _ _).mpr hf
end
end L3
namespace L3
open PySem
theorem Vo{x:Str}:ki (.str x)=some (.inr x):=rfl
theorem Vp{x:Int}:ki (.int x)=some (.inl x):=rfl
theorem eq_str{a b:Str}:eY (.str a) (.str b)=(a==b):=rfl
theorem eq_int{a b:Int}:eY (.int a) (.int b)=(a==b):=rfl
end L3
namespace L3
open PySem
section
variable {Γ:Ctx}{ρ:Ev}{M:MH}{a b c:IE}{Q:D->MH->Prop}{es:cG}{x y:D}{B:Bool->MH->Prop}
theorem Ul:W (af Γ (.neg a) ρ) M Q=W (af Γ a ρ) M fun x M1=>∃i,x=.int i/\Q (.int (-i)) M1:=by
 delta W;simp only[BG,aw];refine congrArg _ (funext fun x=>funext fun M1=>?_);cases x <;> simp[sO,aZ]
theorem w_getI(i:Nat)(M:MH)(Q:Nat×List (Str×D)->MH->Prop):W (i7 i) M Q=∃C fs,M[i]?=some (.ins C fs)/\Q (C,fs) M:=by
 refine propext ⟨fun ⟨b,M',e,q⟩=>?_,fun ⟨C,fs,ho,q⟩=>⟨(C,fs),M,by unfold i7;rw[ho],q⟩⟩;unfold i7 at e;split at e
 ·rename_i C fs h;cases e;exact⟨_,_,h,q⟩
 ·cases e
theorem BN{Γ:Ctx}:∀a f ρ,af Γ (.fld a f) ρ=(do let x<-af Γ a ρ;uE Γ.hc f x):=fun _ _ _=>rfl
theorem Uw{f:Str}:W (af Γ (.fld a f) ρ) M Q=W (af Γ a ρ) M fun x M1=>W (uE Γ.hc f x) M1 Q:=by delta W;simp only[BN,aw]
theorem Xd{C k:Nat}{f:Str}:W (uE C f (.ob k)) M Q=∃fs,M[k]?=some (.ins C fs)/\∃d,fs.lookup f=some d/\Q d M:=by
 show W (i7 k >>= fun p=>need _ >>= fun _=>lift _) M Q=_;rw[ar,w_getI];refine propext ⟨fun ⟨C',fs,h,q⟩=>?_,fun ⟨fs,h,q⟩=>⟨C,fs,h,?_⟩⟩
 ·rw[ar,bM,cK]at q
  obtain⟨e,q⟩:=q;cases (show C'=C from e);exact⟨fs,h,q⟩
 ·rw[ar,bM,cK]
  exact⟨rfl,q⟩
theorem HJ{C k:Nat}{m:Str}{U:Unit->MH->Prop}:W (gM C m (.ob k)) M U=∃fs,M[k]?=some (.ins C fs)/\(fs.lookup m).isNone=true/\U () M:=by
 show W (i7 k >>= fun p=>need _) M U=_;rw[ar,w_getI];refine propext ⟨fun ⟨C',fs,h,q⟩=>?_,fun ⟨fs,h,q⟩=>⟨C,fs,h,?_⟩⟩
 ·rw[bM]at q
  obtain⟨⟨e,e2⟩,q⟩:=q;cases (show C'=C from e);exact⟨fs,h,e2,q⟩
 ·rw[bM]
  exact⟨⟨rfl,q.1⟩,q.2⟩
theorem oB{Γ:Ctx}:∀a m es ρ,af Γ (.mcl a m es) ρ=(do let x<-af Γ a ρ;gM Γ.hc m x;let xs<-aR Γ es ρ;Γ.fn (av m) (x::xs)):=fun _ _ _ _=>rfl
theorem Up{m:Str}:W (af Γ (.mcl a m es) ρ) M Q=W (af Γ a ρ) M fun x M1=>W (gM Γ.hc m x) M1 fun _ M2=>W (aR Γ es ρ) M2 fun xs M3=>W (Γ.fn (av m) (x::xs)) M3 Q:=by delta W;simp only[oB,aw]
theorem BF{Γ:Ctx}:∀es ρ,af Γ (.new es) ρ=(do let xs<-aR Γ es ρ;let o<-bz (.ins Γ.hc []);let r<-Γ.fn "House.__init__" (o::xs);need (gL r=true);pure o):=fun _ _=>rfl
theorem Uk:W (af Γ (.new es) ρ) M Q=W (aR Γ es ρ) M fun xs M1=>W (Γ.fn "House.__init__" (.ob M1.length::xs)) (M1++[.ins Γ.hc []]) fun r M2=>gL r=true/\Q (.ob M1.length) M2:=by
 delta W;simp only[BF,aw,eB,cL,aZ]
theorem BB{Γ:Ctx}:∀a ρ,af Γ (.ssE a) ρ=(do let x<-af Γ a ρ;ssE x):=fun _ _=>rfl
theorem Ue:W (af Γ (.ssE a) ρ) M Q=W (af Γ a ρ) M fun x M1=>W (ssE x) M1 Q:=by delta W;simp only[BB,aw]
theorem W7{k:Nat}:W (ssE (.ob k)) M Q=∃ds,M[k]?=some (.lst ds)/\ds.isEmpty=true/\Q (.ob M.length) (M++[.lst []]):=by
 show W (getL k >>= fun ds=>need _ >>= fun _=>bz _) M Q=_;delta W;simp only[aw,dW,cL,eB]
theorem BC{Γ:Ctx}:∀a ρ,af Γ (.srE a) ρ=(do let x<-af Γ a ρ;srE x):=fun _ _=>rfl
theorem Ug:W (af Γ (.srE a) ρ) M Q=W (af Γ a ρ) M fun x M1=>W (srE x) M1 Q:=by delta W;simp only[BC,aw]
theorem W8{k:Nat}:W (srE (.ob k)) M Q=∃kvs,M[k]?=some (.aW kvs)/\kvs.isEmpty=true/\Q (.ob M.length) (M++[.lst []]):=by
 show W (getD k >>= fun ds=>need _ >>= fun _=>bz _) M Q=_;delta W;simp only[aw,Ll,cL,eB]
theorem BI{Γ:Ctx}:∀a b ρ,af Γ (.mnE a b) ρ=(do let x<-af Γ a ρ;let y<-af Γ b ρ;mnE y x):=fun _ _ _=>rfl
theorem Uo:W (af Γ (.mnE a b) ρ) M Q=W (af Γ a ρ) M fun x M1=>W (af Γ b ρ) M1 fun y M2=>W (mnE y x) M2 Q:=by delta W;simp only[BI,aw]
theorem W9{k:Nat}:W (mnE y (.ob k)) M Q=∃ds,M[k]?=some (.lst ds)/\ds.isEmpty=true/\Q y M:=by
 show W (getL k >>= fun ds=>need _ >>= fun _=>pure _) M Q=_;delta W;simp only[aw,dW,cL,aZ]
theorem vn{Γ:Ctx}:∀o f e ρ,bp Γ (.setF o f e) ρ=(do let v<-af Γ e ρ;let x<-af Γ o ρ;setF Γ.hc f v x;pure (.nx ρ)):=fun _ _ _ _=>rfl
theorem JN{f:Str}{F:Fl->MH->Prop}:W (bp Γ (.setF a f c) ρ) M F=W (af Γ c ρ) M fun v M1=>W (af Γ a ρ) M1 fun x M2=>W (setF Γ.hc f v x) M2 fun _ M3=>F (.nx ρ) M3:=by delta W;simp only[vn,aw,aZ]
theorem TQ{C k:Nat}{f:Str}{v:D}{U:Unit->MH->Prop}:W (setF C f v (.ob k)) M U=∃fs,M[k]?=some (.ins C fs)/\fs.length<100/\U () (M.set k (.ins C (putD f v fs))):=by
 show W (i7 k >>= fun p=>need _ >>= fun _=>cY _ _) M U=_;rw[ar,w_getI];refine propext ⟨fun ⟨C',fs,h,q⟩=>?_,fun ⟨fs,h,q⟩=>⟨C,fs,h,?_⟩⟩
 ·rw[ar,bM,fL]at q
  obtain⟨⟨e,e2⟩,_,q⟩:=q;cases (show C'=C from e);exact⟨fs,h,e2,q⟩
 ·rw[ar,bM,fL]
  exact⟨⟨rfl,q.1⟩,(zw.mp h).1,q.2⟩
theorem Tr:W (af Γ (.intB a) ρ) M Q=W (af Γ a ρ) M fun x M1=>∃b,bD x=some b/\Q (.int (if b then 1 else 0)) M1:=by
 delta W;simp only[vC,aw,fN,aZ]
theorem Uy{m:M0}:W (af Γ (.clr m a) ρ) M Q=W (af Γ a ρ) M fun x M1=>∃k,x=.ob k/\∃ds,M1[k]?=some (.lst ds)/\∃r,Ap .non m ds=some r/\Q r.1 (M1.set k (.lst r.2)):=by
 rw[BP,ar];refine C9 (fun x M1=>?_);cases x with
 |ob k =>
  show W (getL k >>= fun ds=>lift (Ap .non m ds) >>= fun r=>cY k (.lst r.2) >>= fun _=>pure r.1) M1 Q=_;rw[ar,iP];refine propext ⟨fun ⟨ds,h,q⟩=>?_,fun ⟨k',e,ds,h,r,hr,q⟩=>?_⟩
  ·rw[ar,cK]at q
   obtain⟨r,hr,q⟩:=q;rw[ar,fL,ao]at q;exact⟨k,rfl,ds,h,r,hr,q.2⟩
  ·cases e
   exact⟨ds,h,by rw[ar,cK];exact⟨r,hr,by rw[ar,fL,ao];exact⟨(zw.mp h).1,q⟩⟩⟩
 |_ =>
  show W Mo.stop M1 Q=_;rw[eX];exact propext ⟨fun h=>h.elim,fun ⟨k,e,_⟩=>by cases e⟩
theorem To:W (af Γ (.revL a) ρ) M Q=W (af Γ a ρ) M fun x M1=>W (kL x) M1 fun ds M2=>Q (.ob M2.length) (M2++[.lst ds.reverse]):=by
 delta W;simp only[vA,aw,eB]
theorem Ur{t:Ty}:W (af Γ (.isI a t) ρ) M Q=W (af Γ a ρ) M fun x M1=>W (dz t x) M1 fun k M2=>Q (.bl k) M2:=by
 delta W;simp only[BK,aw,aZ]
theorem Tq{t u:Ty}:W (af Γ (.isI2 a t u) ρ) M Q=W (af Γ a ρ) M fun x M1=>W (dz t x) M1 fun k M2=>W (dz u x) M2 fun l M3=>Q (.bl (k||l)) M3:=by
 delta W;simp only[vB,aw,aZ]
theorem Ts{ks:List Str}:W (af Γ (.dicS ks es) ρ) M Q=W (aR Γ es ρ) (M++[.aW []]) fun xs M1=>W (pE ks (.ob M.length) xs) M1 Q:=by
 delta W;simp only[vD,aw,eB]
theorem Tz{ks:List Str}{i:Nat}{xs:List D}:W (pE ks (.ob i) xs) M Q=∃kvs,M[i]?=some (.aW kvs)/\(kvs.isEmpty=true/\ks.length=xs.length/\ks.length<=15)/\Q (.ob i) (M.set i (.aW (iZ [] ((ks.map Sum.inr).zip xs)))):=by
 show W (getD i >>= fun kvs=>need _ >>= fun _=>cY i _ >>= fun _=>pure _) M Q=_;rw[ar,Dt];refine congrArg _ (funext fun kvs=>propext (and_congr_right fun h=>?_));rw[ar,bM,ar,fL,ao];exact and_congr_right fun _=>⟨fun q=>q.2,fun q=>⟨(zw.mp h).1,q⟩⟩
theorem Rv{i j:Nat}{e:IE}:W (af Γ (.compZ i j a b e) ρ) M Q=W (af Γ a ρ) M fun x M1=>W (af Γ b ρ) M1 fun y M2=>W (ny x y) M2 fun s M3=>s.ds.length<=zq/\W (d9 s.c1 s.c2 (af Γ e) ((ρ.set i none).set j none) s.ds) M3 fun ys M4=>Q (.ob M4.length) (M4++[.lst ys]):=by
 delta W;simp only[tK,aw,cL,eB]
theorem TM{xs ys:List D}{Z:HE->MH->Prop}:W (ny (.tup xs) (.tup ys)) M Z=(xs.length=ys.length/\Z ⟨none,none,xs.zip ys⟩ M):=by
 show W (need _ >>= fun _=>pure _) M Z=_;rw[ar,bM,ao]
theorem TN{i j:Nat}{Z:HE->MH->Prop}:W (ny (.ob i) (.ob j)) M Z=∃xs,M[i]?=some (.lst xs)/\∃ys,M[j]?=some (.lst ys)/\xs.length=ys.length/\Z ⟨some (i,xs),some (j,ys),xs.zip ys⟩ M:=by
 show W (getL i >>= fun xs=>getL j >>= fun ys=>need _ >>= fun _=>pure _) M Z=_;delta W;simp only[aw,dW,cL,aZ]
theorem JS{c1 c2:Option (Nat×List D)}{e:Ev->Mo D}{ds:List (D×D)}{L:List D->MH->Prop}(I:Nat->List D->MH->Prop)(h0:I 0 [] M)(hs:∀n ys M,I n ys M->gK c1 M/\gK c2 M)
  (h:∀(n:Nat) (p:D×D) (ys:List D) (M:MH),ds[n]?=some p->I n ys M->W (e (some p.1::some p.2::ρ)) M fun y M2=>I (n+1) (ys++[y]) M2)
  (q:∀ys M,I ds.length ys M->L ys M):W (d9 c1 c2 e ρ ds) M L:=by
 suffices H:∀(r:List (D×D)) (n:Nat) (ys:List D) (M:MH),(∀j d,r[j]?=some d->ds[n+j]?=some d)->n+r.length=ds.length->I n ys M->W (d9 c1 c2 e ρ r) M fun zs M'=>L (ys++zs) M' by
  simpa using H ds 0 [] M (fun j d e=>by simpa using e) (by simp) h0
 intro r;induction r with
 |nil =>
  intro n ys M _ hn hI;unfold d9;rw[ar];refine W.of (show bN c1 M=some (.ok (),M) from if_pos (hs _ _ _ hI).1) ?_;rw[ar];refine W.of (show bN c2 M=some (.ok (),M) from if_pos (hs _ _ _ hI).2) ?_;rw[ao,zJ]
  have:n=ds.length:=by simpa using hn
  exact q _ _ (this▸hI)
 |cons d r ih =>
  intro n ys M hr hn hI;unfold d9;rw[ar];refine W.of (show bN c1 M=some (.ok (),M) from if_pos (hs _ _ _ hI).1) ?_;rw[ar];refine W.of (show bN c2 M=some (.ok (),M) from if_pos (hs _ _ _ hI).2) ?_;rw[ar];have hd:ds[n]?=some d:=by simpa using hr 0 d rfl
  have hr':∀j d',r[j]?=some d'->ds[n+1+j]?=some d':=fun j d' e=>by
   have:=hr (j+1) d' (by simpa using e)
   rwa [show n+(j+1)=n+1+j by omega]at this
  have hn':n+1+r.length=ds.length:=by rw[zg]at hn;first|lia|omega
  refine(h n d ys M hd hI).mono fun y M2 NT=>?_;rw[ar];refine(ih (n+1) (ys++[y]) M2 hr' hn' NT).mono fun zs M3 hL=>?_;rw[ao];simpa using hL
theorem Um{m:Mt}:W (af Γ (.mth m a es) ρ) M Q=W (af Γ a ρ) M fun x M1=>W (iU m x) M1 fun _ M2=>W (aR Γ es ρ) M2 fun xs M3=>W (iq m x xs) M3 Q:=by
 delta W;simp only[BH,aw]
theorem Xs{i j:Int}:W (eT .Pow (.int i) (.int j)) M Q=((0<=j/\j<=1000000/\i.natAbs<2 ^ 64)/\Q (.int (i ^ j.toNat)) M):=by
 show W (need _ >>= fun _=>pure _) M Q=_;rw[ar,bM,ao]
theorem Xq{t:Ty}:W (dz t .non) M B=B false M:=ao _ M B
theorem Yh{t:Ty}{k:Bool}:W (dz t (.bl k)) M B=B (t==.bool||t==.int) M:=ao _ M B
theorem Xr{t:Ty}{k:Int}:W (dz t (.int k)) M B=B (t==.int) M:=ao _ M B
theorem Xp{t:Ty}{k:Str}:W (dz t (.str k)) M B=B (t==.str) M:=ao _ M B
theorem Xo{t:Ty}{k:List D}:W (dz t (.tup k)) M B=B (t==.tuple) M:=ao _ M B
theorem Yg{t:Ty}{k:List D}:W (dz t (.fl k)) M B=B (t==.list) M:=ao _ M B
noncomputable def Qa(t:Ty):MO->Bool
 |.lst _=>t==.list
 |.aW _=>t==.dict
 |.ins _ _=>false
theorem RK{t:Ty}{k:Nat}:W (dz t (.ob k)) M B=∃o,M[k]?=some o/\Ak o (B (Qa t o) M):=by
 show W (getM k >>= _) M B=_;rw[ar,jW];refine congrArg _ (funext fun o=>congrArg _ ?_);cases o <;> simp[Qa,Ak,ao,eX]
theorem XS{ds:List D}{L:List D->MH->Prop}:W (i3 (.tup ds)) M L=L ds M:=ao _ M L
theorem Yp{ds:List D}{L:List D->MH->Prop}:W (i3 (.fl ds)) M L=L ds M:=ao _ M L
theorem Yo{k:Nat}{L:List D->MH->Prop}:W (i3 (.ob k)) M L=∃ds,M[k]?=some (.lst ds)/\L ds M:=iP k M L
theorem Yn{ds:List D}{L:List D->MH->Prop}:W (kL (.fl ds)) M L=L ds M:=ao _ M L
theorem Ym{k:Nat}{L:List D->MH->Prop}:W (kL (.ob k)) M L=∃ds,M[k]?=some (.lst ds)/\L ds M:=iP k M L
theorem TJ:W (eJ .list [x]) M Q=W (i3 x) M fun ds M1=>Q (.ob M1.length) (M1++[.lst ds]):=by
 show W (i3 x >>= fun ds=>bz (.lst ds)) M Q=_;delta W;simp only[aw,eB]
section
variable {U:Unit->MH->Prop}
theorem tH{k:Nat}:W (iU .append (.ob k)) M U=∃ds,M[k]?=some (.lst ds)/\U () M:=by
 show W (getL k >>= fun _=>pure ()) M U=_;delta W;simp only[aw,dW,aZ]
theorem RE{k:Nat}:W (iU .extend (.ob k)) M U=∃ds,M[k]?=some (.lst ds)/\U () M:=tH
theorem RD{k:Nat}:W (iU .index (.ob k)) M U=∃ds,M[k]?=some (.lst ds)/\U () M:=tH
theorem RC{k:List D}:W (iU .index (.tup k)) M U=U () M:=ao _ M U
theorem UP{k:Str}:W (iU .find (.str k)) M U=U () M:=ao _ M U
theorem UO{k:Str}:W (iU .join (.str k)) M U=U () M:=ao _ M U
end
theorem HK{β:Type}{k:Nat}{o:MO}{r:β}{R:β->MH->Prop}{ds:List D}(h:M[k]?=some (.lst ds)):W (cY k o >>= fun _=>pure r) M R=R r (M.set k o):=by
 rw[ar,fL];have e:W (pure r:Mo β) (M.set k o) R=R r (M.set k o):=ao _ _ _;rw[e];simp[aP h]
theorem RX{k:Nat}:W (iq .append (.ob k) [y]) M Q=∃ds,M[k]?=some (.lst ds)/\ds.length<zq/\Q .non (M.set k (.lst (ds++[y]))):=by
 show W (getL k >>= fun ds=>need _ >>= fun _=>cY k _ >>= fun _=>pure D.non) M Q=_;rw[ar,iP];refine congrArg _ (funext fun ds=>propext (and_congr_right fun h=>?_));rw[ar,bM,HK h]
theorem RV{ds:List D}:W (iq .index (.tup ds) [y]) M Q=((bE y=true/\ds.all bE=true)/\∃j,ds.findIdx? (fun d=>eY d y)=some j/\Q (.int (j:Nat)) M):=by
 show W (need _ >>= fun _=>lift _ >>= fun j=>pure _) M Q=_;delta W;simp only[aw,cL,fN,aZ]
theorem RW{k:Nat}:W (iq .index (.ob k) [y]) M Q=∃ds,M[k]?=some (.lst ds)/\(bE y=true/\ds.all bE=true)/\∃j,ds.findIdx? (fun d=>eY d y)=some j/\Q (.int (j:Nat)) M:=by
 show W (getL k >>= fun ds=>need _ >>= fun _=>lift _ >>= fun j=>pure _) M Q=_;delta W;simp only[aw,dW,cL,fN,aZ]
theorem m_find{s t:Str}:W (iq .find (.str s) [.str t]) M Q=Q (.int (findS s t)) M:=ao _ M Q
theorem Vk{t:Str}{k:Nat}:W (iq .join (.str t) [.ob k]) M Q=∃ds,M[k]?=some (.lst ds)/\∃ys,ds.mapM sW=some ys/\(ys.map (·.length)).sum+ys.length*t.length<=16777216/\Q (.str (jj t ys)) M:=by
 show W (getL k >>= fun ds=>lift _ >>= fun ys=>need _ >>= fun _=>pure _) M Q=_;delta W;simp only[aw,dW,cL,fN,aZ]
theorem Qo{k j:Nat}:W (iq .extend (.ob k) [.ob j]) M Q=∃es,M[j]?=some (.lst es)/\∃ds,M[k]?=some (.lst ds)/\(ds.length+es.length<=zq/\(j==k)=false)/\Q .non (M.set k (.lst (ds++es))):=by
 show W (getL j >>= fun es=>getL k >>= fun ds=>need _ >>= fun _=>cY k _ >>= fun _=>pure D.non) M Q=_;rw[ar,iP];refine congrArg _ (funext fun es=>propext (and_congr_right fun h0=>?_));rw[ar,iP];refine exists_congr fun ds=>and_congr_right fun h=>?_;rw[ar,bM,HK h];rfl
theorem S8{F:Fl->MH->Prop}:W (bp Γ .halt ρ) M F=False:=eX M F
end
section
variable {α:Type}{a b c d e f g:α}{l:List α}
theorem WM:ee (a::l) 0=some a:=by simp[ee,oN]
theorem WL:ee (a::b::l) 1=some b:=dI (j:=1) rfl
theorem at2:ee (a::b::c::l) 2=some c:=dI (j:=2) rfl
theorem YO:ee (a::b::c::d::l) 3=some d:=dI (j:=3) rfl
theorem YN:ee (a::b::c::d::e::l) 4=some e:=dI (j:=4) rfl
end
theorem pF{α:Type}(xs:List α){v:Int}(h:0<=v):cutD xs none (some v)=xs.take v.toNat:=by
 unfold cutD;simp only[dD];rw[if_neg (by first|lia|omega),xS,xw]
 by_cases h2:v.toNat<=xs.length
 ·rw[wN h2]
 ·rw[wH (by first|lia|omega),zY,xv (by first|lia|omega)]
theorem Oi{α:Type}(xs:List α){v:Int}(h:0<=v):cutD xs (some v) none=xs.drop v.toNat:=by
 unfold cutD;simp only[dD];rw[if_neg (by first|lia|omega)]
 by_cases h2:v.toNat<=xs.length
 ·rw[wN h2,xv (by rw[zX];exact zp _)]
 ·rw[wH (by first|lia|omega),yC,List.drop_of_length_le (by first|lia|omega)]
  simp
noncomputable def fU:Nat->D->Bool
 |0,_=>false
 |n+1,.tup ds=>ds.all (fU n)
 |_+1,d=>bE d
noncomputable def pC:Nat->aI->aI
 |0,s=>s
 |n+1,.cons _ r=>pC n r
 |_+1,.nil=>.nil
theorem WI{s:aI}:pC 0 s=s:=rfl
noncomputable def uQ:Nat->aI->aI->aI
 |0,_,t=>t
 |n+1,.cons s r,t=>.cons s (uQ n r t)
 |_+1,.nil,t=>t
theorem Yb{s t:aI}:uQ 0 s t=t:=rfl
theorem X9{n:Nat}{s:IS}{r t:aI}:uQ (n+1) (.cons s r) t=.cons s (uQ n r t):=rfl
theorem PM:∀(n:Nat) (b:aI),b=uQ n b (pC n b)
 |0,_=>rfl
 |n+1,.cons s r=>congrArg _ (PM n r)
 |_+1,.nil=>rfl
theorem WH{n:Nat}{s:IS}{r:aI}:pC (n+1) (.cons s r)=pC n r:=rfl
end L3
namespace L3
open PySem
section
variable {Γ:Ctx}{ρ:Ev}{M:MH}{Q:D->MH->Prop}{x y v:D}{a:IE}{s1:aI}{U:Unit->MH->Prop}{B:Bool->MH->Prop}{S:Src->MH->Prop}{F:Fl->MH->Prop}
theorem wp_seq:W (kA Γ (.seq a) ρ) M S=W (af Γ a ρ) M fun x M1=>W (fw x) M1 S:=by delta W;simp only[By,aw]
theorem S9{i j:Nat}{it:IP}:W (bp Γ (.forP i j it s1) ρ) M F=W (kA Γ it ρ) M fun s M1=>W (fg s.ck i j (au Γ s1) s.ds ρ) M1 F:=by delta W;simp only[vp,aw]
theorem Te{is:List Nat}:W (bp Γ (.forN is a s1) ρ) M F=W (af Γ a ρ) M fun x M1=>W (fw x) M1 fun s M2=>W (dA s.ck is (au Γ s1) s.ds ρ) M2 F:=by delta W;simp only[vq,aw]
theorem JR{ck:Option (Nat×List D)}{is:List Nat}{body:Ev->Mo Fl}{ds:List D}(I:Nat->Ev->MH->Prop)(h0:I 0 ρ M)(hs:∀n ρ M,I n ρ M->gK ck M)
  (h:∀(n:Nat) (d:D) (ρ:Ev) (M:MH),ds[n]?=some d->I n ρ M->∃xs ρ1,d=.tup xs/\hX is xs ρ=some ρ1/\W (body ρ1) M (kM I F n))
  (q:∀ρ M,I ds.length ρ M->F (.nx ρ) M):W (dA ck is body ds ρ) M F:=by
 suffices H:∀(r:List D) (n:Nat) (ρ:Ev) (M:MH),(∀j d,r[j]?=some d->ds[n+j]?=some d)->n+r.length=ds.length->I n ρ M->W (dA ck is body r ρ) M F from
  H ds 0 ρ M (fun j d e=>by simpa using e) (by simp) h0
 intro r;induction r with
 |nil =>
  intro n ρ M _ hn hI;unfold dA;rw[ar];refine W.of (show bN ck M=some (.ok (),M) from if_pos (hs _ _ _ hI)) ?_;rw[ao]
  have:n=ds.length:=by simpa using hn
  exact q _ _ (this▸hI)
 |cons d r ih =>
  intro n ρ M hr hn hI;unfold dA;rw[ar];refine W.of (show bN ck M=some (.ok (),M) from if_pos (hs _ _ _ hI)) ?_;have hd:ds[n]?=some d:=by simpa using hr 0 d rfl
  have hr':∀j d',r[j]?=some d'->ds[n+1+j]?=some d':=fun j d' e=>by
   have:=hr (j+1) d' (by simpa using e)
   rwa [show n+(j+1)=n+1+j by omega]at this
  have hn':n+1+r.length=ds.length:=by rw[zg]at hn;first|lia|omega
  obtain⟨xs,ρ1,rfl,hb,hw⟩:=h n d ρ M hd hI;rw[ar,cK];refine⟨xs,rfl,?_⟩;rw[ar,cK];refine⟨ρ1,hb,?_⟩;rw[ar];refine hw.mono fun f M1 hf=>?_;cases f with
  |nx ρ'=>exact ih (n+1) ρ' M1 hr' hn' hf
  |ct ρ'=>exact ih (n+1) ρ' M1 hr' hn' hf
  |bk ρ'=>exact(ao _ _ _).mpr hf
  |rt v=>exact(ao _ _ _).mpr hf
noncomputable def Ry:MO->Bool
 |.lst ds=>!ds.isEmpty
 |.aW kvs=>!kvs.isEmpty
 |.ins _ _=>false
theorem Xj{ds:List D}:Ry (.lst ds)=!ds.isEmpty:=rfl
theorem JQ{ck:Option (Nat×List D)}{i j:Nat}{body:Ev->Mo Fl}{ds:List D}(I:Nat->Ev->MH->Prop)(h0:I 0 ρ M)(hs:∀n ρ M,I n ρ M->gK ck M)
  (h:∀(n:Nat) (d:D) (ρ:Ev) (M:MH),ds[n]?=some d->I n ρ M->∃x y,d=.tup [x,y]/\W (body ((ρ.set i (some x)).set j (some y))) M (kM I F n))
  (q:∀ρ M,I ds.length ρ M->F (.nx ρ) M):W (fg ck i j body ds ρ) M F:=by
 suffices H:∀(r:List D) (n:Nat) (ρ:Ev) (M:MH),(∀j d,r[j]?=some d->ds[n+j]?=some d)->n+r.length=ds.length->I n ρ M->W (fg ck i j body r ρ) M F from
  H ds 0 ρ M (fun j d e=>by simpa using e) (by simp) h0
 intro r;induction r with
 |nil =>
  intro n ρ M _ hn hI;unfold fg;rw[ar];refine W.of (show bN ck M=some (.ok (),M) from if_pos (hs _ _ _ hI)) ?_;rw[ao]
  have:n=ds.length:=by simpa using hn
  exact q _ _ (this▸hI)
 |cons d r ih =>
  intro n ρ M hr hn hI;unfold fg;rw[ar];refine W.of (show bN ck M=some (.ok (),M) from if_pos (hs _ _ _ hI)) ?_;have hd:ds[n]?=some d:=by simpa using hr 0 d rfl
  have hr':∀j d',r[j]?=some d'->ds[n+1+j]?=some d':=fun j d' e=>by
   have:=hr (j+1) d' (by simpa using e)
   rwa [show n+(j+1)=n+1+j by omega]at this
  have hn':n+1+r.length=ds.length:=by rw[zg]at hn;first|lia|omega
  obtain⟨x,y,rfl,hw⟩:=h n d ρ M hd hI;rw[ar,cK];refine⟨(x,y),rfl,?_⟩;rw[ar];refine hw.mono fun f M1 hf=>?_;cases f with
  |nx ρ'=>exact ih (n+1) ρ' M1 hr' hn' hf
  |ct ρ'=>exact ih (n+1) ρ' M1 hr' hn' hf
  |bk ρ'=>exact(ao _ _ _).mpr hf
  |rt v=>exact(ao _ _ _).mpr hf
end
end L3
namespace L3
open PySem
section
variable {Γ:Ctx}{ρ:Ev}{M:MH}{Q:D->MH->Prop}{d:D}{e:IE}{r:aI}{F:Fl->MH->Prop}{y o0 o1 o2 o3 o4 o5 o6 o7 o8 o9 fJ iD lx qO Im:Option D}
theorem v0_:W (af Γ (.var 0) (some d::ρ)) M Q=Q d M:=by rw[cz];simp
theorem v1_:W (af Γ (.var 1) (o0::some d::ρ)) M Q=Q d M:=by rw[cz];simp
theorem v2_:W (af Γ (.var 2) (o0::o1::some d::ρ)) M Q=Q d M:=by rw[cz];simp
theorem v3_:W (af Γ (.var 3) (o0::o1::o2::some d::ρ)) M Q=Q d M:=by rw[cz];simp
theorem v4_:W (af Γ (.var 4) (o0::o1::o2::o3::some d::ρ)) M Q=Q d M:=by rw[cz];simp
theorem v5_:W (af Γ (.var 5) (o0::o1::o2::o3::o4::some d::ρ)) M Q=Q d M:=by rw[cz];simp
theorem v6_:W (af Γ (.var 6) (o0::o1::o2::o3::o4::o5::some d::ρ)) M Q=Q d M:=by rw[cz];simp
theorem v7_:W (af Γ (.var 7) (o0::o1::o2::o3::o4::o5::o6::some d::ρ)) M Q=Q d M:=by rw[cz];simp
theorem v8_:W (af Γ (.var 8) (o0::o1::o2::o3::o4::o5::o6::o7::some d::ρ)) M Q=Q d M:=by rw[cz];simp
theorem v9_:W (af Γ (.var 9) (o0::o1::o2::o3::o4::o5::o6::o7::o8::some d::ρ)) M Q=Q d M:=by rw[cz];simp
theorem v10_:W (af Γ (.var 10) (o0::o1::o2::o3::o4::o5::o6::o7::o8::o9::some d::ρ)) M Q=Q d M:=by rw[cz];simp
theorem v11_:W (af Γ (.var 11) (o0::o1::o2::o3::o4::o5::o6::o7::o8::o9::fJ::some d::ρ)) M Q=Q d M:=by rw[cz];simp
theorem v12_:W (af Γ (.var 12) (o0::o1::o2::o3::o4::o5::o6::o7::o8::o9::fJ::iD::some d::ρ)) M Q=Q d M:=by rw[cz];simp
theorem v13_:W (af Γ (.var 13) (o0::o1::o2::o3::o4::o5::o6::o7::o8::o9::fJ::iD::lx::some d::ρ)) M Q=Q d M:=by rw[cz];simp
theorem v14_:W (af Γ (.var 14) (o0::o1::o2::o3::o4::o5::o6::o7::o8::o9::fJ::iD::lx::qO::some d::ρ)) M Q=Q d M:=by rw[cz];simp
theorem v15_:W (af Γ (.var 15) (o0::o1::o2::o3::o4::o5::o6::o7::o8::o9::fJ::iD::lx::qO::Im::some d::ρ)) M Q=Q d M:=by rw[cz];simp
theorem s0_:W (au Γ (.cons (.set 0 e) r) (y::ρ)) M F=W (af Γ e (y::ρ)) M fun x M1=>W (au Γ r (some x::ρ)) M1 F:=by rw[bQ,cy];rfl
theorem s1_:W (au Γ (.cons (.set 1 e) r) (o0::y::ρ)) M F=W (af Γ e (o0::y::ρ)) M fun x M1=>W (au Γ r (o0::some x::ρ)) M1 F:=by rw[bQ,cy];rfl
theorem s2_:W (au Γ (.cons (.set 2 e) r) (o0::o1::y::ρ)) M F=W (af Γ e (o0::o1::y::ρ)) M fun x M1=>W (au Γ r (o0::o1::some x::ρ)) M1 F:=by rw[bQ,cy];rfl
theorem s3_:W (au Γ (.cons (.set 3 e) r) (o0::o1::o2::y::ρ)) M F=W (af Γ e (o0::o1::o2::y::ρ)) M fun x M1=>W (au Γ r (o0::o1::o2::some x::ρ)) M1 F:=by rw[bQ,cy];rfl
theorem s4_:W (au Γ (.cons (.set 4 e) r) (o0::o1::o2::o3::y::ρ)) M F=W (af Γ e (o0::o1::o2::o3::y::ρ)) M fun x M1=>W (au Γ r (o0::o1::o2::o3::some x::ρ)) M1 F:=by rw[bQ,cy];rfl
theorem s5_:W (au Γ (.cons (.set 5 e) r) (o0::o1::o2::o3::o4::y::ρ)) M F=W (af Γ e (o0::o1::o2::o3::o4::y::ρ)) M fun x M1=>W (au Γ r (o0::o1::o2::o3::o4::some x::ρ)) M1 F:=by rw[bQ,cy];rfl
theorem s6_:W (au Γ (.cons (.set 6 e) r) (o0::o1::o2::o3::o4::o5::y::ρ)) M F=W (af Γ e (o0::o1::o2::o3::o4::o5::y::ρ)) M fun x M1=>W (au Γ r (o0::o1::o2::o3::o4::o5::some x::ρ)) M1 F:=by rw[bQ,cy];rfl
theorem s7_:W (au Γ (.cons (.set 7 e) r) (o0::o1::o2::o3::o4::o5::o6::y::ρ)) M F=W (af Γ e (o0::o1::o2::o3::o4::o5::o6::y::ρ)) M fun x M1=>W (au Γ r (o0::o1::o2::o3::o4::o5::o6::some x::ρ)) M1 F:=by rw[bQ,cy];rfl
theorem s8_:W (au Γ (.cons (.set 8 e) r) (o0::o1::o2::o3::o4::o5::o6::o7::y::ρ)) M F=W (af Γ e (o0::o1::o2::o3::o4::o5::o6::o7::y::ρ)) M fun x M1=>W (au Γ r (o0::o1::o2::o3::o4::o5::o6::o7::some x::ρ)) M1 F:=by rw[bQ,cy];rfl
theorem s9_:W (au Γ (.cons (.set 9 e) r) (o0::o1::o2::o3::o4::o5::o6::o7::o8::y::ρ)) M F=W (af Γ e (o0::o1::o2::o3::o4::o5::o6::o7::o8::y::ρ)) M fun x M1=>W (au Γ r (o0::o1::o2::o3::o4::o5::o6::o7::o8::some x::ρ)) M1 F:=by rw[bQ,cy];rfl
theorem s10_:W (au Γ (.cons (.set 10 e) r) (o0::o1::o2::o3::o4::o5::o6::o7::o8::o9::y::ρ)) M F=W (af Γ e (o0::o1::o2::o3::o4::o5::o6::o7::o8::o9::y::ρ)) M fun x M1=>W (au Γ r (o0::o1::o2::o3::o4::o5::o6::o7::o8::o9::some x::ρ)) M1 F:=by rw[bQ,cy];rfl
theorem s11_:W (au Γ (.cons (.set 11 e) r) (o0::o1::o2::o3::o4::o5::o6::o7::o8::o9::fJ::y::ρ)) M F=W (af Γ e (o0::o1::o2::o3::o4::o5::o6::o7::o8::o9::fJ::y::ρ)) M fun x M1=>W (au Γ r (o0::o1::o2::o3::o4::o5::o6::o7::o8::o9::fJ::some x::ρ)) M1 F:=by rw[bQ,cy];rfl
theorem s12_:W (au Γ (.cons (.set 12 e) r) (o0::o1::o2::o3::o4::o5::o6::o7::o8::o9::fJ::iD::y::ρ)) M F=W (af Γ e (o0::o1::o2::o3::o4::o5::o6::o7::o8::o9::fJ::iD::y::ρ)) M fun x M1=>W (au Γ r (o0::o1::o2::o3::o4::o5::o6::o7::o8::o9::fJ::iD::some x::ρ)) M1 F:=by rw[bQ,cy];rfl
theorem s13_:W (au Γ (.cons (.set 13 e) r) (o0::o1::o2::o3::o4::o5::o6::o7::o8::o9::fJ::iD::lx::y::ρ)) M F=W (af Γ e (o0::o1::o2::o3::o4::o5::o6::o7::o8::o9::fJ::iD::lx::y::ρ)) M fun x M1=>W (au Γ r (o0::o1::o2::o3::o4::o5::o6::o7::o8::o9::fJ::iD::lx::some x::ρ)) M1 F:=by rw[bQ,cy];rfl
theorem s14_:W (au Γ (.cons (.set 14 e) r) (o0::o1::o2::o3::o4::o5::o6::o7::o8::o9::fJ::iD::lx::qO::y::ρ)) M F=W (af Γ e (o0::o1::o2::o3::o4::o5::o6::o7::o8::o9::fJ::iD::lx::qO::y::ρ)) M fun x M1=>W (au Γ r (o0::o1::o2::o3::o4::o5::o6::o7::o8::o9::fJ::iD::lx::qO::some x::ρ)) M1 F:=by rw[bQ,cy];rfl
theorem s15_:W (au Γ (.cons (.set 15 e) r) (o0::o1::o2::o3::o4::o5::o6::o7::o8::o9::fJ::iD::lx::qO::Im::y::ρ)) M F=W (af Γ e (o0::o1::o2::o3::o4::o5::o6::o7::o8::o9::fJ::iD::lx::qO::Im::y::ρ)) M fun x M1=>W (au Γ r (o0::o1::o2::o3::o4::o5::o6::o7::o8::o9::fJ::iD::lx::qO::Im::some x::ρ)) M1 F:=by rw[bQ,cy];rfl
end
end L3
local macro_rules|`(tactic| walk_at $s:str)=>do
 unless s.getString=="wp"||s.getString=="ws" do Lean.Macro.throwUnsupported
 let a<-(("v0_ v1_ v2_ v3_ v4_ v5_ v6_ v7_ v8_ v9_ v10_ v11_ v12_ v13_ v14_ v15_ s0_ s1_ s2_ s3_ s4_ s5_ s6_ s7_ s8_ s9_ s10_ s11_ s12_ s13_ s14_ s15_".splitOn " ").toArray.map fun s=>Lean.mkIdent (`L3++s.toName)).mapM fun i=>`(Lean.Parser.Tactic.simpLemma| ↓ $i:ident)
 let b<-((("XN Uw Xd HJ Up Uk Ue W7 Ug W8 Uo W9 JN TQ Xi Ui XO XQ XM Yk Yl wp_seq S9 Xj ar ao cz Us Xe Uj Ud Uv UA Ux Tv UB Ut Uc Uq Tt Uu Uh Tw Uz Tu To Tr Uy Ul Ur Tq Ts Tz Rv TM TN Te UP m_find Um S8 Tn Ru Tj Ti TR SW UE UC UD UG Xg Rx Rw Vc Vb Ve Vd TX bQ cy Rt Tf TV SX SY Ua TZ OO TY WA Wz UZ UU UX UW UY XJ Xw XH XG XI Xu Xv Xs Xy XA XE XF Xz Xx Yj XC XB XD Li Yi TF XU Yt XW XX XY Ys Xl OW FV W0 W5 Yc WZ Vu Vv Vr Vs Vt Vw Vq TJ XS Yp Yo Yn Ym Xq Yh Xr Xp Xo Yg tH RE RD RC UO RX RV RW Vk Qo WM WL at2 YO YN k_all XR W6 Yd Xa Ye Xk Yu cK bM sI iP jW Vo Vp D.int.injEq D.bl.injEq D.ob.injEq MO.lst.injEq MO.aW.injEq".replace " OO " (if s.getString=="wp" then " OO " else " TU Xm Xn ")).splitOn " ").toArray.map fun s=>Lean.mkIdent (`L3++s.toName)).mapM fun i=>`(Lean.Parser.Tactic.simpLemma| $i:ident)
 let c<-(("List.getElem?_cons_zero List.getElem?_cons_succ List.set_cons_zero List.set_cons_succ Option.some.injEq exists_eq_left' List.map_cons List.map_nil List.cons_append List.nil_append List.replicate_succ List.replicate_zero List.length_cons List.length_nil true_and and_true Nat.reduceAdd Nat.reduceSub".splitOn " ").toArray.map fun s=>Lean.mkIdent s.toName).mapM fun i=>`(Lean.Parser.Tactic.simpLemma| $i:ident)
 let l:=a++b++c
 `(tactic| try simp only[$l,*])
local macro_rules|`(tactic| walk_at "wq")=>`(tactic| (walk_at "wp";try simp only[xp,wR,yz,wg,false_implies,true_implies,implies_true,true_and,and_true]))
local macro_rules|`(tactic| walk_at "wr")=>`(tactic| (walk_at "ws";try simp only[xp,wR,yz,wg,false_implies,true_implies,implies_true,true_and,and_true]))
local macro_rules|`(tactic| walk_at "o")=>`(tactic| first|decide|exact L3.Au (by decide)|with_reducible exact Int.add_nonneg (by assumption) (by decide)|with_reducible exact L3.Yx (by assumption) (by with_reducible decide)|lia|omega)
namespace L3
open PySem
noncomputable def UT(p:Str×Str):D:=.tup [.str p.1,.str p.2]
noncomputable def UK:D->Str×Str
 |.tup [.str a,.str b]=>(a,b)
 |_=>("","")
noncomputable def look(ps:List (Str×Str))(n:Str):Option Str:=(ps.find? fun p=>decide (p.1=n)).map (·.2)
theorem TB(p:Str×Str):UK (UT p)=p:=rfl
end L3
namespace Law
open PySem L3
noncomputable def gl(_:Str):Option D:=none
open Lean in
def pI(t:List String)(p:List Term×List Char)(c:Char):List Term×List Char :=
 let (l,a):=p
 let q:=c=='`'
 if a.isEmpty then
  if q then (l,[c]) else if c.isDigit then (quote (c.toNat-48)::l,a) else
  let j:=t.idxOf c.toString
  let k:=(t.getD (j+2) "").toNat!
  let x:Term:=⟨mkNode `Lean.Parser.Term.dotIdent #[mkAtom ".",mkIdent (.mkSimple (t.getD (j+1) ""))]⟩
  ((if k==0 then x else Syntax.mkApp x (l.take k).reverse.toArray)::l.drop k,a)
 else if q then
  let s:=String.ofList a.tail
  ((match a with
   |_::'#'::r=>quote (String.ofList r).toNat!
   |_::'~'::r=>quote ("_law_"++String.ofList r)
   |_=>quote s)::l,[])
 else (l,a++[c])
local macro_rules|`(tactic| walk_at $s:str)=>do
 unless s.getString.startsWith "!" do Lean.Macro.throwUnsupported
 `(tactic| exact $((s.getString.toList.tail.foldl (pI ("[ cons 2 ] nil 0 a var 1 b cint 1 c idx 2 d set 2 e call 2 f ret 1 g bin 3 h lst 1 i cmp 3 j blt 2 k cmp 1 l some 1 m Add 0 n seq 1 o none 0 p fld 2 q tup 1 r ifS 3 s cstr 1 t slc 3 u comp 4 v list 0 w forS 3 x Eq 0 y len 0 z tru 1 A cnon 0 B expr 1 C setF 3 D mth 3 E mcl 3 F and 2 G Lt 0 H cbl 1 I LtE 0 J not 1 K halt 0 L tuple 0 M isI 2 N false 0 O cmp2 5 P or 2 Q Is 0 R Mod 0 S Sub 0 T rng1 1 U extend 0 V Pow 0 W Gt 0 X setIx 3 Y append 0 Z bool 0 ! FloorDiv 0 # In 0 $ IsNot 0 % neg 1 & isI2 3 * NotEq 0 + str 0 , ifE 3 . index 0 / dic0 0 : rz 0 ; intB 1 < clr 2 = clear 0 > any 0 ? srE 1 @ sortL 1 ^ ssE 1 _ max2 0 | mnE 2 α whileS 2 β join 0 γ find 0 δ dicS 2 ε revL 1 ζ all 0 η compZ 5 θ int 0 ι forN 3 κ forP 4 λ rfs 1 μ true 0 ν new 1".splitOn " ")) ([],[])).1.headD default))
noncomputable def jC:aI:=by walk_at "!20a0bcd2aR!S1a0a1bcg0a2bcgy2a][jgcf][["
noncomputable def jD:aI:=by walk_at "!30ad41anIG4a2bc2a4a3bcOk#3a4ao2bltikF3x3a4a0bcik4a1bc4a0bc,d][]r][w3af][[["
noncomputable def jI:aI:=by walk_at "!>31anox0a0bc1aiIG0a1bc3a0a2bcOFu][jf]["
noncomputable def jJ:aI:=by walk_at "!40a0bcd5.4a`swapped``turn_of`0a3a][[e1a3a][[[e][Dd6m4a5alot4ao5altgn`is_away`6a2a3a][[[ezJ6af][]r][wAf][[[["
noncomputable def dH:aI:=by walk_at "!20anx2a0bc1aik2a1bcf][]r][wAf][["
noncomputable def jK:aI:=by walk_at "!563anx0a0bc1aikl0a1blotud`hand_on``rota_named`2a0a][[e5a4a1a][[[[ef][["
noncomputable def u3:aI:=by walk_at "!I0a3bc1aiQ0a4bcAiW0a4bc1aiPFf]["
noncomputable def pM:aI:=by walk_at "!IG0a2bc1a0a3bcOf]["
noncomputable def jF:aI:=by walk_at "!581an`stands`0a5a][[ezl0aud6`#10`2an`in_force`0a5a][[ezl0aud7/d85anK][w97a?nom0a8a0ac@][qguf][[[[["
noncomputable def k8:aI:=by walk_at "!5/d61an5a6ao2blt6aX][w7]hd8]hd9`#11`2an0a2bczl0aunKKKY7a6a][DB][[[[w7a8a][[qf][[[[[["
noncomputable def eO:aI:=by walk_at "!360a4bcno0a0bcud40a0bcnU3a4a3blot][DB][w50a1bcnU3a5a2blot][DB][w63an$0aAikGG2a0a3aOkFl0au^f][[[["
noncomputable def hY:aI:=by walk_at "!452anW0a1aikl0audU4a51an$0a4bcAikl_0a4bcm1a1bg][[ju][DB4a3a|f][[["
noncomputable def gp:aI:=by walk_at "!561a4bcnx0a0bc5aikl0a1blotud`closed`0a2a3a5a4a][[[[[ef][["
noncomputable def pN:aI:=by walk_at "!Kmm1a][q0ao3bltg6a0a3bc][[qgf][["
noncomputable def iJ:aI:=by walk_at "!8`edges_within`4a6a7a][[[ed95ad`#10`]hd`#11`]hd`#12`6adG`#12`a7aikx`#12`a6aik#`#12`a8aikP`#11``members`0a4a0bc4a1bc2a`#12`a][[[[[ed`#13``all_closed`0a4a9a`#11`a`#12`a][[[[[ed][[K][r9`#13`a0bcdU`#10`a`#14``#13`a1bcno`entry_of`0a`#13`a1a2a5a4a][[[[[[eu][DB`#12``next_turn``#12`a9a8a7a][[[[ed][[[[α9a`#10`a][[qf][[[[[[["
noncomputable def fk:aI:=by walk_at "!G0a1aikK][]r]["
noncomputable def iK:aI:=by walk_at "!II1b1ay0a][jOk0aS1a1bgcA,f]["
noncomputable def dE:aI:=by walk_at "!3`numbered`0a1a][[edQ3aAik`stands`3a2a][[ezJP:][]r3af][[["
noncomputable def hZ:aI:=by walk_at "!20a1bcd0a1bm2a1bgXxy0a0bc][j0bik0bf][]rRm0a0bcR2ay0a0bc][jgc!2ay0a0bc][jgg1agf][[[["
noncomputable def gu:aI:=by walk_at "!2β``s6m1b`~draw`0a5b][[egTo2a`~draw`1ay2a][j][[ecu][Dd3mmγ1a2a1b%c][D1bg`~draw`0aSy1a][j1bg][[egd41aR3ay1a][jgcd51a`~draw`0ay1a][j][[ecd2am2ao1b%lt4agm2a5agmm2ao1b%lt4ag5ag][[[[hf][[[[["
noncomputable def gq:aI:=by walk_at "!1`abcdefghijklmnopqrstuvwxyz`sd2`names``values`][[`~words`0a1a][[eo3blt`~words`0am1a`0123456789`sg][[e][[δd3`~words`0a1a][[ed2a`rotas`s3ao3bltX2a`hands`s`~words`0a1a][[e3aε][[hx`~draw`0a4b][[e3bi;cX2af][[[[[["
noncomputable def fm:aI:=by walk_at "!21a`names`sc`~draw`0a3b][[ecd3`~draw`0a7b][[edW3a4bik`there`s`lacks`s][[hS3a5bgc2a]q][[[qf][]r4`~draw`0a3b][[ed51a`values`sco3blt4almm4a1bg`~draw`0a2b][[egltd`is`s`is`s`is`s`no`s`no`s][[[[[h3ac2aL5a][j][[[qf][[[[[["
noncomputable def eQ:aI:=by walk_at "!L21b0b1b2b][[[[h`~draw`0a4b][[ecTo`~asking`1a2a][[eu][jf]["
noncomputable def gI:aI:=by walk_at "!x`~draw`0a`#12`b][[e`#11`bikm1b`~draw`0aV`#10`b9bg][[egf][]rm1b`~draw`0a5b][[egf][["
noncomputable def eP:aI:=by walk_at "!31a`names`scd4]q3a0bc][q3a2bc3a1bc][[q3a1bc][qL3a][j][[[[[h`~draw`0a5b][[ecd5L91b2b0b1b3b][[[[[h`~draw`0a5b][[ecTo2a`rotas`sc`~draw`1a3b][[ecu][jd6]hdW2a0bik692b1b0b][[[h`~draw`0a3b][[ecTo`~row`1a2aS3a1bg][[[eud][]r7x`~draw`0a3b][[e2bid8`~count`0a][e`~count`0a][e][[qdmm`~askings`0a1a][[e7a4a][[[q8ag5aL6a][j][[qgf][[[[[[[["
noncomputable def gz:aI:=by walk_at "!2]hd31a`rotas`scn4`~draw`0a4b][[ed5m1a`hands`sc1a`hands`scgd65a4almm4a1bg`~draw`0a3b][[egltd71b3bm1b`~draw`0aV`#10`b6bg][[eg][[[h`~draw`0a3b][[ecdY2a3aL6a][j`~draw`0a`#20`b][[e7a][[[q][[q][DB][[[[[w2af][[["
noncomputable def gy:aI:=by walk_at "!2]hd31b0b2b][[[h`~draw`0a3b][[ecT4]q1a`names`sc0bc][q1a`names`sc1bc][q][[[h`~draw`0a3b][[ecdY2a`~askings`0a1a][[e`~askings`0a1a][[e4a][[[q][DB][[w2af][[["
noncomputable def bw:aI:=by walk_at "!1avL&z0avL&zJ*0avM1avMikPNHf][]r*y0a][jy1a][jikNHf][]rζ220a1a`~alike`0a1a][[eη][jf][[[]rQ1aAikQ0aAikPQ1aAiQ0aAiFf][]r1aZMz0aZMzP1aZM0aZMx0a1aiFFf][]r0aθ+&zJ*0a+M1a+MikPNHf][]rx0a1aif][[[[["
noncomputable def jM:aI:=by walk_at "!4v0a0bc][jd5R!S3a0a1bcg0a2bcgy4a][jgd64a5acd789`#10`][[[[1aIG9a3a`#10`aOk#6a7a8a][[qikF67a8a][[hx6a7ai;cd][]r][ι5.4a6a][Dd`#11`y4a][jT64aRm5a`#11`agy4a][jgcdx72anx0a0bc7aikIG0a1bc4a0a2bcOkFl0au]hik6af][]r][[wAf][[[[[[["
noncomputable def gH:aI:=by walk_at "!40a`now`]E0a`records`]E0a`log`]E0a`states`]E0a`open_groups`]E][[[[[hd`~alike`4a1a]h]h]h]h]h][[[[[q]h]h]h][[[[[h][[ezJNHf][]r5mv4a1bc][j4a2blotgnY5a7b][DB][w672an83an`~alike`0a`on_duty`6a8a][[E`~on`7a]h]h8a][[[[e][[ezJNHf][]r][w][κ90b1bV`#10`b9bg][[[hn0a9am2a0bc0bc`zz`sg1a][[[[λzJNHf][]r][wμHf][[[[[["
noncomputable def sj:aI:=by walk_at "!10ao`#84`blt0b][[hd2`~world`1a][ed3`~row`1a2a2b][[[ed4`~rotas`1a2a][[ed5`~rules`1a2a][[ed60b`~draw`1a`#41`b][[e`~draw`1aV`#10`b`#12`bg][[e][[[hd7v4a][jv5a][j][[hd83a7a0bc7a1bc2a`hands`sc0bc][[[[νd=7a0bc<B=7a1bc<B90bd`#10`0b0b`~draw`1a9b][[e`~draw`1aV`#10`b`#11`bg][[e][[[[hn`~first`8a9a4a6a][[[[ezJNHf][]r9m9a`#10`agd$8a`until`9a][EAikNHf][]r][[[w`~first`8a9a4a6a][[[[ef][[[[[[[[[[[[["
noncomputable def dR:aI:=by walk_at "!0a`tree`1aC0a`rotas`v2a][jC0a`rules`v3a][jC0a`top`4aC0a`turn`0bC0a`sayings`]hC0a`quietings`]hC0a`swaps`]hC0a`absences`]hC0a`answers`]hC0a`entries`]hC0a`last_states`]hC][[[[[[[[[[[["
noncomputable def fq:aI:=by walk_at "!`refuse_late`1a0a`turn`p][[eB0a`go_on`1a0a`reckoned_to`1a][E][[EB][["
noncomputable def ia:aI:=by walk_at "!0a`turn`pf]["
noncomputable def eu:aI:=by walk_at "!v0a`sayings`p][jv0a`quietings`p][jv0a`swaps`p][jv0a`absences`p][jv0a`answers`p][j][[[[[qf]["
noncomputable def ib:aI:=by walk_at "!10a`entries`pnom0ao5bltv0a5bc][j][qguf]["
noncomputable def cV:aI:=by walk_at "!`members`0a`tree`p0a`sayings`p0a`quietings`p0a`rules`p0a`turn`p][[[[[ef]["
noncomputable def eR:aI:=by walk_at "!10a`last_states`pnomm0ao2bltv0a2bc][j][qg0a3blotguf]["
noncomputable def eV:aI:=by walk_at "!2`standing_saying`0a`sayings`p1a0a`turn`p][[[edK][["
noncomputable def dn:aI:=by walk_at "!0a`known_rota`1a][EB`hand_by`1a2a0a`rotas`p0a`swaps`p0a`absences`p][[[[[ef][["
noncomputable def bU:aI:=by walk_at "!2`rota_named`0a`rotas`p1a][[edQ2aAik:][]r2af][[["
noncomputable def cU:aI:=by walk_at "!20a`records`]Ed`reckoned`0a`tree`p0a`rotas`p0a`rules`p0a`top`p2a0a`last_states`p0a`turn`p1a][[[[[[[[ef][["
noncomputable def ft:aI:=by walk_at "!0a`last_states`2a0bcCU0a`entries`p2a1bc][DB0a`turn`1aC][[["
noncomputable def tab:List (Str×Fd):=[(("turn_of":Str),⟨3,2,jC⟩),(("swapped":Str),⟨5,3,jD⟩),(("is_away":Str),⟨3,3,jI⟩),(("hand_on":Str),⟨7,4,jJ⟩),(("rota_named":Str),⟨3,2,dH⟩),(("hand_by":Str),⟨6,5,jK⟩),(("stands":Str),⟨2,2,u3⟩),(("in_force":Str),⟨2,2,pM⟩),(("members":Str),⟨10,5,jF⟩),(("closed":Str),⟨11,5,k8⟩),(("edges_within":Str),⟨6,3,eO⟩),(("next_turn":Str),⟨5,4,hY⟩),(("all_closed":Str),⟨6,5,gp⟩),(("entry_of":Str),⟨7,6,pN⟩),(("reckoned":Str),⟨14,8,iJ⟩),(("refuse_late":Str),⟨2,2,fk⟩),(("numbered":Str),⟨2,2,iK⟩),(("standing_saying":Str),⟨4,3,dE⟩),(("_law_draw":Str),⟨3,2,hZ⟩),(("_law_words":Str),⟨6,2,gu⟩),(("_law_world":Str),⟨4,1,gq⟩),(("_law_asking":Str),⟨6,2,fm⟩),(("_law_askings":Str),⟨2,2,eQ⟩),(("_law_count":Str),⟨1,1,gI⟩),(("_law_row":Str),⟨9,3,eP⟩),(("_law_rotas":Str),⟨8,2,gz⟩),(("_law_rules":Str),⟨5,2,gy⟩),(("_law_alike":Str),⟨2,2,bw⟩),(("_law_on":Str),⟨12,4,jM⟩),(("_law_first":Str),⟨10,4,gH⟩),(("law":Str),⟨11,1,sj⟩),(("House.__init__":Str),⟨5,5,dR⟩),(("House.until":Str),⟨2,2,fq⟩),(("House.now":Str),⟨1,1,ia⟩),(("House.records":Str),⟨1,1,eu⟩),(("House.log":Str),⟨1,1,ib⟩),(("House.open_groups":Str),⟨1,1,cV⟩),(("House.states":Str),⟨1,1,eR⟩),(("House.ground_of":Str),⟨3,2,eV⟩),(("House.on_duty":Str),⟨3,3,dn⟩),(("House.known_rota":Str),⟨3,2,bU⟩),(("House.reckoned_to":Str),⟨3,2,cU⟩),(("House.go_on":Str),⟨3,3,ft⟩)]
section
variable {srt:Nat}
noncomputable abbrev cx(srt k:Nat):L3.Ctx:=je tab gl (fun _=>none) (1000,srt) k
theorem aS(x:Str)(n p:Nat)(b:aI)(h:tab.lookup x=some ⟨n,p,b⟩)(k:Nat)(xs:List D):(cx srt (k+1)).fn x xs=(do need (xs.length=p);nA (cx srt k) n b xs:Mo D):=by
 show (match tab.lookup x with
  |some d=>(do need (xs.length=d.p);nA (cx srt k) d.n d.b xs:Mo D)
  |none=>Mo.stop)=_
 rw[h]
end
end Law
namespace Law
open PySem L3
section
variable {srt:Nat}
structure Gx (j:Nat) (M M':MH):Prop where
 keep:∀k o,k≠j->M[k]?=some o->M'[k]?=some o
 len:M.length<=M'.length
theorem Gx.refl{j:Nat}{M:MH}:Gx j M M:=⟨fun _ _ _ e=>e,zp _⟩
theorem Gx.trans{j:Nat}{A B C:MH}(a:Gx j A B)(b:Gx j B C):Gx j A C:=⟨fun k o h e=>b.keep k o h (a.keep k o h e),zN a.len b.len⟩
theorem Gx.of{j:Nat}{M M':MH}(g:Gr M M'):Gx j M M':=⟨fun k o _ e=>g.keep k o e,g.len⟩
theorem Gx.set{j:Nat}{A M:MH}(g:Gx j A M)(o:MO):Gx j A (M.set j o):=⟨fun k u h e=>by rw[zd (Ne.symm h)];exact g.keep k u h e,by rw[yw];exact g.len⟩
theorem Gx.snoc{j:Nat}{A M:MH}(g:Gx j A M)(o:MO):Gx j A (M++[o]):=g.trans (.of (Gr.app _ _))
theorem Gx.young{j i:Nat}{A M:MH}(g:Gx j A M)(h:A.length<=i)(o:MO):Gx j A (M.set i o):=⟨fun k u hk e=>by
 have hi:k<A.length:=(zw.mp e).1;rw[zd (by walk_at "o")];exact g.keep k u hk e,by rw[yw];exact g.len⟩
noncomputable def Tp(M:MH)(j:Nat):Prop:=∃(jk:Nat) (xs:List Int) (i:Int),jk<j/\0<=i/\xs.length<=84/\M[j]?=some (.lst [.ob jk,.int i])/\M[jk]?=some (.lst (xs.map .int))
theorem Tp.keep{M M':MH}{j:Nat}(h:Tp M j)(g:Gr M M'):Tp M' j:=by
 obtain⟨jk,xs,i,h0,h1,h2,e,e2⟩:=h;exact⟨jk,xs,i,h0,h1,h2,g.keep _ _ e,g.keep _ _ e2⟩
theorem Tp.lt{M:MH}{j:Nat}(h:Tp M j):j<M.length:=by
 obtain⟨jk,xs,i,h0,h1,h2,e,e2⟩:=h;exact aP e
theorem Tp.young{M:MH}{j i:Nat}(h:Tp M j)(hi:j<i)(o:MO):Tp (M.set i o) j:=by
 obtain⟨jk,xs,n,h0,h1,h2,e,e2⟩:=h;exact⟨jk,xs,n,h0,h1,h2,by rw[zd (by walk_at "o")];exact e,by rw[zd (by walk_at "o")];exact e2⟩
theorem aY(k:Nat)(M:MH){jt:Nat}(T:Tp M jt)(m:Int)(hm:0<m){Q:D->MH->Prop}(q:∀(r:Int) (M':MH),0<=r->r<m->Gx jt M M'->Tp M' jt->Q (.int r) M'):W ((cx srt (k+1)).fn "_law_draw" [.ob jt,.int m]) M Q:=by
 have big:=bG;obtain⟨jk,xs,i,h0,h1,h2,e,e2⟩:=T;have bW:=aP e;have f1:(M.set jt (MO.lst [.ob jk,.int (i+1)]))[jt]?=some (.lst [.ob jk,.int (i+1)]):=by rw[zO bW]
 have f2:(M.set jt (MO.lst [.ob jk,.int (i+1)]))[jk]?=some (.lst (xs.map .int)):=by rw[zd (by walk_at "o")];exact e2
 have g:Gx jt M (M.set jt (MO.lst [.ob jk,.int (i+1)])):=Gx.refl.set _;rw[aS "_law_draw" 3 2 hZ rfl,wf,hZ];walk_at "wq";refine⟨_,e,?_⟩;walk_at "wq";refine⟨_,e,?_⟩;walk_at "wq";refine⟨1,rfl,?_⟩;walk_at "wq";generalize M.set jt (MO.lst [.ob jk,.int (i+1)])=M2 at f1 f2 g ⊢;refine⟨_,f1,?_⟩;walk_at "wq";refine⟨_,f2,?_⟩;walk_at "wq";have fin:∀r:Int,0<=r->r<m->Q (.int r) M2:=fun r a b=>q r M2 a b g ⟨jk,xs,i+1,h0,by walk_at "o",h2,f1,f2⟩;rw[zl];refine⟨fun _=>fin 0 (Int.le_refl _) hm,fun hz=>?_⟩;have hl:0<xs.length:=by
  rcases Nat.eq_zero_or_pos xs.length with z|z
  ·rw[z]at hz;cases hz
  ·exact z
 have y0:0<=i % (xs.length:Int):=xk _ (by walk_at "o");have y1:i % (xs.length:Int)<xs.length:=yY _ (by walk_at "o");obtain⟨n,hn⟩:=ye y0;have NH:n<xs.length:=by walk_at "o"
 refine⟨_,f1,?_⟩;walk_at "wq";refine⟨_,f1,?_⟩;walk_at "wq";refine⟨_,f2,?_⟩;walk_at "wq";rw[zl];refine⟨by walk_at "o",_,f2,?_⟩;walk_at "wq";refine⟨.int xs[n],?_,?_⟩
 ·rw[hn]
  exact dI (by rw[zA,zr NH];rfl)
 refine⟨_,f1,?_⟩;walk_at "wq";refine⟨_,f2,?_⟩;walk_at "wq";rw[zl];exact⟨⟨by walk_at "o",by walk_at "o"⟩,hm,fin _ (xk _ (by walk_at "o")) (yY _ hm)⟩
end
end Law
namespace Law
open PySem L3
section
variable {srt:Nat}
theorem gY(a b:Str):(a++b).length=a.length+b.length:=by
 show (a.cps++b.cps).size=a.cps.size+b.cps.size;exact wD
theorem Oq(a b:Str):(a++b).cps.toList=a.cps.toList++b.cps.toList:=by
 show (a.cps++b.cps).toList=_;exact Array.toList_append
noncomputable def bx(l:List Nat):Str:=⟨l.toArray⟩
theorem cZ(a:List Nat):(bx a).length=a.length:=by simp[bx,Str.length]
theorem uc(a:List Nat):(bx a).cps.toList=a:=by simp[bx]
theorem Ct(l:List Nat):jj "" (l.map fun c=>bx [c])=bx l:=by
 unfold jj bx;congr 2;have e:(("":Str)).cps.toList=[]:=rfl;rw[e,vz];induction l with
 |nil=>rfl
 |cons a r ih =>
  cases r with
  |nil=>rfl
  |cons b r =>
   show [a]++[]++glue [] _=_;rw[zJ];exact congrArg (a::·) ih
theorem F2(l:List Nat):((l.map fun c=>bx [c]).map (·.length)).sum=l.length:=by
 induction l with
 |nil=>rfl
 |cons a r ih =>
  simp only[zK,List.sum_cons,zg];rw[ih,cZ];simp;walk_at "o"
structure Df (sg:Str):Prop where
 lo:2<=sg.length
 hi:sg.length<=1000
 nd:sg.cps.toList.Nodup
 fd:∀c∈sg.cps.toList,∃j:Nat,findS sg (bx [c])=j/\sg.cps.toList[j]?=some c
structure Words (ws:List Str):Prop where
 ln:ws.length=4
 sz:∀w∈ws,1<=w.length/\w.length<=20
 nd:(ws.take 3).Nodup
 up:∀w∈ws.take 3,w.length<=((ws.take 3).headD "").length+1
theorem Le{α:Type}{xs:List α}(h:xs≠[]):ee xs (-1)=some (xs.getLast h):=by
 have hl:0<xs.length:=yR.mpr h;unfold ee oN;rw[if_neg (by walk_at "o"),if_pos (by walk_at "o")];show xs[(-1+(xs.length:Int)).toNat]?=_;rw[show (-1+(xs.length:Int)).toNat=xs.length-1 by walk_at "o",List.getLast_eq_getElem,zr (by walk_at "o")]
theorem Ht{α:Type}(xs:List α):cutD xs none (some (-1))=xs.dropLast:=by
 unfold cutD;simp only[dD];rw[if_pos (by walk_at "o"),xS,xw,List.dropLast_eq_take,show (-1+(xs.length:Int)).toNat=xs.length-1 by walk_at "o"]
theorem FQ{cs:List Nat}(h:cs≠[]){e2 e3:Nat}(he:e2≠cs.getLast h):([bx cs,bx cs.dropLast++bx [e2],bx cs++bx [e3],bx cs.dropLast++bx [e2]++bx [e3]].take 3).Nodup:=by
 have hl:0<cs.length:=yR.mpr h;have n1:bx cs≠bx cs.dropLast++bx [e2]:=fun z=>by
  have z:=congrArg (fun s:Str=>s.cps.toList) z;simp only[Oq,uc]at z;have w:=List.append_cancel_left ((List.dropLast_concat_getLast h).trans z);exact he (by simpa using w.symm)
 have n2:bx cs≠bx cs++bx [e3]:=fun z=>by
  have z:=congrArg Str.length z;rw[gY,cZ,cZ]at z;simp at z
 have n3:bx cs.dropLast++bx [e2]≠bx cs++bx [e3]:=fun z=>by
  have z:=congrArg Str.length z;rw[gY,gY,cZ,cZ,cZ,cZ,yA]at z;simp at z;walk_at "o"
 simp[n1,n2,n3]
theorem FP{cs:List Nat}(h:cs≠[]){e2 e3:Nat}:∀w∈[bx cs,bx cs.dropLast++bx [e2],bx cs++bx [e3],bx cs.dropLast++bx [e2]++bx [e3]].take 3,w.length<=(([bx cs,bx cs.dropLast++bx [e2],bx cs++bx [e3],bx cs.dropLast++bx [e2]++bx [e3]].take 3).headD "").length+1:=by
 have hl:0<cs.length:=yR.mpr h;have l3:∀e:Nat,(bx [e]).length=1:=fun _=>rfl;intro w hw;show w.length<=(bx cs).length+1;simp only[wy,List.take_zero,zi,zB,or_false]at hw;rcases hw with rfl|rfl|rfl <;> (simp only[gY,cZ,yA,l3];walk_at "o")
theorem mn(k:Nat)(M:MH){jt:Nat}(T:Tp M jt){sg:Str}(G:Df sg){Q:D->MH->Prop}
  (q:∀(ws:List Str) (j:Nat) (M':MH),Words ws->Gx jt M M'->Tp M' jt->M.length<=j->M'[j]?=some (.lst (ws.map .str))->Q (.ob j) M'):W ((cx srt (k+2)).fn "_law_words" [.ob jt,.str sg]) M Q:=by
 have big:=bG;have g0:=G.lo;have g1:=G.hi;have tl:=Cs sg;rw[aS "_law_words" 6 2 gu rfl,wf,gu];walk_at "wq";refine aY k M T _ (by walk_at "o") fun r1 M1 a1 b1 x1 T1=>?_;walk_at "wq";refine⟨⟨by walk_at "o",by walk_at "o"⟩,by rw[dG];walk_at "o",?_⟩;refine eM (fun n ys M'=>∃cs:List Nat,cs.length=n/\(∀c∈cs,c∈sg.cps.toList)/\ys=cs.map sgn/\Gx jt M M'/\Tp M' jt) ⟨[],rfl,by simp,rfl,x1,T1⟩ (fun _ _ _ _=>trivial) ?_ ?_
 ·rintro n d ys M' hd ⟨cs,hl,hc,rfl,x,T'⟩
  walk_at "wq";refine⟨by walk_at "o",aY k M' T' _ (by walk_at "o") fun r2 M2 a2 b2 x2 T2=>?_⟩;obtain⟨e,he,hm⟩:=dq (xs:=sg.cps.toList) a2 (by walk_at "o");walk_at "wq";refine⟨by walk_at "o",e,he,cs++[e],by rw[ze,hl];rfl,fun c hc'=>?_,by rw[yv];rfl,x.trans x2,T2⟩;rcases yx.mp hc' with z|z
  ·exact hc c z
  ·rw[zS.mp z];exact hm
 rintro ys M2 ⟨cs,hl,hc,rfl,x2,T2⟩;rw[dG]at hl;have iE:cs≠[]:=fun z=>by rw[z]at hl;simp at hl;walk_at "o"
 walk_at "wq";have em:cs.map sgn=(cs.map fun c=>bx [c]).map D.str:=by rw[vz];rfl
 refine⟨_,aj _ _,cs.map fun c=>bx [c],by rw[em];exact Eg _,?_,?_⟩
 ·rw[F2,zl]
  have:(("":Str)).length=0:=rfl
  rw[this];walk_at "o"
 rw[Ct];generalize lZ:M2++[MO.lst (cs.map sgn)]=M3;have x3:Gx jt M M3:=lZ▸x2.snoc _;have T3:Tp M3 jt:=lZ▸T2.keep (Gr.app _ _);clear lZ x2 T2 em;have QD:=hc _ (List.getLast_mem iE);generalize QE:cs.getLast iE=c at QD;obtain⟨j,hj,QF⟩:=G.fd c QD;have YG:=aP QF;walk_at "wq";rw[uc,cZ,Le iE,QE];refine⟨by walk_at "o",c,rfl,?_⟩;unfold sgn;walk_at "wq";have hj':findS sg ⟨#[c]⟩=j:=hj;rw[hj'];refine⟨by walk_at "o",aY k M3 T3 _ (by walk_at "o") fun r2 M4 a4 b4 x4 T4=>?_⟩;have x4':=x3.trans x4;walk_at "wq";have y0:0<=((j:Int)+1+r2) % (sg.length:Int):=xk _ (by walk_at "o");have y1:((j:Int)+1+r2) % (sg.length:Int)<(sg.length:Int):=yY _ (by walk_at "o");have yj:((j:Int)+1+r2) % (sg.length:Int)≠j:=fun z=>by
  have e:=Int.emod_add_mul_ediv ((j:Int)+1+r2) (sg.length:Int);rw[z]at e;have e2:(sg.length:Int)*(((j:Int)+1+r2) / (sg.length:Int))=1+r2:=by walk_at "o"
  generalize ((j:Int)+1+r2) / (sg.length:Int)=d at e2;rcases (by walk_at "o" : 0<d\/d<=0) with hd|hd
  ·have:=Int.mul_le_mul_of_nonneg_left (show 1<=d by walk_at "o") (show (0:Int)<=sg.length by walk_at "o")
   walk_at "o"
  ·have:=Int.mul_nonpos_of_nonneg_of_nonpos (show (0:Int)<=sg.length by walk_at "o") hd
   walk_at "o"
 obtain⟨n,hn⟩:=ye y0;rw[hn]at y1 yj;have NH:n<sg.cps.toList.length:=by walk_at "o"
 have Sh:sg.cps.toList[n]≠c:=fun z=>by
  have h2:=(zw.mp QF).2;rw[<- h2,xK G.nd]at z;walk_at "o"
 refine⟨by walk_at "o",by walk_at "o",by walk_at "o",sg.cps.toList[n],?_,by walk_at "o",aY k M4 T4 _ (by walk_at "o") fun r5 M5 a5 b5 x5 T5=>?_⟩
 ·rw[hn]
  exact dI (zr NH)
 obtain⟨e3,EN,_⟩:=dq (xs:=sg.cps.toList) a5 (by walk_at "o");have x5':=x4'.trans x5;walk_at "wq";refine⟨by walk_at "o",e3,EN,?_⟩;unfold sgn;walk_at "wq";rw[uc,cZ,Ht];have l1:∀e:Nat,Str.length ⟨#[e]⟩=1:=fun _=>rfl;have l2:Str.length ⟨cs.dropLast.toArray⟩=cs.length-1:=by show (bx cs.dropLast).length=_;rw[cZ,yA]
 have NC:0<cs.length:=yR.mpr iE;refine⟨by walk_at "o",?_⟩;simp only[l1,l2,gY];refine⟨by walk_at "o",by walk_at "o",by walk_at "o",by walk_at "o",by walk_at "o",by walk_at "o",?_⟩;refine q [bx cs,bx cs.dropLast++bx [sg.cps.toList[n]],bx cs++bx [e3],bx cs.dropLast++bx [sg.cps.toList[n]]++bx [e3]] _ _ ⟨rfl,?_,FQ iE (by rw[QE];exact Sh),FP iE⟩ (x5'.snoc _) (T5.keep (Gr.app _ _)) x5'.len (aj _ _);intro w hw;simp only[zi,zB,or_false]at hw;have l3:∀e:Nat,(bx [e]).length=1:=fun _=>rfl;rcases hw with rfl|rfl|rfl|rfl <;> (simp only[gY,cZ,yA,l3];walk_at "o")
end
end Law
namespace Law
open PySem L3
section
variable {srt:Nat}
theorem HX{sg:Str}(h:(decide (2<=sg.length)&&decide (sg.length<=1000)&&decide sg.cps.toList.Nodup&&(List.range sg.cps.toList.length).all fun j=>findS sg (bx [sg.cps.toList.getD j 0])==(j:Int))=true):Df sg:=by
 simp only[zx,decide_eq_true_eq,zD,xz,beq_iff_eq]at h;obtain⟨⟨⟨h1,h2⟩,h3⟩,h4⟩:=h;refine⟨h1,h2,h3,fun c hc=>?_⟩;obtain⟨j,hj,rfl⟩:=yB hc;refine⟨j,?_,zr hj⟩
 have:=h4 j hj
 rw[zT,zr hj]at this;exact this
theorem kz:Df "abcdefghijklmnopqrstuvwxyz":=HX (by decide +kernel)
theorem LR:Df (("abcdefghijklmnopqrstuvwxyz":Str)++"0123456789"):=HX (by decide +kernel)
structure Wd (M:MH) (jt jw jn jv jr jh:Nat) (ns vs rs hs:List Str):Prop where
 T:Tp M jt
 w:M[jw]?=some (.aW [(.inr "names",.ob jn),(.inr "values",.ob jv),(.inr "rotas",.ob jr),(.inr "hands",.ob jh)])
 n:M[jn]?=some (.lst (ns.map .str))
 v:M[jv]?=some (.lst (vs.map .str))
 r:M[jr]?=some (.lst (rs.map .str))
 h:M[jh]?=some (.lst (hs.map .str))
 wj:jw≠jt
 nj:jn≠jt
 vj:jv≠jt
 rj:jr≠jt
 hj:jh≠jt
 ln:ns.length=3
 lv:vs.length=4
 lr:rs.length=3
 lh:hs.length=4
 nd:rs.Nodup
 sz:∀x∈hs,1<=x.length/\x.length<=20
 up:∀w∈rs,w.length<=(rs.headD "").length+1
 rz:∀x∈rs,x.length<=20
section
variable {M M':MH}{jt jw jn jv jr jh:Nat}{ns vs rs hs:List Str}
theorem Wd.go(w:Wd M jt jw jn jv jr jh ns vs rs hs)(g:Gx jt M M')(T:Tp M' jt):Wd M' jt jw jn jv jr jh ns vs rs hs :=
 ⟨T,g.keep _ _ w.wj w.w,g.keep _ _ w.nj w.n,g.keep _ _ w.vj w.v,g.keep _ _ w.rj w.r,g.keep _ _ w.hj w.h,w.wj,w.nj,w.vj,w.rj,w.hj,w.ln,w.lv,w.lr,w.lh,w.nd,w.sz,w.up,w.rz⟩
theorem Wd.keep(w:Wd M jt jw jn jv jr jh ns vs rs hs)(g:Gr M M'):Wd M' jt jw jn jv jr jh ns vs rs hs:=w.go (.of g) (w.T.keep g)
theorem uo{a b c d:D}:dh [(.inr "names",a),(.inr "values",b),(.inr "rotas",c),(.inr "hands",d)] (.inr "names")=some a:=rfl
theorem R7{a b c d:D}:dh [(.inr "names",a),(.inr "values",b),(.inr "rotas",c),(.inr "hands",d)] (.inr "values")=some b:=rfl
theorem GS{a b c d:D}:dh [(.inr "names",a),(.inr "values",b),(.inr "rotas",c),(.inr "hands",d)] (.inr "rotas")=some c:=rfl
theorem GU{a b c d:D}:dh [(.inr "names",a),(.inr "values",b),(.inr "rotas",c),(.inr "hands",d)] (.inr "hands")=some d:=rfl
end
theorem Gx.get{j:Nat}{M M':MH}{k:Nat}{o:MO}(g:Gx j M M')(h:k≠j)(e:M[k]?=some o):M'[k]?=some o:=g.keep k o h e
theorem JO(k:Nat)(M:MH){jt:Nat}(T:Tp M jt){Q:D->MH->Prop}
  (q:∀(jw jn jv jr jh:Nat) (ns vs rs hs:List Str) (M':MH),Wd M' jt jw jn jv jr jh ns vs rs hs->Gx jt M M'->M.length<=jw->M.length<=jn->M.length<=jv->M.length<=jr->M.length<=jh->Q (.ob jw) M'):W ((cx srt (k+3)).fn "_law_world" [.ob jt]) M Q:=by
 have big:=bG;have lt:=T.lt;rw[aS "_law_world" 4 1 gq rfl,wf,gq];walk_at "wq";generalize EY:M++[MO.aW []]=M0;have x0:Gx jt M M0:=EY▸Gx.refl.snoc _;have T0:Tp M0 jt:=EY▸T.keep (Gr.app _ _);have e0:M0[M.length]?=some (.aW []):=EY▸aj _ _;have l0:M0.length=M.length+1:=by rw[<- EY];simp
 clear EY;refine mn k M0 T0 kz fun w1 j1 M1 W1 x1 T1 g1 h1=>?_;walk_at "wq";refine⟨_,h1,?_⟩;rw[pF _ (by walk_at "o")];have c3:(3:Int).toNat=3:=rfl;rw[c3,<- xo];generalize gP:M1++[MO.lst ((w1.take 3).map .str)]=M2;have x2:Gx jt M0 M2:=gP▸x1.snoc _;have T2:Tp M2 jt:=gP▸T1.keep (Gr.app _ _);have e2:M2[M1.length]?=some (.lst ((w1.take 3).map .str)):=gP▸aj _ _;have l2:M1.length<=M2.length:=by rw[<- gP];simp
 clear gP;have l1:=x1.len;generalize M1.length=jn at e2 l1 l2 ⊢;clear h1 x1 T1;have ap:("abcdefghijklmnopqrstuvwxyz":Str).length+("0123456789":Str).length<=zq:=Au (by decide);refine⟨ap,mn k M2 T2 LR fun w2 jv M3 W2 x3 T3 g3 h3=>?_⟩;walk_at "wq";have l3:=x3.len;have ej:M3[M.length]?=some (.aW []):=x3.get (by walk_at "o") (x2.get (by walk_at "o") e0);refine⟨_,ej,⟨rfl,by decide⟩,?_⟩;have ek:iZ [] ([Sum.inr ("names":Str),Sum.inr ("values":Str)].zip [D.ob jn,.ob jv])=[(.inr "names",.ob jn),(.inr "values",.ob jv)]:=rfl;rw[ek];generalize gf:M3.set M.length (.aW [(.inr "names",.ob jn),(.inr "values",.ob jv)])=M4;have x4:Gx jt M M4:=gf▸((x0.trans x2).trans x3).young (zp _) _;have e4:M4[M.length]?=some (.aW [(.inr "names",.ob jn),(.inr "values",.ob jv)]):=gf▸fH ej;have n4:M4[jn]?=some (.lst ((w1.take 3).map .str)):=by
  rw[<- gf,zd (by walk_at "o")];exact x3.get (by walk_at "o") e2
 have v4:M4[jv]?=some (.lst (w2.map .str)):=by
  rw[<- gf,zd (by walk_at "o")];exact h3
 have T4:Tp M4 jt:=gf▸T3.young lt _;have l4:M4.length=M3.length:=by rw[<- gf,yw]
 clear gf h3 T3 x3 ej ek e0 x2 e2 T2 T0 x0;refine mn k M4 T4 kz fun w3 j5 M5 W3 x5 T5 g5 h5=>?_;walk_at "wq";have l5:=x5.len;refine⟨_,h5,?_⟩;rw[pF _ (by walk_at "o"),c3,<- xo];generalize gO:M5++[MO.lst ((w3.take 3).map .str)]=M6;have x6:Gx jt M4 M6:=gO▸x5.snoc _;have T6:Tp M6 jt:=gO▸T5.keep (Gr.app _ _);have e6:M6[M5.length]?=some (.lst ((w3.take 3).map .str)):=gO▸aj _ _;have h6:M6[j5]?=some (.lst (w3.map .str)):=gO▸(Gr.app _ _).keep _ _ h5;have l6:M5.length<M6.length:=by rw[<- gO];simp
 clear gO h5 T5 x5;generalize M5.length=jr at e6 l6 l5 ⊢;have d6:=x6.get (k:=M.length) (by walk_at "o") e4;have n6:=x6.get (k:=jn) (by walk_at "o") n4;have v6:=x6.get (k:=jv) (by walk_at "o") v4;have x6':=x4.trans x6;walk_at "wq";refine⟨_,d6,?_⟩;walk_at "wq";refine⟨by show 2<zq;decide,?_⟩;have ek:iI [(.inr "names",.ob jn),(.inr "values",.ob jv)] (.inr "rotas") (D.ob jr)=[(.inr "names",.ob jn),(.inr "values",.ob jv),(.inr "rotas",.ob jr)]:=rfl;rw[ek];generalize pj:M6.set M.length (.aW [(.inr "names",.ob jn),(.inr "values",.ob jv),(.inr "rotas",.ob jr)])=M7;have x7:Gx jt M M7:=pj▸x6'.young (zp _) _;have d7:M7[M.length]?=some (.aW [(.inr "names",.ob jn),(.inr "values",.ob jv),(.inr "rotas",.ob jr)]):=pj▸fH d6;have n7:M7[jn]?=some (.lst ((w1.take 3).map .str)):=by rw[<- pj,zd (by walk_at "o")];exact n6
 have v7:M7[jv]?=some (.lst (w2.map .str)):=by rw[<- pj,zd (by walk_at "o")];exact v6
 have r7:M7[jr]?=some (.lst ((w3.take 3).map .str)):=by rw[<- pj,zd (by walk_at "o")];exact e6
 have h7:M7[j5]?=some (.lst (w3.map .str)):=by rw[<- pj,zd (by walk_at "o")];exact h6
 have T7:Tp M7 jt:=pj▸T6.young lt _;have l7:M7.length=M6.length:=by rw[<- pj,yw]
 clear pj ek d6 n6 v6 e6 h6 T6 x6 x6' x4 e4 n4 v4 T4;refine mn k M7 T7 kz fun w4 j8 M8 W4 x8 T8 g8 h8=>?_;have l8:=x8.len;walk_at "wq";refine⟨_,x8.get (by walk_at "o") h7,by show 2<=zq;decide,?_⟩;generalize qZ:(M8++[MO.lst (w3.map D.str).reverse])++[MO.lst [D.ob j8,.ob M8.length]]=M9;have Qy:M9[M8.length]?=some (.lst (w3.map D.str).reverse):=by rw[<- qZ];exact(Gr.app _ _).keep _ _ (aj _ _)
 have g9:Gr M8 M9:=qZ▸(Gr.app _ _).snoc _;have Jb:M9[(M8++[MO.lst (w3.map D.str).reverse]).length]?=some (.lst [D.ob j8,.ob M8.length]):=by rw[<- qZ];exact aj _ _
 clear qZ;generalize (M8++[MO.lst (w3.map D.str).reverse]).length=j9 at Jb ⊢;have l9:=g9.len;have Yy:=aP Qy;refine aY (k+1) M9 (T8.keep g9) _ (by decide) fun r AO YQ YM jV WR=>?_;have x10':Gx jt M7 AO:=(x8.trans (.of g9)).trans jV;walk_at "wq";have Sj:AO[j9]?=some (.lst [D.ob j8,.ob M8.length]):=by
  refine jV.get (fun z=>?_) Jb;obtain⟨jk',xs',i',a0',a1',a2',ea',eb'⟩:=T8.keep g9;rw[z,ea']at Jb;cases Jb
 refine⟨_,Sj,?_⟩;walk_at "wq";have fin:∀(jh:Nat) (hs:List Str),hs.length=4->(∀x∈hs,1<=x.length/\x.length<=20)->M7.length<=jh->AO[jh]?=some (.lst (hs.map .str)) ->
   W (setIx (.ob M.length) (.str "hands") (.ob jh)) AO fun _ M4=>Q (.ob M.length) M4:=by
  intro jh hs lh sz gh hh;have Q6:=x10'.get (k:=M.length) (by walk_at "o") d7;rw[FV];refine⟨_,Q6,?_⟩;rw[OW];refine⟨.inr "hands",rfl,by show 3<zq;decide,?_⟩;have ek:iI [(.inr "names",.ob jn),(.inr "values",.ob jv),(.inr "rotas",.ob jr)] (.inr "hands") (D.ob jh)=[(.inr "names",.ob jn),(.inr "values",.ob jv),(.inr "rotas",.ob jr),(.inr "hands",.ob jh)]:=rfl;rw[ek];generalize Jm:AO.set M.length (.aW [(.inr "names",.ob jn),(.inr "values",.ob jv),(.inr "rotas",.ob jr),(.inr "hands",.ob jh)])=Mb;have ne:∀{j:Nat} {o:MO},j≠M.length->AO[j]?=some o->Mb[j]?=some o:=fun {j o} hj e=>by rw[<- Jm,zd (Ne.symm hj)];exact e
  have Tb:Tp Mb jt:=Jm▸WR.young lt _;refine q M.length jn jv jr jh (w1.take 3) w2 (w3.take 3) hs Mb ⟨Tb,Jm▸fH Q6,ne (by walk_at "o") (x10'.get (by walk_at "o") n7),ne (by walk_at "o") (x10'.get (by walk_at "o") v7),ne (by walk_at "o") (x10'.get (by walk_at "o") r7),ne (by walk_at "o") hh,by walk_at "o",by walk_at "o",by walk_at "o",by walk_at "o",by walk_at "o",
   by rw[zW,W1.ln];rfl,W2.ln,by rw[zW,W3.ln];rfl,lh,W3.nd,sz,W3.up,fun x hx=>(W3.sz x (wz hx)).2⟩ ?_ (zp _) (by walk_at "o") (by walk_at "o") (by walk_at "o") (by walk_at "o")
  exact Jm▸(x7.trans x10').young (zp _) _
 have cs:(r==3)=false\/(r==3)=true:=by cases r==3 <;> simp
 rcases cs with hr|hr
 ·rw[hr]
  refine⟨_,rfl,?_⟩;walk_at "wq";rw[<- FV];refine fin j8 w4 W4.ln W4.sz (by walk_at "o") (jV.get (by walk_at "o") (g9.keep _ _ h8))
 ·rw[hr]
  refine⟨_,rfl,?_⟩;walk_at "wq";rw[<- FV];refine fin M8.length w3.reverse (by rw[xi];exact W3.ln) (fun x hx=>W3.sz x (List.mem_reverse.mp hx)) (by walk_at "o") (jV.get (by walk_at "o") (by rw[List.map_reverse];exact Qy))
end
end Law
namespace Law
open PySem L3
section
variable {srt:Nat}{jt jw jn jv jr jh:Nat}{ns vs rs hs:List Str}
theorem strAt{xs:List Str}{i:Int}(h0:0<=i)(h1:i<(xs.length:Int)):∃x∈xs,ee (xs.map D.str) i=some (.str x):=by
 obtain⟨v,e,hv⟩:=dq (xs:=xs.map D.str) h0 (by rw[zl];exact h1);obtain⟨x,hx,rfl⟩:=yN.mp hv;exact⟨x,hx,e⟩
theorem AJ{p:D->Bool}{xs:List D}(h:xs.all p=true)(lo hi:Option Int):(cutD xs lo hi).all p=true:=by
 rw[zD]at h ⊢;intro x hx;unfold cutD at hx;exact h x (List.mem_of_mem_drop (wz hx))
theorem all_strs(xs:List Str)(n:Nat):(xs.map D.str).all (fU (n+1))=true:=by
 rw[xR,zD];exact fun _ _=>rfl
theorem HA(k:Nat)(M:MH)(w:Wd M jt jw jn jv jr jh ns vs rs hs){Q:D->MH->Prop}(q:∀(d:D) (M':MH),fU 3 d=true->Gx jt M M'->Tp M' jt->Q d M'):W ((cx srt (k+2)).fn "_law_asking" [.ob jt,.ob jw]) M Q:=by
 have big:=bG;have ln:=w.ln;have lv:=w.lv;rw[aS "_law_asking" 6 2 fm rfl,wf,fm];walk_at "wq";refine⟨_,w.w,?_⟩;walk_at "wq";refine⟨_,uo,aY k M w.T _ (by decide) fun r1 M1 a1 b1 x1 T1=>?_⟩;have w1:=w.go x1 T1;obtain⟨nm,_,en⟩:=strAt (xs:=ns) a1 (by walk_at "o");walk_at "wq";refine⟨_,w1.n,?_⟩;walk_at "wq";refine⟨_,en,aY k M1 T1 _ (by decide) fun r2 M2 a2 b2 x2 T2=>?_⟩;have w2:=w1.go x2 T2;have x2':=x1.trans x2;walk_at "wq";refine⟨fun h=>?_,fun h=>?_⟩
 ·have h:=of_decide_eq_true h
  obtain⟨v,ev,hv⟩:=dq (xs:=[D.str "there",.str "lacks"]) (i:=r2-5) (by walk_at "o") (by show r2-5<2;walk_at "o");refine⟨by decide,_,aj _ _,?_⟩;walk_at "wq";refine⟨v,ev,by decide,by decide,q _ _ ?_ (x2'.snoc _) (T2.keep (Gr.app _ _))⟩;simp only[zi,zB,or_false]at hv;rcases hv with rfl|rfl <;> rfl
 ·have h:=of_decide_eq_false h
  refine aY k M2 T2 _ (by decide) fun r3 M3 a3 b3 x3 T3=>?_;have w3:=w2.go x3 T3;walk_at "wq";refine⟨_,w3.w,?_⟩;walk_at "wq";refine⟨_,R7,?_⟩;walk_at "wq";refine⟨_,w3.v,?_⟩;generalize gf:M3++[MO.lst (cutD (vs.map D.str) none (some 3))]=M4;have g4:Gr M3 M4:=gf▸Gr.app _ _;have e4:M4[M3.length]?=some (.lst (cutD (vs.map D.str) none (some 3))):=gf▸aj _ _;clear gf;have iE:M3.length≠jt:=zI T3.lt;generalize M3.length=j4 at e4 iE ⊢;refine aY k M4 (T3.keep g4) _ (by decide) fun r5 M5 a5 b5 x5 T5=>?_;walk_at "wq";refine⟨_,x5.get iE e4,?_⟩;obtain⟨v,ev,hv⟩:=dq (xs:=[D.str "is",.str "is",.str "is",.str "no",.str "no"]) a2 (by show r2<5;walk_at "o");walk_at "wq";refine⟨by decide,_,aj _ _,?_⟩;walk_at "wq";refine⟨v,ev,_,(Gr.app _ _).keep _ _ (aj _ _),by decide,q _ _ ?_ ((((x2'.trans x3).trans (.of g4)).trans x5).snoc _ |>.snoc _) (T5.keep ((Gr.app _ _).snoc _))⟩;have pv:fU 2 v=true:=by
   simp only[zi,zB,or_false]at hv;rcases hv with rfl|rfl|rfl|rfl|rfl <;> rfl
  show (fU 2 v&&(true&&((cutD (cutD (vs.map D.str) none (some 3)) (some r3) (some (r3+1+r5))).all (fU 1)&&true)))=true;rw[pv,AJ (AJ (all_strs vs 0) _ _)];rfl
theorem jN(k:Nat)(M:MH)(w:Wd M jt jw jn jv jr jh ns vs rs hs){Q:D->MH->Prop}(q:∀(d:D) (M':MH),fU 4 d=true->Gx jt M M'->Tp M' jt->Q d M'):W ((cx srt (k+3)).fn "_law_askings" [.ob jt,.ob jw]) M Q:=by
 have big:=bG;rw[aS "_law_askings" 2 2 eQ rfl,wf,eQ];walk_at "wq";refine⟨by decide,?_⟩;generalize bP:M++[MO.lst [D.int 1,.int 0,.int 1,.int 2]]=M1;have g1:Gr M M1:=bP▸Gr.app _ _;have e1:M1[M.length]?=some (.lst [D.int 1,.int 0,.int 1,.int 2]):=bP▸aj _ _;have n1:M.length≠jt:=zI w.T.lt;clear bP;generalize M.length=j1 at e1 n1 ⊢;refine aY (k+1) M1 (w.T.keep g1) _ (by decide) fun r M2 a b x T=>?_;have x2:Gx jt M M2:=(Gx.of g1).trans x;walk_at "wq";refine⟨_,x.get n1 e1,?_⟩;walk_at "wq";obtain⟨v,ev,hv⟩:=dq (xs:=[D.int 1,.int 0,.int 1,.int 2]) a (by exact b);obtain⟨m,rfl,m0,m1⟩:∃m:Int,v=.int m/\0<=m/\m<=2:=by
  simp only[zi,zB,or_false]at hv;rcases hv with rfl|rfl|rfl|rfl
  ·exact⟨1,rfl,by decide,by decide⟩
  ·exact⟨0,rfl,by decide,by decide⟩
  ·exact⟨1,rfl,by decide,by decide⟩
  ·exact⟨2,rfl,by decide,by decide⟩
 refine⟨_,ev,m,rfl,⟨by walk_at "o",by walk_at "o"⟩,by rw[dG];walk_at "o",?_⟩;refine eM (fun n ys M'=>ys.all (fU 3)=true/\Gx jt M M'/\Tp M' jt) ⟨rfl,x2,T⟩ (fun _ _ _ _=>trivial) ?_ ?_
 ·rintro n d ys M' hd ⟨h1,h2,h3⟩
  walk_at "wq";refine HA k M' (w.go h2 h3) fun d' M3 p3 x3 T3=>⟨?_,h2.trans x3,T3⟩;rw[wO,h1,zL,p3];rfl
 ·rintro ys M' ⟨h1,h2,h3⟩
  walk_at "wq";exact⟨_,aj _ _,q _ _ h1 (h2.snoc _) (h3.keep (Gr.app _ _))⟩
theorem mO(k:Nat)(M:MH)(T:Tp M jt){Q:D->MH->Prop}(q:∀(r:Int) (M':MH),1<=r->r<=1000000000->Gx jt M M'->Tp M' jt->Q (.int r) M'):W ((cx srt (k+2)).fn "_law_count" [.ob jt]) M Q:=by
 have e9:((10:Int) ^ Int.toNat 9)=1000000000:=by decide
 rw[aS "_law_count" 1 1 gI rfl,wf,gI];walk_at "wq";refine aY k M T _ (by decide) fun r M1 a b x T1=>?_;walk_at "wq";refine⟨fun _=>⟨⟨by decide,by decide,by decide⟩,?_⟩,fun _=>?_⟩
 ·rw[e9]
  refine aY k M1 T1 _ (by decide) fun r2 M2 a2 b2 x2 T2=>?_;walk_at "wq";exact q _ _ (by walk_at "o") (by walk_at "o") (x.trans x2) T2
 ·refine aY k M1 T1 _ (by decide) fun r2 M2 a2 b2 x2 T2=>?_
  walk_at "wq";exact q _ _ (by walk_at "o") (by walk_at "o") (x.trans x2) T2
theorem O1(k:Nat)(M:MH)(w:Wd M jt jw jn jv jr jh ns vs rs hs){Q:D->MH->Prop}
  (q:∀(as:D) (on:Bool) (b:List Str) (wt ag:Int) (ch:List Str) (M':MH),fU 4 as=true->b.length<=3->1<=wt->wt<=1000000000->1<=ag->ag<=1000000000->ch.length<=3->(∀c∈ch,c∈rs)->Gx jt M M'->Tp M' jt->Q (.tup [as,.bl on,.tup (b.map .str),.int wt,.int ag,.tup (ch.map .str),.tup []]) M') :
  W ((cx srt (k+4)).fn "_law_row" [.ob jt,.ob jw,.int 0]) M Q:=by
 have big:=bG;have ln:=w.ln;have lr:=w.lr;rw[aS "_law_row" 9 3 eP rfl,wf,eP];walk_at "wq";refine⟨_,w.w,?_⟩;walk_at "wq";refine⟨_,uo,?_⟩;have wn:=w.n;obtain⟨s0,s1,s2,rfl⟩:∃a b c,ns=[a,b,c]:=by
  rcases ns with _|⟨a,_|⟨b,_|⟨c,_|⟨d,l⟩⟩⟩⟩ <;> first|exact⟨_,_,_,rfl⟩|(exfalso;simp at ln)
 simp only[zK,yJ]at wn;walk_at "wq";refine⟨by decide,_,wn,?_⟩;walk_at "wq";refine⟨by decide,_,wn,?_⟩;walk_at "wq";refine⟨_,wn,?_⟩;walk_at "wq";refine⟨by decide,_,wn,?_⟩;walk_at "wq";refine⟨by decide,_,wn,by decide,?_⟩;generalize bP:M++[MO.lst [D.tup [],.tup [.str s0],.tup [.str s2,.str s1],.tup [.str s1],.tup [.str s0,.str s1,.str s2]]]=M1;have g1:Gr M M1:=bP▸Gr.app _ _;have e1:M1[M.length]?=some (.lst [D.tup [],.tup [.str s0],.tup [.str s2,.str s1],.tup [.str s1],.tup [.str s0,.str s1,.str s2]]):=bP▸aj _ _;have n1:M.length≠jt:=zI w.T.lt;clear bP;generalize M.length=j1 at e1 n1 ⊢;refine aY (k+2) M1 (w.T.keep g1) _ (by decide) fun r M2 a b x T=>?_;have x2:Gx jt M M2:=(Gx.of g1).trans x;walk_at "wq";refine⟨_,x.get n1 e1,?_⟩;walk_at "wq";obtain⟨v,ev,hv⟩:=dq (xs:=[D.tup [],.tup [.str s0],.tup [.str s2,.str s1],.tup [.str s1],.tup [.str s0,.str s1,.str s2]]) a (by exact b);obtain⟨bs,rfl,qY⟩:∃bs:List Str,v=.tup (bs.map .str)/\bs.length<=3:=by
  simp only[zi,zB,or_false]at hv;rcases hv with rfl|rfl|rfl|rfl|rfl
  ·exact⟨[],rfl,by decide⟩
  ·exact⟨[s0],rfl,by simp⟩
  ·exact⟨[s2,s1],rfl,by simp⟩
  ·exact⟨[s1],rfl,by simp⟩
  ·exact⟨[s0,s1,s2],rfl,by simp⟩
 refine⟨_,ev,?_⟩;clear e1 n1 ev hv;refine⟨by decide,?_⟩;generalize lZ:M2++[MO.lst [D.int 1,.int 2,.int 0,.int 1,.int 3]]=M3;have g3:Gr M2 M3:=lZ▸Gr.app _ _;have e3:M3[M2.length]?=some (.lst [D.int 1,.int 2,.int 0,.int 1,.int 3]):=lZ▸aj _ _;have n3:M2.length≠jt:=zI T.lt;clear lZ;generalize M2.length=j3 at e3 n3 ⊢;refine aY (k+2) M3 (T.keep g3) _ (by decide) fun r4 M4 a4 b4 x4 T4=>?_;have x4':Gx jt M M4:=(x2.trans (.of g3)).trans x4;walk_at "wq";refine⟨_,x4.get n3 e3,?_⟩;walk_at "wq";obtain⟨v,ev,hv⟩:=dq (xs:=[D.int 1,.int 2,.int 0,.int 1,.int 3]) a4 (by exact b4);obtain⟨m,rfl,m0,m1⟩:∃m:Int,v=.int m/\0<=m/\m<=3:=by
  simp only[zi,zB,or_false]at hv;rcases hv with rfl|rfl|rfl|rfl|rfl
  ·exact⟨1,rfl,by decide,by decide⟩
  ·exact⟨2,rfl,by decide,by decide⟩
  ·exact⟨0,rfl,by decide,by decide⟩
  ·exact⟨1,rfl,by decide,by decide⟩
  ·exact⟨3,rfl,by decide,by decide⟩
 refine⟨_,ev,m,rfl,⟨by walk_at "o",by walk_at "o"⟩,by rw[dG];walk_at "o",?_⟩;clear e3 n3 ev hv;refine eM (fun n ys M'=>∃ch:List Str,ch.length=n/\(∀c∈ch,c∈rs)/\ys=ch.map .str/\Gx jt M M'/\Tp M' jt) ⟨[],rfl,by simp,rfl,x4',T4⟩ (fun _ _ _ _=>trivial) ?_ ?_
 ·rintro n d ys M' hd ⟨ch,h0,h1,rfl,h2,h3⟩
  have w':=w.go h2 h3;walk_at "wq";refine⟨_,w'.w,?_⟩;walk_at "wq";refine⟨_,GS,aY (k+2) M' h3 _ (by decide) fun r5 M5 a5 b5 x5 T5=>?_⟩;obtain⟨c,hc,ec⟩:=strAt (xs:=rs) a5 (by walk_at "o");walk_at "wq";refine⟨_,(w'.go x5 T5).r,?_⟩;walk_at "wq";refine⟨_,ec,ch++[c],by rw[ze,h0];rfl,fun y hy=>?_,by rw[yv];rfl,h2.trans x5,T5⟩;rcases yx.mp hy with z|z
  ·exact h1 y z
  ·rw[zS.mp z];exact hc
 rintro ys M5 ⟨ch,h0,h1,rfl,h2,h3⟩;rw[dG]at h0;walk_at "wq";refine⟨_,aj _ _,by decide,?_⟩;have n6:∀z:Int,decide (z<z)=false:=fun z=>by simp
 rw[n6];walk_at "wq";generalize gO:(M5++[MO.lst (ch.map D.str)])++[MO.lst []]=M6;have g6:Gr M5 M6:=gO▸(Gr.app _ _).snoc _;have e6:M6[(M5++[MO.lst (ch.map D.str)]).length]?=some (.lst []):=gO▸aj _ _;have D9:(M5++[MO.lst (ch.map D.str)]).length≠jt:=by
  have:=h3.lt
  rw[ze];walk_at "o"
 clear gO;generalize (M5++[MO.lst (ch.map D.str)]).length=j6 at e6 D9 ⊢;refine aY (k+2) M6 (h3.keep g6) _ (by decide) fun r7 M7 a7 b7 x7 T7=>?_;walk_at "wq";refine mO (k+1) M7 T7 fun c1 M8 a8 b8 x8 T8=>?_;walk_at "wq";refine mO (k+1) M8 T8 fun c2 M9 a9 b9 x9 T9=>?_;have x9':Gx jt M M9:=(((h2.trans (.of g6)).trans x7).trans x8).trans x9;walk_at "wq";refine⟨by decide,jN k M9 (w.go x9' T9) fun as Ma pa xa Ta=>?_⟩;walk_at "wq";have e6':Ma[j6]?=some (.lst []):=xa.get D9 (x9.get D9 (x8.get D9 (x7.get D9 e6)));refine⟨by decide,by decide,_,e6',by decide,by decide,?_⟩;exact q as (r7==2) bs c1 c2 ch Ma pa qY a8 b8 a9 b9 (by walk_at "o") h1 (x9'.trans xa) Ta
end
end Law
namespace Law
open PySem L3
noncomputable def bI(f:D->Option PyData):List D->Option (List PyData)
 |[]=>some []
 |d::ds=>match f d,bI f ds with
  |some a,some b=>some (a::b)
  |_,_=>none
noncomputable def rd(M:MH):Nat->D->Option PyData
 |0,_=>none
 |n+1,d=>match d with
  |.non=>some .none
  |.bl b=>some (.bool b)
  |.int i=>some (.int i)
  |.str x=>some (.str x)
  |.tup ds=>if ds.length<=1000 then (bI (rd M n) ds).map .tuple else none
  |.ob k=>(match M[k]? with
   |some (.lst ds)=>if ds.length<=1000 then (bI (rd M n) ds).map .list else none
   |_=>none)
  |.fl _=>none
theorem ij{f:D->Option PyData}:∀{ds:List D} {ts:List PyData},bI f ds=some ts->ds.length=ts.length
 |[],_,h=>by cases h;rfl
 |d::ds,ts,h=>by
  unfold bI at h;split at h
  ·rename_i a b h1 h2
   cases h;rw[zg,zg,ij h2]
  ·cases h
theorem lR{f:D->Option PyData}:∀{ds:List D} {ts:List PyData} {i:Nat} {d:D},bI f ds=some ts->ds[i]?=some d->∃t,ts[i]?=some t/\f d=some t
 |[],_,_,_,_,e=>by simp at e
 |x::ds,ts,i,d,h,e=>by
  unfold bI at h;split at h
  ·rename_i a b h1 h2
   cases h;cases i with
   |zero=>simp at e;subst e;exact⟨a,rfl,h1⟩
   |succ i =>
    obtain⟨t,ht,hf⟩:=lR h2 (i:=i) (by simpa using e);exact⟨t,by simpa using ht,hf⟩
  ·cases h
theorem kC{f g:D->Option PyData}(h:∀d t,f d=some t->g d=some t):∀{ds:List D} {ts:List PyData},bI f ds=some ts->bI g ds=some ts
 |[],_,e=>e
 |d::ds,ts,e=>by
  unfold bI at e;split at e
  ·rename_i a b h1 h2
   cases e;unfold bI;rw[h _ _ h1,kC h h2]
  ·cases e
theorem mz{M M':MH}(g:Gr M M'):∀{n:Nat} {d:D} {t:PyData},rd M n d=some t->rd M' n d=some t
 |0,_,_,h=>by cases h
 |n+1,d,t,h=>by
  cases d with
  |tup ds =>
   replace h:(if ds.length<=1000 then (bI (rd M n) ds).map PyData.tuple else none)=some t:=h;show (if ds.length<=1000 then (bI (rd M' n) ds).map PyData.tuple else none)=some t;split at h
   ·rename_i hl
    rw[if_pos hl];obtain⟨ts,h1,rfl⟩:=zv.mp h;rw[kC (fun d t e=>mz g e) h1];rfl
   ·cases h
  |ob k =>
   replace h:(match M[k]? with
    |some (.lst ds)=>if ds.length<=1000 then (bI (rd M n) ds).map PyData.list else none
    |_=>none)=some t:=h
   show (match M'[k]? with
    |some (.lst ds)=>if ds.length<=1000 then (bI (rd M' n) ds).map PyData.list else none
    |_=>none)=some t
   split at h
   ·rename_i ds hk
    rw[g.keep _ _ hk];dsimp only;split at h
    ·rename_i hl
     rw[if_pos hl];obtain⟨ts,h1,rfl⟩:=zv.mp h;rw[kC (fun d t e=>mz g e) h1];rfl
    ·cases h
   ·cases h
  |_=>exact h
theorem iT{M:MH}{n:Nat}{ds:List D}{t:PyData}(h:rd M (n+1) (.tup ds)=some t):ds.length<=1000/\∃ts,bI (rd M n) ds=some ts/\t=.tuple ts:=by
 replace h:(if ds.length<=1000 then (bI (rd M n) ds).map PyData.tuple else none)=some t:=h;split at h
 ·rename_i hl
  obtain⟨ts,h1,rfl⟩:=zv.mp h;exact⟨hl,ts,h1,rfl⟩
 ·cases h
theorem kB{M:MH}{n k:Nat}{t:PyData}(h:rd M (n+1) (.ob k)=some t):∃ds ts,M[k]?=some (.lst ds)/\ds.length<=1000/\bI (rd M n) ds=some ts/\t=.list ts:=by
 replace h:(match M[k]? with
  |some (.lst ds)=>if ds.length<=1000 then (bI (rd M n) ds).map PyData.list else none
  |_=>none)=some t:=h
 split at h
 ·rename_i ds hk
  split at h
  ·rename_i hl
   obtain⟨ts,h1,rfl⟩:=zv.mp h;exact⟨ds,ts,hk,hl,h1,rfl⟩
  ·cases h
 ·cases h
theorem rd_tup'{M:MH}{n:Nat}{ds:List D}{ts:List PyData}(hl:ds.length<=1000)(h:bI (rd M n) ds=some ts):rd M (n+1) (.tup ds)=some (.tuple ts):=by
 show (if ds.length<=1000 then (bI (rd M n) ds).map PyData.tuple else none)=_;rw[if_pos hl,h];rfl
theorem rd_ob'{M:MH}{n k:Nat}{ds:List D}{ts:List PyData}(hk:M[k]?=some (.lst ds))(hl:ds.length<=1000)(h:bI (rd M n) ds=some ts):rd M (n+1) (.ob k)=some (.list ts):=by
 show (match M[k]? with
  |some (.lst ds)=>if ds.length<=1000 then (bI (rd M n) ds).map PyData.list else none
  |_=>none)=_
 rw[hk];dsimp only;rw[if_pos hl,h];rfl
section
variable {srt:Nat}
theorem mB{M:MH}{t:Ty}{k:Nat}{ds:List D}{B:Bool->MH->Prop}(h:M[k]?=some (.lst ds)):W (dz t (.ob k)) M B=B (t==.list) M:=by
 rw[RK];exact propext ⟨fun ⟨o,e,b⟩=>by rw[h]at e;cases e;exact b,fun b=>⟨_,h,b⟩⟩
theorem cT{b:Bool}{P R:Prop}(h:b=true)(p:P):(b=true->P)/\(b=false->R):=⟨fun _=>p,fun z=>by rw[h]at z;cases z⟩
theorem cF{b:Bool}{P R:Prop}(h:b=false)(p:R):(b=true->P)/\(b=false->R):=⟨fun z=>(by rw[h]at z;cases z),fun _=>p⟩
theorem FC{n k:Nat}(ih:∀(M:MH) (x y:D) (t:PyData) (Q:D->MH->Prop),rd M n x=some t->rd M n y=some t->(∀M',Gr M M'->Q (.bl true) M')->W ((cx srt k).fn "_law_alike" [x,y]) M Q){M:MH}{xs ys:List D}{ts:List PyData}{c1 c2:Option (Nat×List D)}{ρ:Ev}{e:Ev->Mo D}
  (he:∀x y M (Q:D->MH->Prop),W ((cx srt k).fn "_law_alike" [x,y]) M Q->W (e (some x::some y::ρ)) M Q) (hx:bI (rd M n) xs=some ts) (hy:bI (rd M n) ys=some ts) (hk:∀M',Gr M M'->gK c1 M'/\gK c2 M')
  {L:List D->MH->Prop} (q:∀(bs:List Bool) M',Gr M M'->(∀b∈bs,b=true)->L (bs.map D.bl) M'):W (d9 c1 c2 e ρ (xs.zip ys)) M L:=by
 refine JS (fun m zs M'=>Gr M M'/\∃bs:List Bool,(∀b∈bs,b=true)/\zs=bs.map D.bl) ⟨Gr.refl,[],by simp,rfl⟩ (fun _ _ _ h=>hk _ h.1) ?_ ?_
 ·rintro m p zs M' hd ⟨g,bs,hb,rfl⟩
  obtain⟨h1,h2⟩:=List.getElem?_zip_eq_some.mp hd;obtain⟨t,t1,f1⟩:=lR hx h1;obtain⟨t',t2,f2⟩:=lR hy h2;rw[t1]at t2;cases t2;refine he _ _ _ _ (ih M' _ _ t _ (mz g f1) (mz g f2) fun M2 g2=>⟨g.trans g2,bs++[true],fun b h=>?_,by rw[yv];rfl⟩);rcases yx.mp h with z|z
  ·exact hb b z
  ·exact zS.mp z
 ·rintro zs M' ⟨g,bs,hb,rfl⟩
  exact q bs M' g hb
theorem qw:∀(n k:Nat) (M:MH) (x y:D) (t:PyData) (Q:D->MH->Prop),rd M n x=some t->rd M n y=some t->(∀M',Gr M M'->Q (.bl true) M')->W ((cx srt (k+n)).fn "_law_alike" [x,y]) M Q
 |0,_,_,_,_,_,_,h,_,_=>by cases h
 |n+1,k,M,x,y,t,Q,h,h',q=>by
  have big:=bG;have ih:=fun M x y t Q=>qw n k M x y t Q;show W ((cx srt (k+n+1)).fn "_law_alike" [x,y]) M Q;cases x with
  |tup xs =>
   obtain⟨hl,ts,h1,rfl⟩:=iT h;cases y with
   |tup ys =>
    obtain⟨hl',ts',h1',e⟩:=iT h';cases e;have VA:=ij h1;have Vz:=ij h1';have el:xs.length=ys.length:=by walk_at "o"
    rw[aS "_law_alike" 2 2 bw rfl,wf,bw];walk_at "wr";refine sT rfl ?_;walk_at "wr";refine cF rfl (sF rfl ?_);walk_at "wr";refine sF (by rw[el];simp) ?_;walk_at "wr";refine⟨el,by rw[yF];walk_at "o",?_⟩;refine FC (c1:=none) (c2:=none) ih (fun x y M Q h=>by walk_at "wq";exact h) h1 h1' (fun _ _=>⟨trivial,trivial⟩) fun bs M' g hb=>?_;walk_at "wq";refine⟨_,aj _ _,bs,kK _,?_⟩
    have:bs.all id=true:=zD.mpr fun b h=>hb b h
    rw[this];exact q _ (g.snoc _)
   |ob j=>obtain⟨_,_,_,_,_,e⟩:=kB h';cases e
   |_=>cases h'
  |ob i =>
   obtain⟨xs,ts,hi,hl,h1,rfl⟩:=kB h;cases y with
   |ob j =>
    obtain⟨ys,ts',hj,hl',h1',e⟩:=kB h';cases e;have VA:=ij h1;have Vz:=ij h1';have el:xs.length=ys.length:=by walk_at "o"
    rw[aS "_law_alike" 2 2 bw rfl,wf,bw];walk_at "wr";rw[mB hj,mB hj];walk_at "wr";refine sT rfl ?_;walk_at "wr";rw[mB hi,mB hi];walk_at "wr";refine cF rfl ?_;rw[mB hi];walk_at "wr";rw[mB hj];walk_at "wr";refine sF rfl ?_;walk_at "wr";refine⟨_,hi,_,hj,sF (by show (!((xs.length:Int)==(ys.length:Int)))=false;rw[el];simp) ?_⟩;walk_at "wr";refine⟨_,hi,_,hj,el,by rw[yF];walk_at "o",?_⟩;refine FC (c1:=some (i,xs)) (c2:=some (j,ys)) ih (fun x y M Q h=>by walk_at "wq";exact h) h1 h1' (fun M' g=>⟨g.keep _ _ hi,g.keep _ _ hj⟩) fun bs M' g hb=>?_;walk_at "wq";refine⟨_,aj _ _,bs,kK _,?_⟩
    have:bs.all id=true:=zD.mpr fun b h=>hb b h
    rw[this];exact q _ (g.snoc _)
   |tup ys=>obtain⟨_,_,_,e⟩:=iT h';cases e
   |_=>cases h'
  |fl ds=>cases h
  |non =>
   cases h;cases y with
   |non =>
    rw[aS "_law_alike" 2 2 bw rfl,wf,bw];walk_at "wr";refine sF rfl ?_;walk_at "wr";exact⟨rfl,cT rfl ⟨rfl,cT rfl ⟨rfl,q M Gr.refl⟩⟩⟩
   |tup ys=>obtain⟨_,_,_,e⟩:=iT h';cases e
   |ob j=>obtain⟨_,_,_,_,_,e⟩:=kB h';cases e
   |_=>cases h'
  |bl a =>
   cases h;cases y with
   |bl b =>
    cases h';rw[aS "_law_alike" 2 2 bw rfl,wf,bw];walk_at "wr";refine sF rfl ?_;walk_at "wr";refine⟨rfl,cF rfl ⟨rfl,sF rfl ?_⟩⟩;walk_at "wr";refine cT rfl (cT rfl (cT rfl ?_));rw[beq_self_eq_true];exact q M Gr.refl
   |tup ys=>obtain⟨_,_,_,e⟩:=iT h';cases e
   |ob j=>obtain⟨_,_,_,_,_,e⟩:=kB h';cases e
   |_=>cases h'
  |int a =>
   cases h;cases y with
   |int b =>
    cases h';rw[aS "_law_alike" 2 2 bw rfl,wf,bw];walk_at "wr";refine sF rfl ?_;walk_at "wr";refine⟨rfl,cF rfl ⟨rfl,sF rfl ?_⟩⟩;walk_at "wr";refine cF rfl (sF rfl ?_);walk_at "wr";refine cF rfl (sF rfl ?_);walk_at "wr";rw[beq_self_eq_true];exact q M Gr.refl
   |tup ys=>obtain⟨_,_,_,e⟩:=iT h';cases e
   |ob j=>obtain⟨_,_,_,_,_,e⟩:=kB h';cases e
   |_=>cases h'
  |str a =>
   cases h;cases y with
   |str b =>
    cases h';rw[aS "_law_alike" 2 2 bw rfl,wf,bw];walk_at "wr";refine sF rfl ?_;walk_at "wr";refine⟨rfl,cF rfl ⟨rfl,sF rfl ?_⟩⟩;walk_at "wr";refine cF rfl (sF rfl ?_);walk_at "wr";refine cF rfl (sF rfl ?_);walk_at "wr";rw[beq_self_eq_true];exact q M Gr.refl
   |tup ys=>obtain⟨_,_,_,e⟩:=iT h';cases e
   |ob j=>obtain⟨_,_,_,_,_,e⟩:=kB h';cases e
   |_=>cases h'
end
end Law
namespace Law
open PySem L3
structure Dg (d:D) (hs:List Str) (fst bZ:Int):Prop where
 is:d=.tup [.tup (hs.map .str),.int fst,.int bZ]
 lo:1<=hs.length
 hi:hs.length<=8
 l0:1<=bZ
 l1:bZ<=1000000000
structure Ro where
 name:Str
 hands:List Str
 fst:Int
 bZ:Int
noncomputable def Ro.rd(r:Ro):D:=.tup [.tup (r.hands.map .str),.int r.fst,.int r.bZ]
noncomputable def gJ(r:Ro):D:=.tup [.str r.name,r.rd]
structure Ro.Ok (r:Ro):Prop where
 lo:1<=r.hands.length
 hi:r.hands.length<=3
 l0:1<=r.bZ
 l1:r.bZ<=1000000
theorem Ro.Ok.rota{r:Ro}(h:r.Ok):Dg r.rd r.hands r.fst r.bZ:=⟨rfl,h.lo,zN h.hi (by decide),h.l0,Int.le_trans h.l1 (by decide)⟩
section
variable {srt:Nat}{jt jw jn jv jr jh:Nat}{ns vs rs hs:List Str}
theorem Ka(k:Nat)(M:MH)(w:Wd M jt jw jn jv jr jh ns vs rs hs){Q:D->MH->Prop}
  (q:∀(aD:List Ro) (j:Nat) (M':MH),aD.map Ro.name=rs->(∀r∈aD,r.Ok)->Gx jt M M'->Tp M' jt->M.length<=j->M'[j]?=some (.lst (aD.map gJ))->Q (.ob j) M'):W ((cx srt (k+2)).fn "_law_rotas" [.ob jt,.ob jw]) M Q:=by
 have big:=bG;have lh:=w.lh;have lr:=w.lr;have e6:((10:Int) ^ Int.toNat 6)=1000000:=by decide
 have lt:=w.T.lt;rw[aS "_law_rotas" 8 2 gz rfl,wf,gz];walk_at "wq";refine⟨by decide,?_⟩;generalize bP:M++[MO.lst []]=M1;have g1:Gr M M1:=bP▸Gr.app _ _;have e1:M1[M.length]?=some (.lst []):=bP▸aj _ _;clear bP;have w1:=w.keep g1;refine⟨_,w1.w,?_⟩;walk_at "wq";refine⟨_,GS,?_⟩;walk_at "wq";refine⟨_,w1.r,?_⟩;refine dU (fun n ρ M'=>∃aD:List Ro,aD.map Ro.name=rs.take n/\(∀r∈aD,r.Ok)/\Gx jt M M'/\Tp M' jt/\M'[M.length]?=some (.lst (aD.map gJ))/\∃x3 x4 x5 x6 x7,ρ=[some (.ob jt),some (.ob jw),some (.ob M.length),x3,x4,x5,x6,x7])
  ⟨[],rfl,by simp,.of g1,w1.T,e1,_,_,_,_,_,rfl⟩ (fun n ρ M' ⟨_,_,_,g,T,_⟩=>(w.go g T).r) ?_ ?_
 ·rintro n d ρ M2 hd ⟨aD,hn,ax,x2,T2,h2,x3,x4,x5,x6,x7,rfl⟩
  rw[zA]at hd;obtain⟨nm,NG,rfl⟩:=zv.mp hd;have w2:=w.go x2 T2;walk_at "wq";refine aY k M2 T2 _ (by decide) fun r3 M3 a3 b3 x3 T3=>?_;have w3:=w2.go x3 T3;walk_at "wq";refine⟨_,w3.w,?_⟩;walk_at "wq";refine⟨_,GU,_,w3.w,?_⟩;walk_at "wq";refine⟨_,GU,?_⟩;walk_at "wq";refine⟨_,w3.h,_,w3.h,by rw[zl];walk_at "o",?_⟩;rw[<- yv];generalize gf:M3++[MO.lst ((hs++hs).map D.str)]=M4;have g4:Gr M3 M4:=gf▸Gr.app _ _;have e4:M4[M3.length]?=some (.lst ((hs++hs).map D.str)):=gf▸aj _ _;have n4:M3.length≠jt:=zI T3.lt;clear gf;generalize M3.length=j4 at e4 n4 ⊢;refine aY k M4 (T3.keep g4) _ (by decide) fun r5 M5 a5 b5 x5 T5=>?_;walk_at "wq";refine⟨_,x5.get n4 e4,⟨by decide,by decide,by decide⟩,?_⟩;obtain⟨p,rfl⟩:=ye a3;obtain⟨m,rfl⟩:=ye a5;have ec:cutD ((hs++hs).map D.str) (some (p:Int)) (some ((p:Int)+1+(m:Int)))=(((hs++hs).drop p).take (1+m)).map D.str:=by
   unfold cutD;simp only[dD];rw[if_neg (by walk_at "o"),if_neg (by walk_at "o"),zl,ze,lh,xo,wW];have c1:min (Int.toNat (p:Int)) (4+4)=p:=by walk_at "o"
   have c2:min (Int.toNat ((p:Int)+1+(m:Int))) (4+4)-p=1+m:=by walk_at "o"
   rw[c1,c2]
  rw[ec];have EO:(((hs++hs).drop p).take (1+m)).length=1+m:=by
   rw[zW,zX,ze,lh];walk_at "o"
  generalize ((hs++hs).drop p).take (1+m)=hands at EO ⊢;generalize gO:M5++[MO.lst (hands.map D.str)]=M6;have g6:Gr M5 M6:=gO▸Gr.app _ _;have e6':M6[M5.length]?=some (.lst (hands.map D.str)):=gO▸aj _ _;have n6:M5.length≠jt:=zI T5.lt;clear gO;generalize M5.length=j6 at e6' n6 ⊢;rw[e6];refine aY k M6 (T5.keep g6) _ (by decide) fun r7 M7 a7 b7 x7 T7=>?_;walk_at "wq";refine⟨by decide,?_⟩;generalize NS:M7++[MO.lst [D.int 1,.int 3,.int (1+r7)]]=M8;have g8:Gr M7 M8:=NS▸Gr.app _ _;have e8:M8[M7.length]?=some (.lst [D.int 1,.int 3,.int (1+r7)]):=NS▸aj _ _;have n8:M7.length≠jt:=zI T7.lt;clear NS;generalize M7.length=j8 at e8 n8 ⊢;refine aY k M8 (T7.keep g8) _ (by decide) fun r9 M9 a9 b9 x9 T9=>?_;walk_at "wq";refine⟨_,x9.get n8 e8,?_⟩;walk_at "wq";obtain⟨v,ev,hv⟩:=dq (xs:=[D.int 1,.int 3,.int (1+r7)]) a9 (by exact b9);obtain⟨lg,rfl,l0,l1⟩:∃lg:Int,v=.int lg/\1<=lg/\lg<=1000000:=by
   simp only[zi,zB,or_false]at hv;rcases hv with rfl|rfl|rfl
   ·exact⟨1,rfl,by decide,by decide⟩
   ·exact⟨3,rfl,by decide,by decide⟩
   ·exact⟨_,rfl,by walk_at "o",by walk_at "o"⟩
  have xa:Gx jt M3 M9:=((((Gx.of g4).trans x5).trans (.of g6)).trans x7).trans ((Gx.of g8).trans x9);have xb:Gx jt M M9:=(x2.trans x3).trans xa;have ne:M.length≠jt:=zI lt;refine⟨_,ev,_,(x3.trans xa).get ne h2,_,x9.get n6 ((Gx.of g8).get n6 (x7.get n6 e6')),aY k M9 T9 _ (by decide) fun rb Mb ab bb xc Tb=>?_⟩;have hb:Mb[M.length]?=some (.lst (aD.map gJ)):=xc.get ne ((x3.trans xa).get ne h2);have YC:aD.length=min n rs.length:=by
   have:=congrArg List.length hn
   rwa [zl,zW]at this
  walk_at "wq";refine⟨by decide,by decide,_,hb,by rw[zl];walk_at "o",aD++[⟨nm,hands,rb,lg⟩],?_,?_,(xb.trans xc).young (zp _) _,?_,?_,_,_,_,_,_,rfl⟩
  ·rw[yv,hn,yo,NG]
   rfl
  ·intro r hr
   rcases yx.mp hr with z|z
   ·exact ax r z
   ·rw[zS.mp z]
    exact⟨by show 1<=hands.length;walk_at "o",by show hands.length<=3;walk_at "o",l0,l1⟩
  ·exact Tb.young lt _
  ·rw[fH hb,yv]
   rfl
 ·rintro ρ M2 ⟨aD,hn,ax,x2,T2,h2,x3,x4,x5,x6,x7,rfl⟩
  rw[zl,zY]at hn;walk_at "wq";exact q aD _ _ hn ax x2 T2 (zp _) h2
end
end Law
namespace Law
open PySem L3
section
variable {srt:Nat}
noncomputable def iQ(n:Nat)(fst bZ t:Int):Nat:=(((t-fst) / bZ) % (n:Int)).toNat
theorem pV{n:Nat}(h:1<=n)(fst bZ t:Int):((t-fst) / bZ) % (n:Int)=(iQ n fst bZ t:Int):=by
 unfold iQ;rw[Int.toNat_of_nonneg (xk _ (by walk_at "o"))]
theorem eC{n:Nat}(h:1<=n)(fst bZ t:Int):iQ n fst bZ t<n:=by
 have:=yY ((t-fst) / bZ) (show (0:Int)<n by walk_at "o")
 have:=pV h fst bZ t
 walk_at "o"
theorem FU(k:Nat)(M:MH){d:D}{hs:List Str}{fst bZ:Int}(R:Dg d hs fst bZ)(t:Int){Q:D->MH->Prop}(q:Q (.str (hs[iQ hs.length fst bZ t]'(eC R.lo _ _ _))) M):W ((cx srt (k+1)).fn "turn_of" [d,.int t]) M Q:=by
 have:=R.lo
 have:=R.l0
 have:=R.l1
 rw[R.is,aS "turn_of" 3 2 jC rfl,wf,jC];walk_at "wq";refine⟨⟨by walk_at "o",by walk_at "o"⟩,by rw[zl];walk_at "o",_,?_,q⟩;rw[zl,pV R.lo];refine dI ?_;rw[zA,zr (eC R.lo _ _ _)];rfl
end
end Law
namespace Law
open PySem L3
section
variable {srt:Nat}
structure Sw where
 one:Str
 eF:Str
 fst:Int
 lst:Int
noncomputable def sU(s:Sw):D:=.tup [.str s.one,.str s.eF,.int s.fst,.int s.lst]
structure Sw.Ok (s:Sw) (hs:List Str) (turn:Int):Prop where
 o1:s.one∈hs
 o2:s.eF∈hs
 ne:s.one≠s.eF
 f0:0<=s.fst
 fl:s.fst<s.lst
 f1:s.fst<=turn+2
 l1:s.lst<=turn+20
structure Ab where
 h:Str
 fst:Int
 lst:Int
noncomputable def rG(s:Ab):D:=.tup [.str s.h,.int s.fst,.int s.lst]
noncomputable def bV(s:Sw)(t:Int)(h:Str):Str:=if (decide (s.fst<=t)&&decide (t<s.lst)&&(h==s.one||h==s.eF))=true then (if h=s.one then s.eF else s.one) else h
noncomputable def bX(ss:List Sw)(t:Int)(h:Str):Str:=ss.foldl (fun h s=>bV s t h) h
noncomputable def iL(as:List Ab)(t:Int)(h:Str):Bool:=as.any fun a=>a.h==h&&(decide (a.fst<=t)&&decide (t<a.lst))
theorem om(ss:List Sw)(s:Sw)(t:Int)(h:Str):bX (ss++[s]) t h=bV s t (bX ss t h):=by
 unfold bX;rw[List.foldl_append];rfl
theorem DA(k:Nat)(M:MH)(h:Str)(js:Nat)(ss:List Sw)(t:Int)(hj:M[js]?=some (.lst (ss.map sU))){Q:D->MH->Prop}(q:Q (.str (bX ss t h)) M):W ((cx srt (k+1)).fn "swapped" [.str h,.ob js,.int t]) M Q:=by
 rw[aS "swapped" 5 3 jD rfl,wf,jD];walk_at "wq";refine⟨_,hj,?_⟩;refine dU (fun n ρ M'=>M'=M/\∃x,ρ=[some (.str h),some (.ob js),some (.int t),some (.str (bX (ss.take n) t h)),x]) ⟨rfl,none,rfl⟩ (fun _ _ _ h=>by rw[h.1];exact hj) ?_ ?_
 ·rintro n d ρ M' hd ⟨rfl,x,rfl⟩
  rw[zA]at hd;obtain⟨s,hs,rfl⟩:=zv.mp hd;have step:bX (ss.take (n+1)) t h=bV s t (bX (ss.take n) t h):=by
   rw[yo,hs];exact om _ _ _ _
  unfold sU;walk_at "wq";rw[step];generalize bX (ss.take n) t h=c;have e2:cutD [D.str s.one,D.str s.eF,D.int s.fst,D.int s.lst] none (some 2)=[D.str s.one,D.str s.eF]:=rfl;have e3:i4 M' (.str c) [D.str s.one,D.str s.eF]=some (c==s.one||c==s.eF):=by
   rw[nQ rfl rfl];show some (s.one==c||(s.eF==c||false))=_;rw[wu,xI (a:=s.one),xI (a:=s.eF)]
  refine⟨fun h1=>⟨fun h2=>?_,fun h2=>?_⟩,fun h1=>?_⟩
  ·rw[e2,e3]
   refine⟨_,rfl,fun h3=>⟨fun h4=>?_,fun h4=>?_⟩,fun h3=>?_⟩
   ·have e:bV s t c=s.eF:=by
     unfold bV;rw[h1,h2,h3,if_pos (by rfl),if_pos (beq_iff_eq.mp h4)]
    rw[e];exact⟨_,rfl⟩
   ·have e:bV s t c=s.one:=by
     unfold bV;rw[h1,h2,h3,if_pos (by rfl),if_neg (by simpa using h4)]
    rw[e];exact⟨_,rfl⟩
   ·have e:bV s t c=c:=by
     unfold bV;rw[h1,h2,h3,if_neg (by simp)]
    rw[e];exact⟨_,rfl⟩
  ·have e:bV s t c=c:=by
    unfold bV;rw[h1,h2,if_neg (by simp)]
   rw[e];exact⟨_,rfl⟩
  ·have e:bV s t c=c:=by
    unfold bV;rw[h1,if_neg (by simp)]
   rw[e];exact⟨_,rfl⟩
 ·rintro ρ M' ⟨rfl,x,rfl⟩
  rw[zl,zY];walk_at "wq";exact q
theorem GW(k:Nat)(M:MH)(h:Str)(ja:Nat)(as:List Ab)(t:Int)(hl:as.length<=1000)(hj:M[ja]?=some (.lst (as.map rG))){Q:D->MH->Prop}(q:∀M',Gr M M'->Q (.bl (iL as t h)) M'):W ((cx srt (k+1)).fn "is_away" [.str h,.ob ja,.int t]) M Q:=by
 have big:=bG;rw[aS "is_away" 3 3 jI rfl,wf,jI];walk_at "wq";refine⟨_,hj,by rw[zl];walk_at "o",?_⟩;refine eM (fun n ys M'=>M'=M/\ys=((as.take n).map fun a=>a.h==h&&(decide (a.fst<=t)&&decide (t<a.lst))).map D.bl) ⟨rfl,rfl⟩ (fun _ _ _ h=>by rw[h.1];exact hj) ?_ ?_
 ·rintro n d ys M' hd ⟨rfl,rfl⟩
  rw[zA]at hd;obtain⟨a,ha,rfl⟩:=zv.mp hd;unfold rG;walk_at "wq";rw[yo,ha];refine⟨fun h1=>⟨fun h2=>?_,fun h2=>?_⟩,fun h1=>?_⟩
  ·simp[h1,h2]
  ·simp[h1,h2]
  ·simp[h1]
 ·rintro ys M' ⟨rfl,rfl⟩
  rw[zl,zY];walk_at "wq";refine⟨_,aj _ _,_,kK _,?_⟩;rw[List.any_map];exact q _ (Gr.app _ _)
noncomputable def round(hs:List Str)(n:Nat):List Str:=hs.drop n++hs.take n
noncomputable def Ai(hs:List Str)(as:List Ab)(t:Int)(h:Str):Option Str:=(round hs (hs.idxOf h)).find? fun x=>!iL as t x
noncomputable def tf:Option Str->D
 |none=>.non
 |some x=>.str x
theorem EC{hs:List Str}{h:Str}(hm:h∈hs):(hs.map D.str).findIdx? (fun d=>eY d (.str h))=some (hs.idxOf h):=by
 rw[yb];have hi:=xJ.mpr hm;refine⟨by rw[zl];exact hi,?_,fun j hj=>?_⟩
 ·rw[xq]
  show (hs[hs.idxOf h]==h)=true;simp
 ·rw[xq]
  show ¬ (hs[j]==h)=true
  have:=List.not_of_lt_findIdx hj
  simpa using this
theorem G9(k:Nat)(M:MH){d:D}{hs:List Str}{fst bZ:Int}(R:Dg d hs fst bZ)(js ja:Nat)(ss:List Sw)(as:List Ab)(t:Int)(hl:as.length<=1000)(hj:M[js]?=some (.lst (ss.map sU)))(Jc:M[ja]?=some (.lst (as.map rG)))
  (hm:bX ss t (hs[iQ hs.length fst bZ t]'(eC R.lo _ _ _))∈hs) {Q:D->MH->Prop} (q:∀M',Gr M M'->Q (tf (Ai hs as t (bX ss t (hs[iQ hs.length fst bZ t]'(eC R.lo _ _ _))))) M'):W ((cx srt (k+2)).fn "hand_on" [d,.ob js,.ob ja,.int t]) M Q:=by
 have big:=bG
 have:=R.hi
 rw[aS "hand_on" 7 4 jJ rfl,wf,jJ,R.is];walk_at "wq";have R':=R;rw[R.is]at R';refine FU k M R' t ?_;walk_at "wq";refine DA k M _ js ss t hj ?_;generalize bX ss t (hs[iQ hs.length fst bZ t]'(eC R.lo _ _ _))=h at hm q ⊢;walk_at "wq";refine⟨⟨rfl,by rw[xR,zD];exact fun _ _=>rfl⟩,_,EC hm,?_⟩;walk_at "wq";rw[Oi _ (by walk_at "o"),pF _ (by walk_at "o")];have en:((hs.idxOf h:Nat):Int).toNat=hs.idxOf h:=rfl;rw[en,<- wW,<- xo,<- yv];refine⟨by rw[zl,zl,zX,zW];walk_at "o",?_⟩;unfold Ai at q;show W (dB none 6 _ ((round hs (hs.idxOf h)).map D.str) _) M _;generalize round hs (hs.idxOf h)=rs at q ⊢;refine dU (fun n ρ M'=>Gr M M'/\(∀x∈rs.take n,iL as t x=true)/\∃x,ρ=[some (.tup [.tup (hs.map .str),.int fst,.int bZ]),some (.ob js),some (.ob ja),some (.int t),some (.tup (hs.map .str)),some (.int (hs.idxOf h:Nat)),x]) ⟨Gr.refl,by simp,none,rfl⟩ (fun _ _ _ _=>trivial) ?_ ?_
 ·rintro n e ρ M' hd ⟨g,ha,x,rfl⟩
  rw[zA]at hd;obtain⟨y,hy,rfl⟩:=zv.mp hd;walk_at "wq";refine GW k M' y ja as t hl (g.keep _ _ Jc) fun M2 g2=>?_;walk_at "wq";refine⟨fun h1=>?_,fun h1=>⟨g.trans g2,fun z hz=>?_,_,rfl⟩⟩
  ·have e:rs.find? (fun x=>!iL as t x)=some y:=by
    rw[yD];obtain⟨bW,hg⟩:=zw.mp hy;refine⟨h1,n,bW,hg,fun j hj=>?_⟩
    have:=ha rs[j] (yP.mpr ⟨j,by walk_at "o",rfl⟩)
    simp[this]
   have:=q M2 (g.trans g2)
   rw[e]at this;exact this
  ·rw[yo,hy]at hz
   rcases yx.mp hz with hz|hz
   ·exact ha z hz
   ·simp at hz
    subst hz;simpa using h1
 ·rintro ρ M' ⟨g,ha,x,rfl⟩
  rw[zl,zY]at ha;walk_at "wq";have e:rs.find? (fun x=>!iL as t x)=none:=by
   rw[xB];exact fun x hx=>by simp[ha x hx]
  have:=q M' g
  rw[e]at this;exact this
end
end Law
namespace Law
open PySem L3
section
variable {srt:Nat}
theorem DN(hs:List Str)(n j:Nat)(hn:n<hs.length)(hj:j<hs.length):(round hs n)[j]?=hs[(n+j) % hs.length]?:=by
 unfold round;by_cases h:j<hs.length-n
 ·rw[zG (by rw[zX];exact h),wm,wI (by walk_at "o")]
 ·rw[zc (by rw[zX];walk_at "o"),zX,xG (by walk_at "o"),Nat.mod_eq_sub_mod (by walk_at "o"),wI (by walk_at "o")]
  congr 1;walk_at "o"
theorem DM(hs:List Str)(n:Nat):(round hs n).length=hs.length:=by
 unfold round;rw[ze,zX,zW];walk_at "o"
theorem FA{α:Type}(p:α->Bool):∀xs:List α,xs.any p=!(xs.filter p).isEmpty
 |[]=>rfl
 |x::xs=>by
  rw[yS,List.filter_cons];cases h:p x with
  |true=>rfl
  |false =>
   rw[if_neg zu,wS];exact FA p xs
theorem Wx{M:MH}{x:Str}{s:Sw}:i4 M (.str x) [D.str s.one,.str s.eF]=some (x==s.one||x==s.eF):=by
 rw[nQ rfl rfl];show some (s.one==x||(s.eF==x||false))=_;rw[wu,xI (a:=s.one),xI (a:=s.eF)]
theorem RL(k:Nat)(M:MH){d:D}{hs:List Str}{fst bZ:Int}(R:Dg d hs fst bZ)(js ja:Nat)(ss:List Sw)(as:List Ab)(t:Int)(hl:as.length<=1000)(hj:M[js]?=some (.lst (ss.map sU)))(Jc:M[ja]?=some (.lst (as.map rG)))
  (hm:bX ss t (hs[iQ hs.length fst bZ t]'(eC R.lo _ _ _))∈hs) {Q:D->MH->Prop} (q:∀M',Gr M M'->Q (tf (Ai hs as t (bX ss t (hs[iQ hs.length fst bZ t]'(eC R.lo _ _ _))))) M'):W ((cx srt (k+1)).fn "_law_on" [d,.ob js,.ob ja,.int t]) M Q:=by
 have big:=bG;have lo:=R.lo;have hi:=R.hi;have l0:=R.l0;have l1:=R.l1;rw[aS "_law_on" 12 4 jM rfl,wf,jM,R.is];walk_at "wq";generalize bP:M++[MO.lst (hs.map D.str)]=M1;have g1:Gr M M1:=bP▸Gr.app _ _;have e1:M1[M.length]?=some (.lst (hs.map D.str)):=bP▸aj _ _;clear bP;generalize M.length=jl at e1 ⊢;have oR:um (.lst (hs.map D.str))=hs.length:=by show (((hs.map D.str).length:Nat):Int)=_;rw[zl]
 refine⟨⟨by walk_at "o",by walk_at "o"⟩,_,e1,?_⟩;rw[oR];refine⟨by walk_at "o",?_⟩;rw[pV lo];have Nw:=eC lo fst bZ t;refine⟨_,e1,?_⟩;walk_at "wq";refine⟨.str (hs[iQ hs.length fst bZ t]'Nw),dI (by rw[zA,zr Nw];rfl),_,g1.keep _ _ hj,?_⟩;generalize hs[iQ hs.length fst bZ t]'Nw=h0 at hm q ⊢;generalize iQ hs.length fst bZ t=ti;refine JR (fun n ρ M'=>Gr M1 M'/\∃x7 x8 x9 jV,ρ=[some (.tup [.tup (hs.map .str),.int fst,.int bZ]),some (.ob js),some (.ob ja),some (.int t),some (.ob jl),some (.int (ti:Int)),some (.str (bX (ss.take n) t h0)),x7,x8,x9,jV,none])
  ⟨Gr.refl,none,none,none,none,rfl⟩ (fun _ _ _ h=>h.1.keep _ _ (g1.keep _ _ hj)) ?_ ?_
 ·rintro n e ρ M2 hd ⟨g2,x7,x8,x9,jV,rfl⟩
  rw[zA]at hd;obtain⟨s,hs',rfl⟩:=zv.mp hd;have step:bX (ss.take (n+1)) t h0=bV s t (bX (ss.take n) t h0):=by
   rw[yo,hs'];exact om _ _ _ _
  refine⟨_,_,rfl,rfl,?_⟩;walk_at "wq";rw[step];generalize bX (ss.take n) t h0=c;refine⟨fun z1=>⟨fun z2=>⟨by decide,_,Wx,fun z3=>?_,fun z3=>?_⟩,fun z2=>?_⟩,fun z1=>?_⟩
  ·refine⟨by decide,?_⟩
   have e:bV s t c=if c=s.one then s.eF else s.one:=by
    unfold bV;rw[z1,z2,z3];rfl
   rw[e];by_cases z4:c=s.one
   ·refine⟨_,aj _ _,?_⟩
    have z5:(c==s.one)=true:=by simpa using z4
    rw[if_pos z4,z5];walk_at "wq";exact⟨_,WL,g2.snoc _,_,_,_,_,rfl⟩
   ·refine⟨_,aj _ _,?_⟩
    have z5:(c==s.one)=false:=by simpa using z4
    rw[if_neg z4,z5];walk_at "wq";exact⟨_,WM,g2.snoc _,_,_,_,_,rfl⟩
  ·have e:bV s t c=c:=by
    unfold bV;rw[z1,z2,z3,if_neg (by simp)]
   rw[e];exact⟨g2,_,_,_,_,rfl⟩
  ·have e:bV s t c=c:=by
    unfold bV;rw[z1,z2,if_neg (by simp)]
   rw[e];exact⟨g2,_,_,_,_,rfl⟩
  ·have e:bV s t c=c:=by
    unfold bV;rw[z1,if_neg (by simp)]
   rw[e];exact⟨g2,_,_,_,_,rfl⟩
 rintro ρ M2 ⟨g2,x7,x8,x9,jV,rfl⟩;rw[zl,zY];generalize bX ss t h0=h at hm q ⊢;have e2:=g2.keep _ _ e1;have gm:=g1.trans g2;walk_at "wq";refine⟨_,e2,_,e2,⟨rfl,by rw[xR,zD];exact fun _ _=>rfl⟩,_,EC hm,?_⟩;have qX:=xJ.mpr hm;unfold Ai at q;generalize hs.idxOf h=ix at qX q ⊢;walk_at "wq";refine⟨_,e2,?_⟩;rw[oR];refine⟨⟨by walk_at "o",by walk_at "o"⟩,?_⟩;have rg:=fun j hj=>DN hs ix j qX hj;have rl:=DM hs ix;generalize round hs ix=ro at rg rl q;refine dU (fun n ρ M'=>Gr M M'/\M'[jl]?=some (.lst (hs.map D.str))/\(∀x∈ro.take n,iL as t x=true)/\∃x6 vR,ρ=[some (.tup [.tup (hs.map .str),.int fst,.int bZ]),some (.ob js),some (.ob ja),some (.int t),some (.ob jl),some (.int (ix:Nat)),x6,x7,x8,x9,jV,vR])
  ⟨gm,e2,by simp,_,_,rfl⟩ (fun _ _ _ _=>trivial) ?_ ?_
 ·rintro n e ρ M3 hd ⟨g3,e3,ha,x6,vR,rfl⟩
  obtain⟨rfl,hn⟩:=y8 hd;have hn:n<hs.length:=by walk_at "o"
  have bW:(ix+n) % hs.length<hs.length:=Nat.mod_lt _ (by walk_at "o");walk_at "wq";refine⟨_,e3,?_⟩;rw[oR];have ei:((ix:Nat):Int)+(0+(n:Int))=((ix+n:Nat):Int):=by walk_at "o"
  rw[ei,<- Int.natCast_emod];refine⟨by walk_at "o",_,e3,?_⟩;walk_at "wq";refine⟨.str hs[(ix+n) % hs.length],dI (by rw[zA,zr bW];rfl),_,g3.keep _ _ Jc,by rw[zl];walk_at "o",?_⟩;have Nz:ro[n]?=some hs[(ix+n) % hs.length]:=by rw[rg n hn,zr bW]
  generalize hs[(ix+n) % hs.length]=y at Nz ⊢;refine eM (fun m ys M'=>M'=M3/\ys=((as.take m).filter fun a=>a.h==y&&(decide (a.fst<=t)&&decide (t<a.lst))).map rG) ⟨rfl,rfl⟩ (fun _ _ _ h=>by rw[h.1];exact g3.keep _ _ Jc) ?_ ?_
  ·rintro m e ys M4 hd ⟨rfl,rfl⟩
   rw[zA]at hd;obtain⟨a,ha,rfl⟩:=zv.mp hd;unfold rG;walk_at "wq";rw[yo,ha,we,yv];refine⟨fun z1=>⟨fun z2=>⟨fun z3=>?_,fun z3=>?_⟩,fun z2=>?_⟩,fun z1=>?_⟩
   ·simp[z1,z2,z3,rG]
   ·simp[z1,z2,z3]
   ·simp[z1,z2]
   ·simp[z1]
  ·rintro ys M4 ⟨rfl,rfl⟩
   rw[zl,zY];walk_at "wq";refine⟨by decide,?_⟩;rw[tV];refine⟨_,Oa ((Gr.app _ _).keep _ _ (aj _ _)) (aj _ _),?_⟩;rw[List.isEmpty_map];have ea:iL as t y=!(as.filter fun a=>a.h==y&&(decide (a.fst<=t)&&decide (t<a.lst))).isEmpty:=FA _ as;generalize (as.filter fun a=>a.h==y&&(decide (a.fst<=t)&&decide (t<a.lst))).isEmpty=b at ea ⊢;generalize QT:(M4++[MO.lst _])++[MO.lst []]=M5;have g5:Gr M4 M5:=QT▸(Gr.app _ _).snoc _;clear QT;refine⟨_,rfl,fun z=>?_,fun z=>?_⟩
   ·walk_at "wq"
    have e:ro.find? (fun x=>!iL as t x)=some y:=by
     rw[yD];obtain⟨bW,hg⟩:=zw.mp Nz;refine⟨by rw[ea,z];rfl,n,bW,hg,fun j hj=>?_⟩
     have:=ha ro[j] (yP.mpr ⟨j,by walk_at "o",rfl⟩)
     simp[this]
    have:=q M5 (g3.trans g5)
    rw[e]at this;exact this
   ·walk_at "wq"
    refine⟨g3.trans g5,g5.keep _ _ e3,fun x hx=>?_,_,_,rfl⟩;rw[yo,Nz]at hx;rcases yx.mp hx with hx|hx
    ·exact ha x hx
    ·simp at hx
     subst hx;rw[ea,z];rfl
 ·rintro ρ M3 ⟨g3,e3,ha,x6,vR,rfl⟩
  rw[dG]at ha;have en:((hs.length:Int)-0).toNat=ro.length:=by walk_at "o"
  rw[en,zY]at ha;walk_at "wq";have e:ro.find? (fun x=>!iL as t x)=none:=by
   rw[xB];exact fun x hx=>by simp[ha x hx]
  have:=q M3 g3
  rw[e]at this;exact this
end
end Law
namespace Law
open PySem L3
structure Sn where
 rn:Str
 sw:Sw
noncomputable def qH(s:Sn):D:=.tup [.str s.rn,.str s.sw.one,.str s.sw.eF,.int s.sw.fst,.int s.sw.lst]
noncomputable def SN(aD:List Ro)(s:Sn):Prop:=∃r∈aD,r.name=s.rn/\s.sw.one∈r.hands/\s.sw.eF∈r.hands
noncomputable def ky(c:Str)(ss:List Sn):List Sw:=(ss.filter fun s=>s.rn==c).map Sn.sw
noncomputable def Fy(r:Ro)(ss:List Sn)(as:List Ab)(t:Int):Option Str:=match r.hands[iQ r.hands.length r.fst r.bZ t]? with
 |some h=>Ai r.hands as t (bX (ky r.name ss) t h)
 |none=>none
structure Rec (M:MH) (jo js ja:Nat) (aD:List Ro) (ss:List Sn) (as:List Ab):Prop where
 o:M[jo]?=some (.lst (aD.map gJ))
 s:M[js]?=some (.lst (ss.map qH))
 a:M[ja]?=some (.lst (as.map rG))
structure k9 (aD:List Ro) (ss:List Sn) (as:List Ab):Prop where
 ok:∀r∈aD,r.Ok
 nd:(aD.map Ro.name).Nodup
 sn:∀s∈ss,SN aD s
 lo:aD.length<=1000
 ls:ss.length<=1000
 la:as.length<=1000
section
variable {srt:Nat}{jo js ja:Nat}{aD:List Ro}{ss:List Sn}{as:List Ab}
theorem vV(hs:List Str)(t:Int):∀(ws:List Sw) (h:Str),(∀s∈ws,s.one∈hs/\s.eF∈hs)->h∈hs->bX ws t h∈hs
 |[],_,_,hm=>hm
 |s::r,h,hw,hm=>by
  show bX r t (bV s t h)∈hs;refine vV hs t r _ (fun x hx=>hw x (zU _ hx)) ?_;have ok:=hw s zR;unfold bV;split
  ·split
   ·exact ok.2
   ·exact ok.1
  ·exact hm
theorem qK(nd:(aD.map Ro.name).Nodup){r r':Ro}(h:r∈aD)(h':r'∈aD)(e:r.name=r'.name):r=r':=by
 obtain⟨i,hi,rfl⟩:=yB h;obtain⟨j,hj,rfl⟩:=yB h'
 have:i=j:=by
  have e2:(aD.map Ro.name)[i]'(by rw[zl];exact hi)=(aD.map Ro.name)[j]'(by rw[zl];exact hj):=by rw[xq,xq];exact e
  exact(xK nd).mp e2
 subst this;rfl
theorem k9.Qt(K:k9 aD ss as){r:Ro}(hr:r∈aD)(t:Int):bX (ky r.name ss) t (r.hands[iQ r.hands.length r.fst r.bZ t]'(eC (K.ok r hr).lo _ _ _))∈r.hands:=by
 refine vV _ _ _ _ (fun s hs=>?_) (yM _);obtain⟨n,hn,rfl⟩:=yN.mp hs;obtain⟨h1,h2⟩:=xT.mp hn;obtain⟨r',h3,h4,h5,h6⟩:=K.sn n h1
 have:r'=r:=qK K.nd h3 hr (h4.trans (by simpa using h2))
 subst this;exact⟨h5,h6⟩
theorem Fx(K:k9 aD ss as){r:Ro}(hr:r∈aD)(t:Int):Fy r ss as t=Ai r.hands as t (bX (ky r.name ss) t (r.hands[iQ r.hands.length r.fst r.bZ t]'(eC (K.ok r hr).lo _ _ _))):=by
 unfold Fy;rw[zr (eC (K.ok r hr).lo _ _ _)]
theorem Pe{M:MH}{c:Str}{j:Nat}{ρ:Ev}{cc:Ev->Mo Bool}{e:Ev->Mo D}(h:M[j]?=some (.lst (ss.map qH)))(hc:∀(s:Sn) M (B:Bool->MH->Prop),B (s.rn==c) M->W (cc (some (qH s)::ρ)) M B)
  (he:∀(s:Sn) M (Q:D->MH->Prop),Q (sU s.sw) M->W (e (some (qH s)::ρ)) M Q) {L:List D->MH->Prop} (q:L ((ky c ss).map sU) M):W (dQ (some (j,ss.map qH)) cc e ρ (ss.map qH)) M L:=by
 refine eM (fun n ys M'=>M'=M/\ys=(ky c (ss.take n)).map sU) ⟨rfl,rfl⟩ (fun _ _ _ z=>by rw[z.1];exact h) ?_ ?_
 ·rintro n d ys M' hd ⟨rfl,rfl⟩
  rw[zA]at hd;obtain⟨s,hs,rfl⟩:=zv.mp hd;have step:ky c (ss.take (n+1))=ky c (ss.take n)++if s.rn==c then [s.sw] else []:=by
   unfold ky;rw[yo,hs,we,yv];congr 1;cases h2:s.rn==c <;> simp[h2]
  refine hc s _ _ ⟨fun z=>he s _ _ ⟨rfl,?_⟩,fun z=>⟨rfl,?_⟩⟩
  ·rw[step,z,yv]
   rfl
  ·rw[step,z,yv]
   simp
 ·rintro ys M' ⟨rfl,rfl⟩
  rw[zl,zY];exact q
theorem KO{c:Str}{n:Nat}{r:Ro}(h:aD[n]?=some r)(hb:∀x∈aD.take n,x.name≠c)(hc:r.name=c):(aD.find? fun r=>r.name==c)=some r:=by
 rw[yD];obtain⟨bW,hg⟩:=zw.mp h;refine⟨by simpa using hc,n,bW,hg,fun j hj=>?_⟩
 have:=hb aD[j] (yP.mpr ⟨j,by walk_at "o",rfl⟩)
 simpa using this
theorem Am(k:Nat)(M:MH)(ho:M[jo]?=some (.lst (aD.map gJ)))(c:Str){r:Ro}(hf:(aD.find? fun r=>r.name==c)=some r){Q:D->MH->Prop}(q:Q r.rd M):W ((cx srt (k+1)).fn "rota_named" [.ob jo,.str c]) M Q:=by
 rw[aS "rota_named" 3 2 dH rfl,wf,dH];walk_at "wq";refine⟨_,ho,?_⟩;refine dU (fun n ρ M'=>M'=M/\(∀x∈aD.take n,x.name≠c)/\∃x,ρ=[some (.ob jo),some (.str c),x]) ⟨rfl,by simp,none,rfl⟩ (fun _ _ _ z=>by rw[z.1];exact ho) ?_ ?_
 ·rintro n d ρ M2 hd ⟨rfl,hb,x,rfl⟩
  rw[zA]at hd;obtain⟨r',hr,rfl⟩:=zv.mp hd;unfold gJ;walk_at "wq";refine⟨fun z=>?_,fun z=>⟨fun x hx=>?_,_,rfl⟩⟩
  ·have:=KO hr hb (by simpa using z)
   rw[hf]at this;cases this;exact q
  ·rw[yo,hr]at hx
   rcases yx.mp hx with hx|hx
   ·exact hb x hx
   ·simp at hx
    subst hx;simpa using z
 ·rintro ρ M2 ⟨rfl,hb,x,rfl⟩
  rw[zl,zY]at hb;obtain⟨h1,_⟩:=xn.mp hf;exact absurd (by simpa using h1) (hb r (yQ hf))
theorem Du(k:Nat)(M:MH)(ho:M[jo]?=some (.lst (aD.map gJ)))(c:Str)(hf:∀r∈aD,r.name≠c){Q:D->MH->Prop}(q:Q .non M):W ((cx srt (k+1)).fn "rota_named" [.ob jo,.str c]) M Q:=by
 rw[aS "rota_named" 3 2 dH rfl,wf,dH];walk_at "wq";refine⟨_,ho,?_⟩;refine dU (fun n ρ M'=>M'=M/\∃x,ρ=[some (.ob jo),some (.str c),x]) ⟨rfl,none,rfl⟩ (fun _ _ _ z=>by rw[z.1];exact ho) ?_ ?_
 ·rintro n d ρ M2 hd ⟨rfl,x,rfl⟩
  rw[zA]at hd;obtain⟨r',hr,rfl⟩:=zv.mp hd
  have:=hf r' (zF hr)
  unfold gJ;walk_at "wq";refine⟨fun z=>absurd (by simpa using z) this,fun z=>⟨_,rfl⟩⟩
 ·rintro ρ M2 ⟨rfl,x,rfl⟩
  walk_at "wq";exact q
theorem Ha(k:Nat)(M:MH)(R:Rec M jo js ja aD ss as)(K:k9 aD ss as)(c:Str){r:Ro}(hf:(aD.find? fun r=>r.name==c)=some r)(t:Int){Q:D->MH->Prop}(q:∀M',Gr M M'->Q (tf (Fy r ss as t)) M') :
  W ((cx srt (k+3)).fn "hand_by" [.str c,.int t,.ob jo,.ob js,.ob ja]) M Q:=by
 have big:=bG;have ls:=K.ls;have i5:=yQ hf;have hc:r.name=c:=by
  obtain⟨h1,_⟩:=xn.mp hf;simpa using h1
 rw[aS "hand_by" 6 5 jK rfl,wf,jK];walk_at "wq";refine⟨_,R.s,by rw[zl];walk_at "o",Pe (c:=c) R.s (fun s M B h=>by unfold qH;walk_at "wq";exact h) (fun s M Q h=>by unfold qH;walk_at "wq";exact h) ?_⟩;walk_at "wq";refine Am (k+1) _ ((Gr.app _ _).keep _ _ R.o) c hf ?_;walk_at "wq";subst hc;refine G9 k _ (K.ok r i5).rota _ ja (ky r.name ss) as t K.la (aj _ _) ((Gr.app _ _).keep _ _ R.a) (K.Qt i5 t) fun M3 g3=>?_
 have:=q M3 ((Gr.app _ _).trans g3)
 rw[Fx K i5]at this;exact this
end
end Law
namespace Law
open PySem L3
section
variable {srt:Nat}{jt jw jn jv jr jh:Nat}{ns vs rs hs:List Str}
theorem L6(k:Nat):∀(dp:Nat) (M:MH) (_:dp<=2) (w:Wd M jt jw jn jv jr jh ns vs rs hs) {Q:D->MH->Prop}
  (q:∀(d:D) (M':MH),Gx jt M M'->Tp M' jt->Q d M'),
  W ((cx srt (k+4+dp)).fn "_law_row" [.ob jt,.ob jw,.int dp]) M Q:=by
 intro dp;induction dp with
 |zero=>exact fun M _ w Q q=>O1 k M w fun as on b wt ag ch M' _ _ _ _ _ _ _ _ g T=>q _ M' g T
 |succ dp ih=>?_
 intro M YH w Q q;rw[show k+4+(dp+1)=(k+1+dp)+4 by walk_at "o"];rw[show k+4+dp=(k+1+dp)+3 by walk_at "o"]at ih;generalize k+1+dp=k at ih ⊢;have big:=bG;have ln:=w.ln;have lr:=w.lr;rw[aS "_law_row" 9 3 eP rfl,wf,eP];walk_at "wq";refine⟨_,w.w,?_⟩;walk_at "wq";refine⟨_,uo,?_⟩;have wn:=w.n;obtain⟨s0,s1,s2,rfl⟩:∃a b c,ns=[a,b,c]:=by
  rcases ns with _|⟨a,_|⟨b,_|⟨c,_|⟨d,l⟩⟩⟩⟩ <;> first|exact⟨_,_,_,rfl⟩|(exfalso;simp at ln)
 simp only[zK,yJ]at wn;walk_at "wq";refine⟨by decide,_,wn,?_⟩;walk_at "wq";refine⟨by decide,_,wn,?_⟩;walk_at "wq";refine⟨_,wn,?_⟩;walk_at "wq";refine⟨by decide,_,wn,?_⟩;walk_at "wq";refine⟨by decide,_,wn,by decide,?_⟩;generalize bP:M++[MO.lst [D.tup [],.tup [.str s0],.tup [.str s2,.str s1],.tup [.str s1],.tup [.str s0,.str s1,.str s2]]]=M1;have g1:Gr M M1:=bP▸Gr.app _ _;have e1:M1[M.length]?=some (.lst [D.tup [],.tup [.str s0],.tup [.str s2,.str s1],.tup [.str s1],.tup [.str s0,.str s1,.str s2]]):=bP▸aj _ _;have n1:M.length≠jt:=zI w.T.lt;clear bP;generalize M.length=j1 at e1 n1 ⊢;refine aY (k+2) M1 (w.T.keep g1) _ (by decide) fun r M2 a b x T=>?_;have x2:Gx jt M M2:=(Gx.of g1).trans x;walk_at "wq";refine⟨_,x.get n1 e1,?_⟩;walk_at "wq";obtain⟨v,ev,hv⟩:=dq (xs:=[D.tup [],.tup [.str s0],.tup [.str s2,.str s1],.tup [.str s1],.tup [.str s0,.str s1,.str s2]]) a (by exact b);obtain⟨bs,rfl,qY⟩:∃bs:List Str,v=.tup (bs.map .str)/\bs.length<=3:=by
  simp only[zi,zB,or_false]at hv;rcases hv with rfl|rfl|rfl|rfl|rfl
  ·exact⟨[],rfl,by decide⟩
  ·exact⟨[s0],rfl,by simp⟩
  ·exact⟨[s2,s1],rfl,by simp⟩
  ·exact⟨[s1],rfl,by simp⟩
  ·exact⟨[s0,s1,s2],rfl,by simp⟩
 refine⟨_,ev,?_⟩;clear e1 n1 ev hv;refine⟨by decide,?_⟩;generalize lZ:M2++[MO.lst [D.int 1,.int 2,.int 0,.int 1,.int 3]]=M3;have g3:Gr M2 M3:=lZ▸Gr.app _ _;have e3:M3[M2.length]?=some (.lst [D.int 1,.int 2,.int 0,.int 1,.int 3]):=lZ▸aj _ _;have n3:M2.length≠jt:=zI T.lt;clear lZ;generalize M2.length=j3 at e3 n3 ⊢;refine aY (k+2) M3 (T.keep g3) _ (by decide) fun r4 M4 a4 b4 x4 T4=>?_;have x4':Gx jt M M4:=(x2.trans (.of g3)).trans x4;walk_at "wq";refine⟨_,x4.get n3 e3,?_⟩;walk_at "wq";obtain⟨v,ev,hv⟩:=dq (xs:=[D.int 1,.int 2,.int 0,.int 1,.int 3]) a4 (by exact b4);obtain⟨m,rfl,m0,m1⟩:∃m:Int,v=.int m/\0<=m/\m<=3:=by
  simp only[zi,zB,or_false]at hv;rcases hv with rfl|rfl|rfl|rfl|rfl
  ·exact⟨1,rfl,by decide,by decide⟩
  ·exact⟨2,rfl,by decide,by decide⟩
  ·exact⟨0,rfl,by decide,by decide⟩
  ·exact⟨1,rfl,by decide,by decide⟩
  ·exact⟨3,rfl,by decide,by decide⟩
 refine⟨_,ev,m,rfl,⟨by walk_at "o",by walk_at "o"⟩,by rw[dG];walk_at "o",?_⟩;clear e3 n3 ev hv;refine eM (fun n ys M'=>∃ch:List Str,ch.length=n/\(∀c∈ch,c∈rs)/\ys=ch.map .str/\Gx jt M M'/\Tp M' jt) ⟨[],rfl,by simp,rfl,x4',T4⟩ (fun _ _ _ _=>trivial) ?_ ?_
 ·rintro n d ys M' hd ⟨ch,h0,h1,rfl,h2,h3⟩
  have w':=w.go h2 h3;walk_at "wq";refine⟨_,w'.w,?_⟩;walk_at "wq";refine⟨_,GS,aY (k+2) M' h3 _ (by decide) fun r5 M5 a5 b5 x5 T5=>?_⟩;obtain⟨c,hc,ec⟩:=strAt (xs:=rs) a5 (by walk_at "o");walk_at "wq";refine⟨_,(w'.go x5 T5).r,?_⟩;walk_at "wq";refine⟨_,ec,ch++[c],by rw[ze,h0];rfl,fun y hy=>?_,by rw[yv];rfl,h2.trans x5,T5⟩;rcases yx.mp hy with z|z
  ·exact h1 y z
  ·rw[zS.mp z];exact hc
 rintro ys M5 ⟨ch,h0,h1,rfl,h2,h3⟩;rw[dG]at h0;walk_at "wq";refine⟨_,aj _ _,by decide,?_⟩;refine⟨fun _=>⟨by decide,?_⟩,fun z=>absurd (of_decide_eq_false z) (by walk_at "o")⟩;generalize gO:M5++[MO.lst (ch.map D.str)]++[MO.lst []]++[MO.lst [D.int 2,.int 1,.int 0]]=M6;have g6:Gr M5 M6:=gO▸((Gr.app _ _).snoc _).snoc _;have e6:M6[(M5++[MO.lst (ch.map D.str)]++[MO.lst []]).length]?=some (.lst [D.int 2,.int 1,.int 0]):=gO▸aj _ _;have n6:(M5++[MO.lst (ch.map D.str)]++[MO.lst []]).length≠jt:=by
  have:=h3.lt
  rw[ze,ze];walk_at "o"
 clear gO;generalize (M5++[MO.lst (ch.map D.str)]++[MO.lst []]).length=j6 at e6 n6 ⊢;refine aY (k+2) M6 (h3.keep g6) _ (by decide) fun r7 M7 a7 b7 x7 T7=>?_;have x7':Gx jt M M7:=(h2.trans (.of g6)).trans x7;walk_at "wq";refine⟨_,x7.get n6 e6,?_⟩;walk_at "wq";obtain⟨v,ev,hv⟩:=dq (xs:=[D.int 2,.int 1,.int 0]) a7 (by exact b7);obtain⟨m',rfl,m0',m1'⟩:∃m:Int,v=.int m/\0<=m/\m<=2:=by
  simp only[zi,zB,or_false]at hv;rcases hv with rfl|rfl|rfl
  ·exact⟨2,rfl,by decide,by decide⟩
  ·exact⟨1,rfl,by decide,by decide⟩
  ·exact⟨0,rfl,by decide,by decide⟩
 refine⟨_,ev,m',rfl,⟨by walk_at "o",by walk_at "o"⟩,by rw[dG];walk_at "o",?_⟩;clear e6 n6 ev hv;refine eM (fun n ys M'=>ys.length=n/\Gx jt M M'/\Tp M' jt) ⟨rfl,x7',T7⟩ (fun _ _ _ _=>trivial) ?_ ?_
 ·rintro n d ys M' hd ⟨h0,h2,h3⟩
  walk_at "wq";rw[show (((dp+1:Nat):Int)-1)=(dp:Int) by walk_at "o"];refine ih M' (by walk_at "o") (w.go h2 h3) fun d' M8 x8 T8=>⟨by rw[ze,h0];rfl,h2.trans x8,T8⟩
 rintro ys M8 ⟨h0',h2',h3'⟩;rw[dG]at h0';walk_at "wq";generalize qZ:M8++[MO.lst ys]=M9;have g9:Gr M8 M9:=qZ▸Gr.app _ _;have e9:M9[M8.length]?=some (.lst ys):=qZ▸aj _ _;have n9:M8.length≠jt:=zI h3'.lt;clear qZ;generalize M8.length=j9 at e9 n9 ⊢;refine aY (k+2) M9 (h3'.keep g9) _ (by decide) fun r9 Ma aa ba xa Ta=>?_;walk_at "wq";refine mO (k+1) Ma Ta fun c1 Mb ab bb xb Tb=>?_;walk_at "wq";refine mO (k+1) Mb Tb fun c2 Mc ac bc xc Tc=>?_;have xc':Gx jt M Mc:=(((h2'.trans (.of g9)).trans xa).trans xb).trans xc;walk_at "wq";refine⟨by decide,jN k Mc (w.go xc' Tc) fun as Md pd xd Td=>?_⟩;walk_at "wq";have e9':Md[j9]?=some (.lst ys):=xd.get n9 (xc.get n9 (xb.get n9 (xa.get n9 e9)));refine⟨by decide,by decide,_,e9',by decide,by decide,?_⟩;exact q _ Md (xc'.trans xd) Td
end
end Law
namespace L3
open PySem
section
variable {Γ:Ctx}{ρ:Ev}{M:MH}{F:Fl->MH->Prop}
theorem FO{c:IC}{b:aI}:W (bp Γ (.whileS c b) ρ) M F=W (dS (bh Γ c) (au Γ b) Γ.wh ρ) M F:=by delta W;simp only[rN]
theorem JP{c:Ev->Mo Bool}{body:Ev->Mo Fl}(I:Nat->Ev->MH->Prop)
  (hs:∀n ρ M,I n ρ M->W (c ρ) M fun b M1=>(b=true->∃m,n=m+1/\W (body ρ) M1 fun f M2=>match f with|.nx ρ'=>I m ρ' M2|.ct ρ'=>I m ρ' M2|.bk ρ'=>F (.nx ρ') M2|.rt v=>F (.rt v) M2)/\(b=false->F (.nx ρ) M1)) :
  ∀(n:Nat) (ρ:Ev) (M:MH),I n ρ M->W (dS c body (n+1) ρ) M F:=by
 intro n;induction n with
 |zero =>
  intro ρ M hI;unfold dS;rw[ar];refine(hs 0 ρ M hI).mono fun b M1 h=>?_;cases b with
  |false=>rw[if_neg zu];exact(ao _ _ _).mpr (h.2 rfl)
  |true=>obtain⟨m,e,_⟩:=h.1 rfl;cases e
 |succ n ih =>
  intro ρ M hI;unfold dS;rw[ar];refine(hs _ ρ M hI).mono fun b M1 h=>?_;cases b with
  |false=>rw[if_neg zu];exact(ao _ _ _).mpr (h.2 rfl)
  |true =>
   obtain⟨m,e,hw⟩:=h.1 rfl;cases e;rw[if_pos rfl,ar];refine hw.mono fun f M2 hf=>?_;cases f with
   |nx ρ'=>exact ih ρ' M2 hf
   |ct ρ'=>exact ih ρ' M2 hf
   |bk ρ'=>exact(ao _ _ _).mpr hf
   |rt v=>exact(ao _ _ _).mpr hf
end
end L3
namespace Law
open PySem L3
section
variable {srt:Nat}
theorem bF(k:Nat):(cx srt k).hc=srt:=by cases k <;> rfl
theorem OP(k:Nat):(cx srt k).wh=1000:=by cases k <;> rfl
theorem fj{ck:Option (Nat×List D)}{M:MH}{cc:Ev->Mo Bool}{e:Ev->Mo D}{ρ:Ev}{L:List D->MH->Prop}(h:gK ck M)(q:L [] M):W (dQ ck cc e ρ []) M L :=
 eM (fun n ys M'=>M'=M/\ys=[]) ⟨rfl,rfl⟩ (fun _ _ _ z=>by rw[z.1];exact h) (fun n d ys M' hd=>by cases hd) (by rintro ys M' ⟨rfl,rfl⟩;exact q)
theorem oJ{ck:Option (Nat×List D)}{M:MH}{i:Nat}{body:Ev->Mo Fl}{ρ:Ev}{F:Fl->MH->Prop}(h:gK ck M)(q:F (.nx ρ) M):W (dB ck i body [] ρ) M F :=
 dU (fun n ρ' M'=>M'=M/\ρ'=ρ) ⟨rfl,rfl⟩ (fun _ _ _ z=>by rw[z.1];exact h) (fun n d ys M' hd=>by cases hd) (by rintro ρ' M' ⟨rfl,rfl⟩;exact q)
theorem len0:([]:List D).length<=zq:=zZ _
theorem set_same{M:MH}{k:Nat}{o:MO}(h:M[k]?=some o):M.set k o=M:=by
 obtain⟨hl,rfl⟩:=zw.mp h;exact List.set_getElem_self hl
theorem qP(k:Nat)(M:MH)(tr d3:D)(t:Int)(jS jQ:Nat)(hS:M[jS]?=some (.lst []))(hQ:M[jQ]?=some (.lst [])){Q:D->MH->Prop}
  (q:∀(j:Nat) (M':MH),Gr M M'->M.length<=j->M'[j]?=some (.lst [])->Q (.ob j) M'):W ((cx srt (k+1)).fn "members" [tr,.ob jS,.ob jQ,d3,.int t]) M Q:=by
 rw[aS "members" 10 5 jF rfl,wf,jF];walk_at "wq";refine⟨_,hS,len0,fj hS ?_⟩;walk_at "wq";generalize bP:M++[MO.lst []]=M1;have g1:Gr M M1:=bP▸Gr.app _ _;have e1:M1[M.length]?=some (.lst []):=bP▸aj _ _;clear bP;refine⟨_,g1.keep _ _ hQ,len0,fj (g1.keep _ _ hQ) ?_⟩;walk_at "wq";generalize gP:M1++[MO.lst []]++[MO.aW []]=M2;have g2:Gr M1 M2:=gP▸(Gr.app _ _).snoc _;have e2:M2[(M1++[MO.lst []]).length]?=some (.aW []):=gP▸aj _ _;clear gP;generalize (M1++[MO.lst []]).length=j2 at e2 ⊢;refine⟨_,g2.keep _ _ e1,oJ (g2.keep _ _ e1) ?_⟩;walk_at "wq";refine⟨_,e2,rfl,?_⟩;refine⟨_,aj _ _,len0,fj (aj _ _) ?_⟩;walk_at "wq";have g:=g1.trans (g2.snoc (MO.lst []));exact q _ _ (g.snoc _) g.len (aj _ _)
theorem Hu(k:Nat)(M:MH)(tr d3:D)(t:Int)(jS jG:Nat)(hS:M[jS]?=some (.lst []))(hG:M[jG]?=some (.lst [])){Q:D->MH->Prop}
  (q:∀(j j':Nat) (M':MH),Gr M M'->M.length<=j->M'[j]?=some (.lst [])->M'[j']?=some (.lst [])->Q (.tup [.ob j,.ob j']) M'):W ((cx srt (k+1)).fn "closed" [tr,.ob jS,.ob jG,d3,.int t]) M Q:=by
 rw[aS "closed" 11 5 k8 rfl,wf,k8];walk_at "wq";generalize bP:M++[MO.aW []]=M1;have g1:Gr M M1:=bP▸Gr.app _ _;clear bP;refine⟨_,g1.keep _ _ hS,oJ (g1.keep _ _ hS) ?_⟩;walk_at "wq";refine⟨by decide,by decide,?_⟩;generalize gP:M1++[MO.lst []]++[MO.lst []]=M2;have g2:Gr M1 M2:=gP▸(Gr.app _ _).snoc _;have e2:M2[M1.length]?=some (.lst []):=gP▸(Gr.app _ _).keep _ _ (aj _ _);have e3:M2[(M1++[MO.lst []]).length]?=some (.lst []):=gP▸aj _ _;clear gP;have g:=g1.trans g2;refine⟨_,g.keep _ _ hG,len0,fj (g.keep _ _ hG) ?_⟩;walk_at "wq";refine⟨_,aj _ _,oJ (aj _ _) ?_⟩;walk_at "wq";exact⟨by decide,q _ _ _ (g.snoc _) g1.len ((Gr.app _ _).keep _ _ e2) ((Gr.app _ _).keep _ _ e3)⟩
structure pQ (M:MH) (a1 a2 a3 a4 a5:Nat):Prop where
 e1:M[a1]?=some (.lst [])
 e2:M[a2]?=some (.lst [])
 e3:M[a3]?=some (.lst [])
 e4:M[a4]?=some (.lst [])
 e5:M[a5]?=some (.lst [])
theorem pQ.keep{M M':MH}{a1 a2 a3 a4 a5:Nat}(r:pQ M a1 a2 a3 a4 a5)(g:Gr M M'):pQ M' a1 a2 a3 a4 a5:=⟨g.keep _ _ r.e1,g.keep _ _ r.e2,g.keep _ _ r.e3,g.keep _ _ r.e4,g.keep _ _ r.e5⟩
theorem vQ(k:Nat)(M:MH)(tr:D)(t:Int){a1 a2 a3 a4 a5:Nat}(R:pQ M a1 a2 a3 a4 a5)(jS jG:Nat)(hS:M[jS]?=some (.lst []))(hG:M[jG]?=some (.lst [])){Q:D->MH->Prop}
  (q:∀(j j':Nat) (M':MH),Gr M M'->M.length<=j->M'[j]?=some (.lst [])->M'[j']?=some (.lst [])->Q (.tup [.ob j,.ob j']) M'):W ((cx srt (k+2)).fn "all_closed" [tr,.tup [.ob a1,.ob a2,.ob a3,.ob a4,.ob a5],.ob jS,.ob jG,.int t]) M Q:=by
 rw[aS "all_closed" 6 5 gp rfl,wf,gp];walk_at "wq";refine⟨_,R.e5,len0,fj R.e5 ?_⟩;walk_at "wq";have g:=Gr.app M [MO.lst []];exact Hu k _ tr _ t jS jG (g.keep _ _ hS) (g.keep _ _ hG) fun j j' M' g' l' e e'=>q j j' M' (g.trans g') (zN g.len l') e e'
theorem KZ(k:Nat)(M:MH)(t t':Int){a1 a2 a3 a4 a5:Nat}(R:pQ M a1 a2 a3 a4 a5){Q:D->MH->Prop}
  (q:∀(j:Nat) (M':MH),Gr M M'->M.length<=j->M'[j]?=some (.lst [])->Q (.ob j) M'):W ((cx srt (k+1)).fn "edges_within" [.tup [.ob a1,.ob a2,.ob a3,.ob a4,.ob a5],.int t,.int t']) M Q:=by
 rw[aS "edges_within" 6 3 eO rfl,wf,eO];walk_at "wq";refine⟨_,R.e5,len0,fj R.e5 ?_⟩;walk_at "wq";generalize bP:M++[MO.lst []]=M1;have g1:Gr M M1:=bP▸Gr.app _ _;have e1:M1[M.length]?=some (.lst []):=bP▸aj _ _;clear bP;have R1:=R.keep g1;refine⟨_,R1.e1,oJ R1.e1 ?_⟩;walk_at "wq";refine⟨_,R1.e2,oJ R1.e2 ?_⟩;walk_at "wq";refine⟨_,e1,len0,fj e1 ?_⟩;walk_at "wq";refine⟨_,aj _ _,rfl,?_⟩;have g:=g1.trans (Gr.app M1 [MO.lst []]);exact q _ _ (g.snoc _) g.len (aj _ _)
theorem MX(k:Nat)(M:MH)(t t':Int)(jS jE:Nat)(hS:M[jS]?=some (.lst []))(hE:M[jE]?=some (.lst [])){Q:D->MH->Prop}
  (q:∀(M':MH),Gr M M'->Q (.int t') M'):W ((cx srt (k+1)).fn "next_turn" [.int t,.ob jS,.ob jE,.int t']) M Q:=by
 rw[aS "next_turn" 5 4 hY rfl,wf,hY];walk_at "wq";refine⟨_,hE,len0,fj hE ?_⟩;walk_at "wq";generalize bP:M++[MO.lst []]=M1;have g1:Gr M M1:=bP▸Gr.app _ _;have e1:M1[M.length]?=some (.lst []):=bP▸aj _ _;clear bP;refine⟨_,e1,_,g1.keep _ _ hS,len0,fj (g1.keep _ _ hS) ?_⟩;walk_at "wq";have e2:=(Gr.app M1 [MO.lst []]).keep _ _ e1;refine⟨_,aj _ _,_,e2,⟨by decide,by simpa using zI (aP e1)⟩,?_⟩;rw[zJ,set_same e2];exact⟨_,e2,rfl,q _ (g1.snoc _)⟩
theorem Nf(k:Nat)(M:MH)(t t':Int)(h:t<=t'){Q:D->MH->Prop}(q:Q .non M):W ((cx srt (k+1)).fn "refuse_late" [.int t',.int t]) M Q:=by
 rw[aS "refuse_late" 2 2 fk rfl,wf,fk];walk_at "wq";exact⟨fun z=>absurd (of_decide_eq_true z) (by walk_at "o"),fun _=>q⟩
theorem Bu(k:Nat)(M:MH)(tr d1 d2 d3:D)(t t':Int)(h:t<=t'){a1 a2 a3 a4 a5 jS:Nat}(R:pQ M a1 a2 a3 a4 a5)(hS:M[jS]?=some (.lst [])){Q:D->MH->Prop}
  (q:∀(j j':Nat) (M':MH),Gr M M'->M'[j]?=some (.lst [])->M'[j']?=some (.lst [])->M.length<=j'->Q (.tup [.ob j,.ob j']) M'):W ((cx srt (k+3)).fn "reckoned" [tr,d1,d2,d3,.tup [.ob a1,.ob a2,.ob a3,.ob a4,.ob a5],.ob jS,.int t,.int t']) M Q:=by
 rw[aS "reckoned" 14 8 iJ rfl,wf,iJ];walk_at "wq";refine KZ (k+1) M t t' R fun jE M1 g1 lE eE=>?_;walk_at "wq";refine⟨by decide,by decide,?_⟩;generalize gP:M1++[MO.lst []]++[MO.lst []]=M2;have g2:Gr M1 M2:=gP▸(Gr.app _ _).snoc _;have e2:M2[M1.length]?=some (.lst []):=gP▸(Gr.app _ _).keep _ _ (aj _ _);clear gP;have l1:=g1.len;generalize (M1++[MO.lst []]).length=j3;generalize M1.length=jL at e2 l1 ⊢;have g:=g1.trans g2;rw[FO,OP];refine JP (fun n ρ M'=>Gr M2 M'/\((n=999/\ρ=[some tr,some d1,some d2,some d3,some (.tup [.ob a1,.ob a2,.ob a3,.ob a4,.ob a5]),some (.ob jS),some (.int t),some (.int t'),some (.ob jE),some (.ob jS),some (.ob jL),some (.ob j3),some (.int t),none])
 \/∃j9 vR PX,M'[j9]?=some (.lst [])/\ρ=[some tr,some d1,some d2,some d3,some (.tup [.ob a1,.ob a2,.ob a3,.ob a4,.ob a5]),some (.ob jS),some (.int t),some (.int t'),some (.ob jE),some (.ob j9),some (.ob jL),vR,some (.int t'),PX])) ?_ 999 _ _ ⟨Gr.refl,.inl ⟨rfl,rfl⟩⟩
 rintro n ρ M3 ⟨g3,⟨rfl,rfl⟩|⟨j9,vR,PX,e9,rfl⟩⟩
 ·have ga:=g.trans g3
  walk_at "wq";refine⟨fun z=>⟨998,rfl,?_⟩,fun z=>?_⟩
  ·refine⟨fun _=>?_,fun z=>absurd z (by simp)⟩
   have Ra:=R.keep ga;refine qP (k+1) M3 tr d2 t a1 a2 Ra.e1 Ra.e2 fun jm M4 g4 l4 e4=>?_;walk_at "wq";have gb:=ga.trans g4;refine vQ k M4 tr t (R.keep gb) jS jm (gb.keep _ _ hS) e4 fun j9 j8 M5 g5 l5 e9 e8=>?_;have gc:=g3.trans (g4.trans g5);walk_at "wq";refine⟨_,gc.keep _ _ e2,_,e8,len0,fj e8 ?_⟩;walk_at "wq";have gs:=Gr.app M5 [MO.lst []];have e2':=gs.keep _ _ (gc.keep _ _ e2);refine⟨_,aj _ _,_,e2',⟨by decide,by simpa using zI (aP (gc.keep _ _ e2))⟩,?_⟩;rw[zJ,set_same e2'];have gd:=gc.trans gs;refine MX (k+1) _ t t' j9 jE (gs.keep _ _ e9) (gd.keep _ _ (g2.keep _ _ eE)) fun M6 g6=>?_;walk_at "wq";exact⟨gd.trans g6,.inr ⟨_,_,_,g6.keep _ _ (gs.keep _ _ e9),rfl⟩⟩
  ·have:t=t':=by have:=of_decide_eq_false z;walk_at "o"
   exact⟨by decide,q _ _ _ ga (ga.keep _ _ hS) (g3.keep _ _ e2) l1⟩
 ·walk_at "wq"
  refine⟨fun z=>absurd (of_decide_eq_true z) (by walk_at "o"),fun z=>?_⟩;exact⟨by decide,q _ _ _ (g.trans g3) e9 (g3.keep _ _ e2) l1⟩
end
end Law
namespace Law
open PySem L3
noncomputable def hF(tr:D)(jr ju:Nat)(tp:D)(t:Int)(a1 a2 a3 a4 a5 j6 j7:Nat):List (Str×D) :=
 [("tree",tr),("rotas",.ob jr),("rules",.ob ju),("top",tp),("turn",.int t),("sayings",.ob a1),("quietings",.ob a2),("swaps",.ob a3),("absences",.ob a4),("answers",.ob a5),("entries",.ob j6),("last_states",.ob j7)]
section
variable {tr tp:D}{jr ju a1 a2 a3 a4 a5 j6 j7:Nat}{t:Int}
theorem Aq:List.lookup ("tree":Str) (hF tr jr ju tp t a1 a2 a3 a4 a5 j6 j7)=some tr:=rfl
theorem kN:List.lookup ("rotas":Str) (hF tr jr ju tp t a1 a2 a3 a4 a5 j6 j7)=some (.ob jr):=rfl
theorem uh:List.lookup ("rules":Str) (hF tr jr ju tp t a1 a2 a3 a4 a5 j6 j7)=some (.ob ju):=rfl
theorem Nc:List.lookup ("top":Str) (hF tr jr ju tp t a1 a2 a3 a4 a5 j6 j7)=some tp:=rfl
theorem kh:List.lookup ("turn":Str) (hF tr jr ju tp t a1 a2 a3 a4 a5 j6 j7)=some (.int t):=rfl
theorem ug:List.lookup ("sayings":Str) (hF tr jr ju tp t a1 a2 a3 a4 a5 j6 j7)=some (.ob a1):=rfl
theorem ui:List.lookup ("quietings":Str) (hF tr jr ju tp t a1 a2 a3 a4 a5 j6 j7)=some (.ob a2):=rfl
theorem uf:List.lookup ("swaps":Str) (hF tr jr ju tp t a1 a2 a3 a4 a5 j6 j7)=some (.ob a3):=rfl
theorem Eo:List.lookup ("absences":Str) (hF tr jr ju tp t a1 a2 a3 a4 a5 j6 j7)=some (.ob a4):=rfl
theorem Nd:List.lookup ("answers":Str) (hF tr jr ju tp t a1 a2 a3 a4 a5 j6 j7)=some (.ob a5):=rfl
theorem En:List.lookup ("entries":Str) (hF tr jr ju tp t a1 a2 a3 a4 a5 j6 j7)=some (.ob j6):=rfl
theorem As:List.lookup ("last_states":Str) (hF tr jr ju tp t a1 a2 a3 a4 a5 j6 j7)=some (.ob j7):=rfl
theorem Gj{d:Nat}:putD "last_states" (.ob d) (hF tr jr ju tp t a1 a2 a3 a4 a5 j6 j7)=hF tr jr ju tp t a1 a2 a3 a4 a5 j6 d:=rfl
theorem Gi{t':Int}:putD "turn" (.int t') (hF tr jr ju tp t a1 a2 a3 a4 a5 j6 j7)=hF tr jr ju tp t' a1 a2 a3 a4 a5 j6 j7:=rfl
theorem E2:(hF tr jr ju tp t a1 a2 a3 a4 a5 j6 j7).length<100:=by simp[hF]
end
structure dv (M:MH) (C jH:Nat) (aD:List Ro) (tr:D) (jr ju:Nat) (tp:D) (t:Int) (a1 a2 a3 a4 a5 j6 j7:Nat):Prop where
 h:M[jH]?=some (.ins C (hF tr jr ju tp t a1 a2 a3 a4 a5 j6 j7))
 r:M[jr]?=some (.lst (aD.map gJ))
 R:pQ M a1 a2 a3 a4 a5
 e6:M[j6]?=some (.lst [])
 e7:M[j7]?=some (.lst [])
theorem dv.keep{M M':MH}{C jH:Nat}{aD:List Ro}{tr tp:D}{jr ju a1 a2 a3 a4 a5 j6 j7:Nat}{t:Int}(H:dv M C jH aD tr jr ju tp t a1 a2 a3 a4 a5 j6 j7)(g:Gr M M'):dv M' C jH aD tr jr ju tp t a1 a2 a3 a4 a5 j6 j7 :=
 ⟨g.keep _ _ H.h,g.keep _ _ H.r,H.R.keep g,g.keep _ _ H.e6,g.keep _ _ H.e7⟩
theorem dv.lay{M:MH}{C jH:Nat}{aD:List Ro}{tr tp:D}{jr ju a1 a2 a3 a4 a5 j6 j7:Nat}{t:Int}(H:dv M C jH aD tr jr ju tp t a1 a2 a3 a4 a5 j6 j7){c n:Nat}(hn:∀x∈[jr,a1,a2,a3,a4,a5,j6,j7],n<=x)(hc:c<n)(hj:c≠jH)(o:MO):dv (M.set c o) C jH aD tr jr ju tp t a1 a2 a3 a4 a5 j6 j7:=by
 have f:∀x∈[jr,a1,a2,a3,a4,a5,j6,j7],∀o',M[x]?=some o'->(M.set c o)[x]?=some o':=fun x hx o' e=>by
  have:=hn x hx
  rw[zd (by walk_at "o")];exact e
 have R:=H.R;exact⟨by rw[zd hj];exact H.h,f jr (by simp) _ H.r,⟨f a1 (by simp) _ R.e1,f a2 (by simp) _ R.e2,f a3 (by simp) _ R.e3,f a4 (by simp) _ R.e4,f a5 (by simp) _ R.e5⟩,f j6 (by simp) _ H.e6,f j7 (by simp) _ H.e7⟩
theorem dv.gx{M M':MH}{C jH:Nat}{aD:List Ro}{tr tp:D}{jr ju a1 a2 a3 a4 a5 j6 j7:Nat}{t:Int}(H:dv M C jH aD tr jr ju tp t a1 a2 a3 a4 a5 j6 j7){c n:Nat}(hn:∀x∈[jr,a1,a2,a3,a4,a5,j6,j7],n<=x)(hc:c<n)(hj:jH≠c)(g:Gx c M M'):dv M' C jH aD tr jr ju tp t a1 a2 a3 a4 a5 j6 j7:=by
 have f:∀x∈[jr,a1,a2,a3,a4,a5,j6,j7],∀o',M[x]?=some o'->M'[x]?=some o':=fun x hx o' e=>by
  have:=hn x hx
  exact g.get (by walk_at "o") e
 have R:=H.R;exact⟨g.get hj H.h,f jr (by simp) _ H.r,⟨f a1 (by simp) _ R.e1,f a2 (by simp) _ R.e2,f a3 (by simp) _ R.e3,f a4 (by simp) _ R.e4,f a5 (by simp) _ R.e5⟩,f j6 (by simp) _ H.e6,f j7 (by simp) _ H.e7⟩
section
variable {srt jH:Nat}{aD:List Ro}{tr tp:D}{jr ju a1 a2 a3 a4 a5 j6 j7:Nat}{t:Int}
theorem de{M:MH}{C j k:Nat}{fs:List (Str×D)}{ds:List D}(h:M[j]?=some (.ins C fs))(e:M[k]?=some (.lst ds)):k≠j:=by
 rintro rfl;rw[h]at e;cases e
theorem Pl(k:Nat)(M:MH)(H:dv M srt jH aD tr jr ju tp t a1 a2 a3 a4 a5 j6 j7){Q:D->MH->Prop}(q:Q (.int t) M):W ((cx srt (k+1)).fn (av "now") [.ob jH]) M Q:=by
 rw[aS (av "now") 1 1 ia rfl,wf,ia];walk_at "wq";simp only[bF];exact⟨_,H.h,_,kh,q⟩
theorem qL(k:Nat)(M:MH)(H:dv M srt jH aD tr jr ju tp t a1 a2 a3 a4 a5 j6 j7){Q:D->MH->Prop}(q:∀(b1 b2 b3 b4 b5:Nat) (M':MH),Gr M M'->M.length<=b1->b1<b2->b2<b3->b3<b4->b4<b5->pQ M' b1 b2 b3 b4 b5->Q (.tup [.ob b1,.ob b2,.ob b3,.ob b4,.ob b5]) M'):W ((cx srt (k+1)).fn (av "records") [.ob jH]) M Q:=by
 rw[aS (av "records") 1 1 eu rfl,wf,eu];walk_at "wq";simp only[bF];refine⟨_,H.h,_,ug,?_⟩;walk_at "wq";refine⟨_,H.R.e1,?_⟩;have g1:=Gr.app M [MO.lst []];have n1:=aj M (MO.lst []);generalize M++[MO.lst []]=M1 at g1 n1 ⊢;have l1:=aP n1;have H1:=H.keep g1;simp only[bF];refine⟨_,H1.h,_,ui,?_⟩;walk_at "wq";refine⟨_,H1.R.e2,?_⟩;have g2:=Gr.app M1 [MO.lst []];have n2:=aj M1 (MO.lst []);generalize M1++[MO.lst []]=M2 at g2 n2 ⊢;have l2:=aP n2;have H2:=H1.keep g2;simp only[bF];refine⟨_,H2.h,_,uf,?_⟩;walk_at "wq";refine⟨_,H2.R.e3,?_⟩;have g3:=Gr.app M2 [MO.lst []];have n3:=aj M2 (MO.lst []);generalize M2++[MO.lst []]=M3 at g3 n3 ⊢;have l3:=aP n3;have H3:=H2.keep g3;simp only[bF];refine⟨_,H3.h,_,Eo,?_⟩;walk_at "wq";refine⟨_,H3.R.e4,?_⟩;have g4:=Gr.app M3 [MO.lst []];have n4:=aj M3 (MO.lst []);generalize M3++[MO.lst []]=M4 at g4 n4 ⊢;have l4:=aP n4;have H4:=H3.keep g4;simp only[bF];refine⟨_,H4.h,_,Nd,?_⟩;walk_at "wq";refine⟨_,H4.R.e5,?_⟩;have g5:=Gr.app M4 [MO.lst []];have n5:=aj M4 (MO.lst []);have n4':=g5.keep _ _ n4;have n3':=g5.keep _ _ (g4.keep _ _ n3);have n2':=g5.keep _ _ (g4.keep _ _ (g3.keep _ _ n2));have n1':=g5.keep _ _ (g4.keep _ _ (g3.keep _ _ (g2.keep _ _ n1)));exact⟨by decide,q _ _ _ _ _ _ ((((g1.trans g2).trans g3).trans g4).trans g5) (zp _) l1 l2 l3 l4 ⟨n1',n2',n3',n4',n5⟩⟩
theorem Hd(k:Nat)(M:MH)(H:dv M srt jH aD tr jr ju tp t a1 a2 a3 a4 a5 j6 j7){Q:D->MH->Prop}(q:∀(j:Nat) (M':MH),Gr M M'->M.length<=j->M'[j]?=some (.lst [])->Q (.ob j) M'):W ((cx srt (k+2)).fn (av "open_groups") [.ob jH]) M Q:=by
 rw[aS (av "open_groups") 1 1 cV rfl,wf,cV];walk_at "wq";simp only[bF];refine⟨_,H.h,_,Aq,?_⟩;refine⟨_,H.h,_,ug,?_⟩;refine⟨_,H.h,_,ui,?_⟩;refine⟨_,H.h,_,uh,?_⟩;refine⟨_,H.h,_,kh,?_⟩;exact qP k M _ _ _ _ _ H.R.e1 H.R.e2 q
theorem Po(k:Nat)(M:MH)(H:dv M srt jH aD tr jr ju tp t a1 a2 a3 a4 a5 j6 j7){Q:D->MH->Prop}(q:∀(j:Nat) (M':MH),Gr M M'->M.length<=j->M'[j]?=some (.lst [])->Q (.ob j) M'):W ((cx srt (k+1)).fn (av "log") [.ob jH]) M Q:=by
 rw[aS (av "log") 1 1 ib rfl,wf,ib];walk_at "wq";simp only[bF];refine⟨_,H.h,_,En,?_⟩;walk_at "wq";refine⟨_,H.e6,len0,fj H.e6 ?_⟩;walk_at "wq";exact q _ _ (Gr.app _ _) (zp _) (aj _ _)
theorem F5(k:Nat)(M:MH)(H:dv M srt jH aD tr jr ju tp t a1 a2 a3 a4 a5 j6 j7){Q:D->MH->Prop}(q:∀(j:Nat) (M':MH),Gr M M'->M.length<=j->M'[j]?=some (.lst [])->Q (.ob j) M'):W ((cx srt (k+1)).fn (av "states") [.ob jH]) M Q:=by
 rw[aS (av "states") 1 1 eR rfl,wf,eR];walk_at "wq";simp only[bF];refine⟨_,H.h,_,As,?_⟩;walk_at "wq";refine⟨_,H.e7,len0,fj H.e7 ?_⟩;walk_at "wq";exact q _ _ (Gr.app _ _) (zp _) (aj _ _)
theorem sX{k:Nat}{M M1:MH}{f:Str}{e:IE}{ρ:Ev}{r:aI}{F:Fl->MH->Prop}{fs:List (Str×D)}{v:D}(h:∀Q':D->MH->Prop,Q' v M1->W (af (cx srt k) e (some (.ob jH)::ρ)) M Q')
  (hH:M1[jH]?=some (.ins srt fs)) (hl:fs.length<100) (q:∀M',Gx jH M1 M'->M'[jH]?=some (.ins srt (putD f v fs))->W (au (cx srt k) r (some (.ob jH)::ρ)) M' F):W (au (cx srt k) (.cons (.setF (.var 0) f e) r) (some (.ob jH)::ρ)) M F:=by
 rw[bQ,JN];refine h _ ?_;walk_at "wq";simp only[bF];exact⟨_,hH,hl,q _ (Gx.refl.set _) (fH hH)⟩
theorem oo{k:Nat}{M:MH}{f:Str}{e:IE}{ρ:Ev}{r:aI}{F:Fl->MH->Prop}{fs:List (Str×D)}(v:D)(h:∀Q':D->MH->Prop,Q' v M->W (af (cx srt k) e (some (.ob jH)::ρ)) M Q')
  (hH:M[jH]?=some (.ins srt fs)) (hl:fs.length<100) (q:∀M',Gx jH M M'->M'[jH]?=some (.ins srt (putD f v fs))->W (au (cx srt k) r (some (.ob jH)::ρ)) M' F):W (au (cx srt k) (.cons (.setF (.var 0) f e) r) (some (.ob jH)::ρ)) M F :=
 sX h hH hl q
theorem fQ{k:Nat}{M:MH}{f:Str}{e:IE}{ρ:Ev}{r:aI}{F:Fl->MH->Prop}{fs:List (Str×D)}(ds:List D)(h:∀Q':D->MH->Prop,Q' (.ob M.length) (M++[.lst ds])->W (af (cx srt k) e (some (.ob jH)::ρ)) M Q')
  (hH:M[jH]?=some (.ins srt fs)) (hl:fs.length<100) (q:∀M' j,Gx jH M M'->M'[jH]?=some (.ins srt (putD f (.ob j) fs))->M.length<=j->j≠jH->M'[j]?=some (.lst ds)->W (au (cx srt k) r (some (.ob jH)::ρ)) M' F):W (au (cx srt k) (.cons (.setF (.var 0) f e) r) (some (.ob jH)::ρ)) M F:=by
 have bW:=aP hH;exact sX h ((Gr.app _ _).keep _ _ hH) hl fun M' g e'=>q M' _ ((Gx.of (Gr.app _ _)).trans g) e' (zp _) (by walk_at "o") (g.get (by walk_at "o") (aj _ _))
theorem Nq(k:Nat)(M:MH)(tr tp:D)(jo jx:Nat)(hH:M[jH]?=some (.ins srt []))(ho:M[jo]?=some (.lst (aD.map gJ))){us:List D}(hu:M[jx]?=some (.lst us)){Q:D->MH->Prop}
  (q:∀(jr ju a1 a2 a3 a4 a5 j6 j7:Nat) (M':MH),Gx jH M M'->dv M' srt jH aD tr jr ju tp 0 a1 a2 a3 a4 a5 j6 j7->(∀x∈[jr,a1,a2,a3,a4,a5,j6,j7],M.length<=x)->Q .non M'):W ((cx srt (k+1)).fn "House.__init__" [.ob jH,tr,.ob jo,.ob jx,tp]) M Q:=by
 have no:=de hH ho;have nx:=de hH hu;have el:∀(M:MH) (ρ:Ev) (Q':D->MH->Prop),Q' (.ob M.length) (M++[.lst []])->W (af (cx srt k) (.lst .nil) ρ) M Q':=fun M ρ Q' h=>by
  walk_at "wq";exact⟨by decide,h⟩
 rw[aS "House.__init__" 5 5 dR rfl,wf,dR];refine⟨rfl,?_⟩;show W (au (cx srt k) _ [some (.ob jH),some tr,some (.ob jo),some (.ob jx),some tp]) M _;refine oo tr (fun Q' h=>by walk_at "wq";exact h) hH (zH rfl) fun M1 g1 h1=>?_;refine fQ (aD.map gJ) (fun Q' h=>by walk_at "wq";exact⟨_,g1.get no ho,h⟩) h1 (zH rfl) fun M2 jr g2 h2 lr nr er=>?_;have x2:=g1.trans g2;refine fQ us (fun Q' h=>by walk_at "wq";exact⟨_,x2.get nx hu,h⟩) h2 (zH rfl) fun M3 ju g3 h3 _ _ _=>?_;refine oo tp (fun Q' h=>by walk_at "wq";exact h) h3 (zH rfl) fun M4 g4 h4=>?_;refine oo (.int 0) (fun Q' h=>by walk_at "wq";exact h) h4 (zH rfl) fun M5 g5 h5=>?_;have Ww:=g5.get nr (g4.get nr (g3.get nr er));have x5:=((x2.trans g3).trans g4).trans g5;refine fQ [] (el _ _) h5 (zH rfl) fun M6 a1 g6 h6 k1 m1 e1=>?_;refine fQ [] (el _ _) h6 (zH rfl) fun M7 a2 g7 h7 k2 m2 e2=>?_;refine fQ [] (el _ _) h7 (zH rfl) fun M8 a3 g8 h8 k3 m3 e3=>?_;refine fQ [] (el _ _) h8 (zH rfl) fun M9 a4 g9 h9 k4 m4 e4=>?_;refine fQ [] (el _ _) h9 (zH rfl) fun Ma a5 ga ha k5 m5 e5=>?_;refine fQ [] (el _ _) ha (zH rfl) fun Mb j6 gb hb k6 m6 e6=>?_;refine fQ [] (el _ _) hb (zH rfl) fun Mc j7 gc hc k7 m7 e7=>?_;have x7:=g7.trans (g8.trans (g9.trans (ga.trans (gb.trans gc))));have x8:=g8.trans (g9.trans (ga.trans (gb.trans gc)));have x9:=g9.trans (ga.trans (gb.trans gc));have xa:=ga.trans (gb.trans gc);have xb:=gb.trans gc;walk_at "wq";exact q jr ju a1 a2 a3 a4 a5 j6 j7 Mc (x5.trans (g6.trans x7)) ⟨hc,(g6.trans x7).get nr Ww,⟨x7.get m1 e1,x8.get m2 e2,x9.get m3 e3,xa.get m4 e4,xb.get m5 e5⟩,gc.get m6 e6,e7⟩ (fun x hx=>by
  have:=g1.len
  have:=g2.len
  have:=g3.len
  have:=g4.len
  have:=g5.len
  have:=g6.len
  have:=g7.len
  have:=g8.len
  have:=g9.len
  have:=ga.len
  have:=gb.len
  simp only[zi,zB,or_false]at hx;walk_at "o")
theorem NV(k:Nat)(M:MH)(H:dv M srt jH aD tr jr ju tp t a1 a2 a3 a4 a5 j6 j7)(t':Int)(b7 b8:Nat)(h7:M[b7]?=some (.lst []))(h8:M[b8]?=some (.lst []))(ne:b8≠j6){Q:D->MH->Prop}
  (q:∀M',Gx jH M M'->dv M' srt jH aD tr jr ju tp t' a1 a2 a3 a4 a5 j6 b7->Q .non M'):W ((cx srt (k+1)).fn (av "go_on") [.ob jH,.int t',.tup [.ob b7,.ob b8]]) M Q:=by
 have n7:=de H.h h7;have n8:=de H.h h8;rw[aS (av "go_on") 3 3 ft rfl,wf,ft];refine⟨rfl,?_⟩;show W (au (cx srt k) _ [some (.ob jH),some (.int t'),some (.tup [.ob b7,.ob b8])]) M _;refine oo (.ob b7) (fun Q' h=>by walk_at "wq";exact h) H.h E2 fun M1 g1 h1=>?_;rw[Gj]at h1;have n6:=de H.h H.e6;have e6:=g1.get n6 H.e6;walk_at "wq";simp only[bF];refine⟨_,h1,_,En,?_⟩;walk_at "wq";refine⟨_,e6,_,g1.get n8 h8,_,e6,⟨by decide,by simpa using ne⟩,?_⟩;rw[zJ,set_same e6];simp only[bF];refine⟨_,h1,E2,?_⟩;have h2:=fH (o:=MO.ins srt (putD ("turn":Str) (.int t') (hF tr jr ju tp t a1 a2 a3 a4 a5 j6 b7))) h1;have g2:=(Gx.refl (j:=jH) (M:=M1)).set (MO.ins srt (putD ("turn":Str) (.int t') (hF tr jr ju tp t a1 a2 a3 a4 a5 j6 b7)));generalize M1.set jH (MO.ins srt (putD ("turn":Str) (.int t') (hF tr jr ju tp t a1 a2 a3 a4 a5 j6 b7)))=M2 at h2 g2 ⊢;rw[Gi]at h2;have x:=g1.trans g2;have R:=H.R;exact q M2 x ⟨h2,x.get (de H.h H.r) H.r,⟨x.get (de H.h R.e1) R.e1,x.get (de H.h R.e2) R.e2,x.get (de H.h R.e3) R.e3,x.get (de H.h R.e4) R.e4,x.get (de H.h R.e5) R.e5⟩,g2.get n6 e6,x.get n7 h7⟩
theorem Gh(k:Nat)(M:MH)(H:dv M srt jH aD tr jr ju tp t a1 a2 a3 a4 a5 j6 j7)(t':Int)(h:t<=t'){Q:D->MH->Prop}
  (q:∀(j j':Nat) (M':MH),Gr M M'->M'[j]?=some (.lst [])->M'[j']?=some (.lst [])->M.length<=j'->Q (.tup [.ob j,.ob j']) M'):W ((cx srt (k+4)).fn (av "reckoned_to") [.ob jH,.int t']) M Q:=by
 rw[aS (av "reckoned_to") 3 2 cU rfl,wf,cU];walk_at "wq";simp only[bF];refine⟨_,H.h,rfl,qL (k+2) M H fun b1 b2 b3 b4 b5 M1 g1 l1 _ _ _ _ R1=>?_⟩;have H1:=H.keep g1;walk_at "wq";simp only[bF];refine⟨_,H1.h,_,Aq,_,H1.h,_,kN,_,H1.h,_,uh,_,H1.h,_,Nc,_,H1.h,_,As,_,H1.h,_,kh,?_⟩;exact Bu k M1 _ _ _ _ t t' h R1 H1.e7 fun j j' M2 g2 e e' l=>q j j' M2 (g1.trans g2) e e' (zN g1.len l)
theorem JU(k:Nat)(M:MH)(H:dv M srt jH aD tr jr ju tp t a1 a2 a3 a4 a5 j6 j7)(t':Int)(h:t<=t'){Q:D->MH->Prop}
  (q:∀(j7:Nat) (M':MH),Gx jH M M'->dv M' srt jH aD tr jr ju tp t' a1 a2 a3 a4 a5 j6 j7->Q .non M'):W ((cx srt (k+5)).fn (av "until") [.ob jH,.int t']) M Q:=by
 rw[aS (av "until") 2 2 fq rfl,wf,fq];walk_at "wq";simp only[bF];refine⟨_,H.h,_,kh,Nf (k+3) M t t' h ?_⟩;walk_at "wq";simp only[bF];refine⟨_,H.h,rfl,_,H.h,rfl,Gh k M H t' h fun b7 b8 M1 g1 e7 e8 l8=>?_⟩;have l6:=aP H.e6;walk_at "wq";refine NV (k+3) M1 (H.keep g1) t' b7 b8 e7 e8 (by walk_at "o") fun M2 g2 H2=>?_;walk_at "wq";exact q _ M2 ((Gx.of g1).trans g2) H2
theorem KI(k:Nat)(M:MH)(H:dv M srt jH aD tr jr ju tp t a1 a2 a3 a4 a5 j6 j7)(c:Str){r:Ro}(hf:(aD.find? fun r=>r.name==c)=some r){Q:D->MH->Prop}(q:Q r.rd M):W ((cx srt (k+2)).fn (av "known_rota") [.ob jH,.str c]) M Q:=by
 rw[aS (av "known_rota") 3 2 bU rfl,wf,bU];walk_at "wq";simp only[bF];refine⟨_,H.h,_,kN,Am k M H.r c hf ?_⟩;unfold Ro.rd at q ⊢;walk_at "wq";exact⟨rfl,fun z=>(by cases z),fun _=>q⟩
theorem GI(k:Nat)(M:MH)(H:dv M srt jH aD tr jr ju tp t a1 a2 a3 a4 a5 j6 j7)(K:k9 aD [] [])(c:Str){r:Ro}(hf:(aD.find? fun r=>r.name==c)=some r)(tt:Int){Q:D->MH->Prop}(q:∀M',Gr M M'->Q (tf (Fy r [] [] tt)) M'):W ((cx srt (k+4)).fn (av "on_duty") [.ob jH,.str c,.int tt]) M Q:=by
 rw[aS (av "on_duty") 3 3 dn rfl,wf,dn];walk_at "wq";simp only[bF];refine⟨_,H.h,rfl,KI (k+1) M H c hf ?_⟩;walk_at "wq";simp only[bF];refine⟨_,H.h,_,kN,_,H.h,_,uf,_,H.h,_,Eo,?_⟩;exact Ha k M ⟨H.r,H.R.e3,H.R.e4⟩ K c hf tt q
end
end Law
namespace Law
open PySem L3
section
variable {srt jH:Nat}{aD:List Ro}{tr tp:D}{jr ju a1 a2 a3 a4 a5 j6 j7:Nat}{t:Int}
theorem mQ(k:Nat)(xs:List D)(M:MH):(cx srt (k+1)).rz "standing_saying" xs M=if xs.length=3 then cM (cx srt k) dE (xs.map some++zM (4-xs.length) none) M else none:=rfl
theorem vg(k:Nat)(xs:List D)(M:MH):(cx srt (k+1)).rz (av "ground_of") xs M=if xs.length=2 then cM (cx srt k) eV (xs.map some++zM (3-xs.length) none) M else none:=rfl
theorem Dr(k:Nat)(xs:List D)(M:MH):(cx srt (k+1)).rz (av "on_duty") xs M=if xs.length=3 then cM (cx srt k) dn (xs.map some++zM (3-xs.length) none) M else none:=rfl
theorem sx(k:Nat)(xs:List D)(M:MH):(cx srt (k+1)).rz (av "known_rota") xs M=if xs.length=2 then cM (cx srt k) bU (xs.map some++zM (3-xs.length) none) M else none:=rfl
theorem O2(k:Nat):(cx srt (k+1)).rf=oz srt (cx srt k).rz:=rfl
theorem ff{α β:Type}{m:Mo α}{f:α->Mo β}{M M':MH}{a:α}(h:m M=some (.ok a,M')):(m >>= f) M=f a M':=by rw[run_bind,h]
theorem mG{α β:Type}{m:Mo α}{f:α->Mo β}{M:MH}(h:m M=none):(m >>= f) M=none:=by rw[run_bind,h]
theorem qx{α:Type}{m:Mo α}{a:α}{M:MH}(w:W m M fun x M'=>x=a/\M'=M):m M=some (.ok a,M):=by
 obtain⟨x,M',e,h1,h2⟩:=w;rw[h1,h2]at e;exact e
theorem aG{p:Prop}[Decidable p]{M:MH}(h:p):(need p:Mo Unit) M=some (.ok (),M):=by
 unfold need;rw[if_pos h];rfl
theorem L0{Γ:L3.Ctx}{a:IE}{es:cG}{ρ:Ev}{M M1:MH}{xs:List D}(h:(do let x<-af Γ a ρ;gM Γ.hc "known_rota" x;let xs<-aR Γ es ρ;pure (x::xs):Mo (List D)) M=some (.ok xs,M1)):nB Γ (.mcl a "known_rota" es) ρ M=Γ.rz (av "known_rota") xs M1:=by
 refine(if_pos (c:=(("known_rota":Str)=="known_rota")=true) (e:=none) rfl).trans ?_;exact congrArg (fun z:Option (Out (List D)×MH)=>match z with
  |some (.ok xs,M1)=>Γ.rz (av "known_rota") xs M1
  |_=>none) h
theorem L4{Γ:L3.Ctx}{es:cG}{ρ:Ev}{M M1:MH}{xs:List D}(h:aR Γ es ρ M=some (.ok xs,M1)):nB Γ (.call "standing_saying" es) ρ M=Γ.rz "standing_saying" xs M1:=by
 refine(if_pos (c:=(("standing_saying":Str)=="standing_saying")=true) (e:=none) rfl).trans ?_;exact congrArg (fun z:Option (Out (List D)×MH)=>match z with
  |some (.ok xs,M1)=>Γ.rz "standing_saying" xs M1
  |_=>none) h
theorem oG:t4 none=none:=rfl
theorem MU{ρ:Ev}{M:MH}:t4 (some (.ok (.nx ρ),M))=some (ρ,M):=rfl
theorem LZ{Γ:L3.Ctx}{ρ:Ev}{M:MH}:cM Γ (.cons .rz .nil) ρ M=some M:=by
 rw[cM,show bp Γ .rz ρ M=none from rfl,oG];rfl
theorem Ia{Γ:L3.Ctx}{ρ:Ev}{M:MH}{c:IC}{r:aI}(h:bh Γ c ρ M=some (.ok true,M)):au Γ (.cons (.ifS c (.cons .rz .nil) .nil) r) ρ M=none/\cM Γ (.cons (.ifS c (.cons .rz .nil) .nil) r) ρ M=some M:=by
 have e1:bp Γ (.ifS c (.cons .rz .nil) .nil) ρ M=none:=by
  rw[oA,ff h,if_pos rfl,fT];exact mG rfl
 refine⟨?_,?_⟩
 ·rw[fT]
  exact mG e1
 ·rw[cM,e1,oG,mV,h]
  dsimp only;rw[if_pos rfl];exact LZ
theorem oy{Γ:L3.Ctx}{ρ ρ':Ev}{M:MH}{i:Nat}{e:IE}{v:D}{r:aI}(h:af Γ e ρ M=some (.ok v,M))(hs:ρ.set i (some v)=ρ')(q:au Γ r ρ' M=none/\cM Γ r ρ' M=some M):au Γ (.cons (.set i e) r) ρ M=none/\cM Γ (.cons (.set i e) r) ρ M=some M:=by
 have e1:bp Γ (.set i e) ρ M=some (.ok (.nx ρ'),M):=by
  rw[kF,ff h,hs];rfl
 refine⟨?_,?_⟩
 ·rw[fT]
  refine(ff e1).trans ?_;exact q.1
 ·rw[cM,e1,MU]
  exact q.2
theorem Cr(k:Nat)(M:MH)(H:dv M srt jH aD tr jr ju tp t a1 a2 a3 a4 a5 j6 j7)(c:Str)(hf:∀r∈aD,r.name≠c) :
  (cx srt (k+2)).fn (av "known_rota") [.ob jH,.str c] M=none/\(cx srt (k+2)).rz (av "known_rota") [.ob jH,.str c] M=some M:=by
 have w1:W (af (cx srt (k+1)) (.call ("rota_named":Str) (.cons (.fld (.var 0) ("rotas":Str)) (.cons (.var 1) .nil))) [some (.ob jH),some (.str c),none]) M fun d M'=>d=.non/\M'=M:=by
  walk_at "wq";simp only[bF];exact⟨_,H.h,_,kN,Du k M H.r c hf ⟨rfl,rfl⟩⟩
 have e1:=qx w1;have w2:W (bh (cx srt (k+1)) (.cmp (.cmp .Is (.var 2) .cnon)) [some (.ob jH),some (.str c),some .non]) M fun b M'=>b=true/\M'=M:=by
  walk_at "wq";exact⟨rfl,rfl⟩
 have e2:=qx w2;have b:=oy (i:=2) e1 (ρ':=[some (.ob jH),some (.str c),some .non]) rfl (Ia (r:=(.cons (.ret (.var 2)) .nil)) e2);refine⟨?_,?_⟩
 ·rw[aS (av "known_rota") 3 2 bU rfl]
  refine(ff (aG rfl)).trans ?_;exact mG b.1
 ·rw[sx,if_pos (show [D.ob jH,.str c].length=2 from rfl)]
  exact b.2
theorem Ej(k:Nat)(M:MH)(H:dv M srt jH aD tr jr ju tp t a1 a2 a3 a4 a5 j6 j7)(c:Str)(hf:∀r∈aD,r.name≠c)(x:D):(cx srt (k+3)).rz (av "on_duty") [.ob jH,.str c,x] M=some M:=by
 obtain⟨h1,h2⟩:=Cr (srt:=srt) k M H c hf;have wi:W (gM (cx srt (k+2)).hc "known_rota" (.ob jH)) M fun x M'=>x=()/\M'=M:=by
  rw[HJ,bF];exact⟨_,H.h,rfl,rfl,rfl⟩
 have ei:=qx wi;rw[Dr,if_pos (show [D.ob jH,.str c,x].length=3 from rfl)];show cM (cx srt (k+2)) (.cons (.expr (.mcl (.var 0) ("known_rota":Str) (.cons (.var 1) .nil))) _) [some (.ob jH),some (.str c),some x] _=_;have e0:af (cx srt (k+2)) (.mcl (.var 0) ("known_rota":Str) (.cons (.var 1) .nil)) [some (.ob jH),some (.str c),some x] M=none:=by
  rw[oB];refine(ff (a:=D.ob jH) (M':=M) rfl).trans ?_;refine(ff ei).trans ?_;refine(ff (a:=[D.str c]) (M':=M) rfl).trans ?_;exact h1
 have e1:bp (cx srt (k+2)) (.expr (.mcl (.var 0) ("known_rota":Str) (.cons (.var 1) .nil))) [some (.ob jH),some (.str c),some x] M=none:=by
  rw[mW];exact mG e0
 have e2:(do let x<-af (cx srt (k+2)) (.var 0) [some (.ob jH),some (.str c),some x];gM (cx srt (k+2)).hc "known_rota" x;let xs<-aR (cx srt (k+2)) (.cons (.var 1) .nil) [some (.ob jH),some (.str c),some x];pure (x::xs):Mo (List D)) M=some (.ok [.ob jH,.str c],M):=by
  refine(ff (a:=D.ob jH) (M':=M) rfl).trans ?_;refine(ff ei).trans ?_;exact(ff (a:=[D.str c]) (M':=M) rfl).trans rfl
 rw[cM,e1,oG,mV];exact(L0 e2).trans h2
theorem vJ(k:Nat)(M:MH)(e:M[a1]?=some (.lst []))(n t:Int):(cx srt (k+2)).fn "standing_saying" [.ob a1,.int n,.int t] M=none/\(cx srt (k+2)).rz "standing_saying" [.ob a1,.int n,.int t] M=some M:=by
 have w1:W (af (cx srt (k+1)) (.call ("numbered":Str) (.cons (.var 0) (.cons (.var 1) .nil))) [some (.ob a1),some (.int n),some (.int t),none]) M fun d M'=>d=.non/\M'=M:=by
  walk_at "wq";rw[aS "numbered" 2 2 iK rfl,wf,iK];walk_at "wq";intro z1;refine⟨_,e,fun z2=>?_⟩;have z1:=of_decide_eq_true z1;have z2:=of_decide_eq_true z2;exact absurd (show n<=0 from z2) (by walk_at "o")
 have e1:=qx w1;have w2:W (bh (cx srt (k+1)) (.or (.cmp (.cmp .Is (.var 3) .cnon)) (.not (.tru (.call ("stands":Str) (.cons (.var 3) (.cons (.var 2) .nil)))))) [some (.ob a1),some (.int n),some (.int t),some .non]) M fun b M'=>b=true/\M'=M:=by
  walk_at "wq";exact⟨rfl,fun z=>(by cases z)⟩
 have e2:=qx w2;have b:=oy (i:=3) e1 (ρ':=[some (.ob a1),some (.int n),some (.int t),some .non]) rfl (Ia (r:=(.cons (.ret (.var 3)) .nil)) e2);refine⟨?_,?_⟩
 ·rw[aS "standing_saying" 4 3 dE rfl]
  refine(ff (aG rfl)).trans ?_;exact mG b.1
 ·rw[mQ,if_pos (show [D.ob a1,.int n,.int t].length=3 from rfl)]
  exact b.2
theorem vK(k:Nat)(M:MH)(H:dv M srt jH aD tr jr ju tp t a1 a2 a3 a4 a5 j6 j7)(n:Int):(cx srt (k+3)).rz (av "ground_of") [.ob jH,.int n] M=some M:=by
 obtain⟨h1,h2⟩:=vJ (srt:=srt) k M H.R.e1 n t;have w1:W (aR (cx srt (k+2)) (.cons (.fld (.var 0) ("sayings":Str)) (.cons (.var 1) (.cons (.fld (.var 0) ("turn":Str)) .nil))) [some (.ob jH),some (.int n),none]) M fun xs M'=>xs=[.ob a1,.int n,.int t]/\M'=M:=by
  walk_at "wq";simp only[bF];exact⟨_,H.h,_,ug,_,H.h,_,kh,rfl⟩
 have ea:=qx w1;rw[vg,if_pos (show [D.ob jH,.int n].length=2 from rfl)];show cM (cx srt (k+2)) (.cons (.set 2 (.call ("standing_saying":Str) (.cons (.fld (.var 0) ("sayings":Str)) (.cons (.var 1) (.cons (.fld (.var 0) ("turn":Str)) .nil))))) _) [some (.ob jH),some (.int n),none] _=_;have e1:bp (cx srt (k+2)) (.set 2 (.call ("standing_saying":Str) (.cons (.fld (.var 0) ("sayings":Str)) (.cons (.var 1) (.cons (.fld (.var 0) ("turn":Str)) .nil))))) [some (.ob jH),some (.int n),none] M=none:=by
  rw[kF,mX];refine mG ?_;exact(ff ea).trans h1
 rw[cM,e1,oG,mV];exact(L4 ea).trans h2
theorem Ek(k:Nat)(M:MH)(H:dv M srt jH aD tr jr ju tp t a1 a2 a3 a4 a5 j6 j7)(n:Int)(c:Str)(hf:∀r∈aD,r.name≠c)(x:D):(cx srt (k+4)).rf [.ob jH,.int n,.str c,x] M=some M:=by
 have ok:∀m:Str,(List.lookup m (hF tr jr ju tp t a1 a2 a3 a4 a5 j6 j7)).isNone=true->D4 (gM srt m (.ob jH) M)=true:=fun m h=>by
  have wi:W (gM srt m (.ob jH)) M fun _ M'=>M'=M:=by
   rw[HJ];exact⟨_,H.h,h,rfl⟩
  obtain⟨_,_,ei,_⟩:=wi;rw[ei];rfl
 rw[O2,oz,if_pos (ok _ rfl),vK k M H n];dsimp only;rw[if_pos (ok _ rfl)];exact Ej k M H c hf x
end
end Law
namespace Law
open PySem L3
section
variable {srt:Nat}{jt jw jn jv jr jh:Nat}{ns vs rs hs:List Str}
theorem J9(k:Nat)(M:MH)(w:Wd M jt jw jn jv jr jh ns vs rs hs){Q:D->MH->Prop}
  (q:∀(us:List D) (j:Nat) (M':MH),us.length<=2->Gx jt M M'->Tp M' jt->M.length<=j->M'[j]?=some (.lst us)->Q (.ob j) M'):W ((cx srt (k+4)).fn "_law_rules" [.ob jt,.ob jw]) M Q:=by
 have big:=bG;have ln:=w.ln;have lt:=w.T.lt;have ne:M.length≠jt:=zI lt;rw[aS "_law_rules" 5 2 gy rfl,wf,gy];walk_at "wq";refine⟨by decide,by decide,?_⟩;generalize bP:M++[MO.lst []]++[MO.lst [D.int 1,.int 0,.int 2]]=M1;have g1:Gr M M1:=bP▸(Gr.app _ _).snoc _;have e1:M1[M.length]?=some (.lst []):=bP▸(Gr.app _ _).keep _ _ (aj _ _);have e2:M1[(M++[MO.lst []]).length]?=some (.lst [D.int 1,.int 0,.int 2]):=bP▸aj _ _;have n2:(M++[MO.lst []]).length≠jt:=by rw[ze];walk_at "o"
 clear bP;generalize (M++[MO.lst []]).length=j2 at e2 n2 ⊢;refine aY (k+2) M1 (w.T.keep g1) _ (by decide) fun r M2 a b x T2=>?_;have x2:Gx jt M M2:=(Gx.of g1).trans x;walk_at "wq";refine⟨_,x.get n2 e2,?_⟩;walk_at "wq";obtain⟨v,ev,hv⟩:=dq (xs:=[D.int 1,.int 0,.int 2]) a (by exact b);obtain⟨m,rfl,m0,m1⟩:∃m:Int,v=.int m/\0<=m/\m<=2:=by
  simp only[zi,zB,or_false]at hv;rcases hv with rfl|rfl|rfl
  ·exact⟨1,rfl,by decide,by decide⟩
  ·exact⟨0,rfl,by decide,by decide⟩
  ·exact⟨2,rfl,by decide,by decide⟩
 refine⟨_,ev,m,rfl,⟨by walk_at "o",by walk_at "o"⟩,?_⟩;refine dU (fun n ρ M'=>∃us:List D,us.length=n/\Gx jt M M'/\Tp M' jt/\M'[M.length]?=some (.lst us)/\∃x3 x4,ρ=[some (.ob jt),some (.ob jw),some (.ob M.length),x3,x4])
  ⟨[],rfl,x2,T2,x.get ne e1,_,_,rfl⟩ (fun _ _ _ _=>trivial) ?_ ?_
 ·rintro n d ρ M3 hd ⟨us,hn,x3,T3,h3,y3,y4,rfl⟩
  obtain⟨rfl,YE⟩:=y8 hd;have w3:=w.go x3 T3;have wn:=w3.n;obtain⟨s0,s1,s2,rfl⟩:∃a b c,ns=[a,b,c]:=by
   rcases ns with _|⟨a,_|⟨b,_|⟨c,_|⟨d,l⟩⟩⟩⟩ <;> first|exact⟨_,_,_,rfl⟩|(exfalso;simp at ln)
  simp only[zK,yJ]at wn;walk_at "wq";refine⟨by decide,_,w3.w,?_⟩;walk_at "wq";refine⟨_,uo,?_⟩;walk_at "wq";refine⟨_,wn,?_⟩;walk_at "wq";refine⟨by decide,_,w3.w,?_⟩;walk_at "wq";refine⟨_,uo,?_⟩;walk_at "wq";refine⟨_,wn,?_⟩;walk_at "wq";refine⟨by decide,by decide,?_⟩;generalize gf:M3++[MO.lst [D.tup [],.tup [.str s0],.tup [.str s1]]]=M4;have g4:Gr M3 M4:=gf▸Gr.app _ _;have e4:M4[M3.length]?=some (.lst [D.tup [],.tup [.str s0],.tup [.str s1]]):=gf▸aj _ _;have n4:M3.length≠jt:=zI T3.lt;clear gf;generalize M3.length=j4 at e4 n4 ⊢;refine aY (k+2) M4 (T3.keep g4) _ (by decide) fun r5 M5 a5 b5 x5 T5=>?_;walk_at "wq";refine⟨_,x5.get n4 e4,?_⟩;walk_at "wq";obtain⟨v5,Wu,_⟩:=dq (xs:=[D.tup [],.tup [.str s0],.tup [.str s1]]) a5 (by exact b5);have x5':Gx jt M M5:=(x3.trans (.of g4)).trans x5;have h5:=x5.get ne (g4.keep _ _ h3);refine⟨_,Wu,?_⟩;refine⟨_,h5,?_⟩;refine jN k M5 (w.go x5' T5) fun d6 M6 _ x6 T6=>?_;walk_at "wq";refine jN k M6 (w.go (x5'.trans x6) T6) fun d7 M7 _ x7 T7=>?_;have h7:=x7.get ne (x6.get ne h5);walk_at "wq";exact⟨by decide,_,h7,by walk_at "o",us++[_],by rw[ze,hn];rfl,((x5'.trans x6).trans x7).young (zp _) _,T7.young lt _,fH h7,_,_,rfl⟩
 ·rintro ρ M3 ⟨us,hn,x3,T3,h3,y3,y4,rfl⟩
  rw[dG]at hn;walk_at "wq";exact q us _ _ (by walk_at "o") x3 T3 (zp _) h3
end
section
variable {srt jH:Nat}{aD:List Ro}{tr tp:D}{jr ju a1 a2 a3 a4 a5 j6 j7:Nat}{t:Int}
noncomputable def fP(t:Int):PyData:=.list [.int t,.tuple [.list [],.list [],.list [],.list [],.list []],.list [],.list [],.list []]
theorem lQ{M:MH}{n j:Nat}(h:M[j]?=some (.lst [])):rd M (n+1) (.ob j)=some (.list []):=rd_ob' h (zZ _) rfl
theorem uK{M:MH}{b1 b2 b3 b4 b5 l s g j:Nat}(R:pQ M b1 b2 b3 b4 b5)(el:M[l]?=some (.lst []))(es:M[s]?=some (.lst []))(eg:M[g]?=some (.lst []))
  (hj:M[j]?=some (.lst [.int t,.tup [.ob b1,.ob b2,.ob b3,.ob b4,.ob b5],.ob l,.ob s,.ob g])):rd M 4 (.ob j)=some (fP t):=by
 have e:rd M 3 (.tup [.ob b1,.ob b2,.ob b3,.ob b4,.ob b5])=some (.tuple [.list [],.list [],.list [],.list [],.list []]) :=
  rd_tup' (zH rfl) (by simp only[bI,lQ R.e1,lQ R.e2,lQ R.e3,lQ R.e4,lQ R.e5])
 refine rd_ob' hj (zH rfl) ?_;have e0:rd M 3 (.int t)=some (.int t):=rfl;simp only[bI,e0,e,lQ el,lQ es,lQ eg]
theorem He{A M:MH}(g:Gr A M){i:Nat}(h:A.length<=i)(o:MO):Gr A (M.set i o):=⟨fun k u e=>by
 have:=aP e
 rw[zd (by walk_at "o")];exact g.keep k u e,by rw[yw];exact g.len⟩
theorem Mu(k:Nat)(M0 M:MH)(bs:List Nat)(jL:Nat)(hL:M[jL]?=some (.lst (bs.map D.ob)))(hb:∀b∈bs,M0.length<=b/\b<jL/\M[b]?=some (.lst []))(g:Gr M0 M)(hl:bs.length<=1000){o0 o1 o2 o3 o4 x5 o6 o7 o8 o9:Option D}{F:Fl->MH->Prop}
  (q:∀M' x5,Gr M0 M'->F (.nx [o0,o1,o2,o3,o4,x5,o6,o7,o8,o9]) M'):W (dB (some (jL,bs.map D.ob)) 5 (au (cx srt k) (.cons (.expr (.mth .append (.var 5) (.cons (.cint 7) .nil))) .nil)) (bs.map D.ob) [o0,o1,o2,o3,o4,x5,o6,o7,o8,o9]) M F:=by
 have big:=bG;refine dU (fun n ρ M'=>Gr M0 M'/\M'[jL]?=some (.lst (bs.map D.ob))/\(∀b∈bs,∃ds:List D,M'[b]?=some (.lst ds)/\ds.length<=n)/\∃x5,ρ=[o0,o1,o2,o3,o4,x5,o6,o7,o8,o9])
  ⟨g,hL,fun b h=>⟨[],(hb b h).2.2,zp _⟩,_,rfl⟩ (fun _ _ _ z=>z.2.1) ?_ ?_
 ·rintro n d ρ M1 hd ⟨g1,h1,hm,x5,rfl⟩
  have hn:=aP hd;rw[zl]at hn;rw[zA]at hd;obtain⟨b,hb',rfl⟩:=zv.mp hd;have i5:=zF hb';obtain⟨l0,l1,_⟩:=hb b i5;obtain⟨ds,e,le⟩:=hm b i5;walk_at "wq";refine⟨_,e,_,e,by walk_at "o",He g1 l0 _,by rw[zd (by walk_at "o")];exact h1,fun c hc=>?_,_,rfl⟩;obtain⟨ds',e',le'⟩:=hm c hc;by_cases z:b=c
  ·subst z
   exact⟨_,fH e,by rw[ze];exact xP le⟩
  ·exact⟨ds',by rw[zd z];exact e',wB le'⟩
 ·rintro ρ M1 ⟨g1,h1,hm,x5,rfl⟩
  exact q M1 x5 g1
theorem E6(nd:(aD.map Ro.name).Nodup){r:Ro}(h:r∈aD):(aD.find? fun x=>x.name==r.name)=some r:=by
 cases hf:aD.find? fun x=>x.name==r.name with
 |none=>exact absurd (xB.mp hf r h) (by simp)
 |some r' =>
  have h1:=yQ hf;have h2:=List.find?_some hf;rw[qK nd h1 h (by simpa using h2)]
theorem L8{M:MH}(o:Option Str):∃p,rd M 1 (tf o)=some p:=by
 cases o with
 |none=>exact⟨_,rfl⟩
 |some s=>exact⟨_,rfl⟩
theorem AF(k:Nat)(M:MH)(H:dv M srt jH aD tr jr ju tp t a1 a2 a3 a4 a5 j6 j7)(K:k9 aD [] [])(r0:Ro)(IX:aD[0]?=some r0)(up:∀r∈aD,r.name.length<=r0.name.length+1)(sz:r0.name.length<=20)(jo jT:Nat)(ho:M[jo]?=some (.lst (aD.map gJ)))(ts:List Int)(hT:M[jT]?=some (.lst (ts.map .int))){Q:D->MH->Prop}
  (q:∀M',Gr M M'->Q (.bl true) M'):W ((cx srt (k+5)).fn "_law_first" [.ob jH,.int t,.ob jo,.ob jT]) M Q:=by
 have big:=bG;rw[aS "_law_first" 10 4 gH rfl,wf,gH];walk_at "wq";simp only[bF];refine⟨_,H.h,rfl,Pl (k+3) M H ?_⟩;walk_at "wq";simp only[bF];refine⟨_,H.h,rfl,qL (k+3) M H fun b1 b2 b3 b4 b5 M1 g1 l1 l2 l3 l4 l5 R1=>?_⟩;have H1:=H.keep g1;walk_at "wq";simp only[bF];refine⟨_,H1.h,rfl,Po (k+3) M1 H1 fun jl M2 g2 ll el=>?_⟩;have H2:=H1.keep g2;walk_at "wq";simp only[bF];refine⟨_,H2.h,rfl,F5 (k+3) M2 H2 fun js M3 g3 ls es=>?_⟩;have H3:=H2.keep g3;walk_at "wq";simp only[bF];refine⟨_,H3.h,rfl,Hd (k+2) M3 H3 fun jg M4 g4 lg eg=>?_⟩;walk_at "wq";refine⟨by decide,by decide,by decide,by decide,by decide,by decide,by decide,by decide,by decide,by decide,by decide,?_⟩;have g5:=Gr.app M4 [MO.lst [D.int t,.tup [.ob b1,.ob b2,.ob b3,.ob b4,.ob b5],.ob jl,.ob js,.ob jg]];have e5:=aj M4 (MO.lst [D.int t,.tup [.ob b1,.ob b2,.ob b3,.ob b4,.ob b5],.ob jl,.ob js,.ob jg]);generalize M4++[MO.lst [D.int t,.tup [.ob b1,.ob b2,.ob b3,.ob b4,.ob b5],.ob jl,.ob js,.ob jg]]=M5 at g5 e5 ⊢;have h0:=Gr.app M5 [MO.lst []];have c0:=aj M5 (MO.lst []);generalize M5++[MO.lst []]=N0 at h0 c0 ⊢;have h1:=Gr.app N0 [MO.lst []];have c1:=aj N0 (MO.lst []);generalize N0++[MO.lst []]=N1 at h1 c1 ⊢;have h2:=Gr.app N1 [MO.lst []];have c2:=aj N1 (MO.lst []);generalize N1++[MO.lst []]=N2 at h2 c2 ⊢;have h3:=Gr.app N2 [MO.lst []];have c3:=aj N2 (MO.lst []);generalize N2++[MO.lst []]=N3 at h3 c3 ⊢;have h4:=Gr.app N3 [MO.lst []];have c4:=aj N3 (MO.lst []);generalize N3++[MO.lst []]=N4 at h4 c4 ⊢;have h5:=Gr.app N4 [MO.lst []];have c5:=aj N4 (MO.lst []);generalize N4++[MO.lst []]=N5 at h5 c5 ⊢;have h6:=Gr.app N5 [MO.lst []];have c6:=aj N5 (MO.lst []);generalize N5++[MO.lst []]=N6 at h6 c6 ⊢;have h7:=Gr.app N6 [MO.lst []];have c7:=aj N6 (MO.lst []);generalize N6++[MO.lst []]=N7 at h7 c7 ⊢;have h8:=Gr.app N7 [MO.lst [D.int t,.tup [.ob M5.length,.ob N0.length,.ob N1.length,.ob N2.length,.ob N3.length],.ob N4.length,.ob N5.length,.ob N6.length]];have c8:=aj N7 (MO.lst [D.int t,.tup [.ob M5.length,.ob N0.length,.ob N1.length,.ob N2.length,.ob N3.length],.ob N4.length,.ob N5.length,.ob N6.length]);generalize N7++[MO.lst [D.int t,.tup [.ob M5.length,.ob N0.length,.ob N1.length,.ob N2.length,.ob N3.length],.ob N4.length,.ob N5.length,.ob N6.length]]=N8 at h8 c8 ⊢;have k7:=h8;have k6:=h7.trans k7;have k5:=h6.trans k6;have k4:=h5.trans k5;have k3:=h4.trans k4;have k2:=h3.trans k3;have k1:=h2.trans k2;have k0:=h1.trans k1;have kk:=h0.trans k0;have gA:=((g1.trans g2).trans (g3.trans g4)).trans (g5.trans kk);have gB:=(g2.trans (g3.trans g4)).trans (g5.trans kk);have gC:=(g3.trans g4).trans (g5.trans kk);have gD:=g4.trans (g5.trans kk);have gE:=g5.trans kk;have r1:=uK (R1.keep gB) (gC.keep _ _ el) (gD.keep _ _ es) (gE.keep _ _ eg) (kk.keep _ _ e5);have r2:=uK ⟨k0.keep _ _ c0,k1.keep _ _ c1,k2.keep _ _ c2,k3.keep _ _ c3,k4.keep _ _ c4⟩ (k5.keep _ _ c5) (k6.keep _ _ c6) (k7.keep _ _ c7) c8;refine qw 4 k N8 _ _ _ _ r1 r2 fun M6 g6=>?_;clear r1 r2;have R6:=R1.keep (gB.trans g6);have Q3:=(gC.trans g6).keep _ _ el;have Q2:=(gD.trans g6).keep _ _ es;have Q4:=(gE.trans g6).keep _ _ eg;have e6:=(kk.trans g6).keep _ _ e5;have gF:=gA.trans g6;have lH:=g1.len;have Vn:=g2.len;have Vm:=g3.len;have Qs:=g4.len;have m4:=aP eg;have m3:=aP es;have m2:=aP el;have m1:=aP R1.e5;generalize VY:M4.length=j5 at e6 m4 Qs ⊢;clear gA gB gC gD gE kk k0 k1 k2 k3 k4 k5 k6 k7 h0 h1 h2 h3 h4 h5 h6 h7 h8 c0 c1 c2 c3 c4 c5 c6 c7 c8 e5 g5 g6;walk_at "wq";refine⟨_,e6,?_⟩;walk_at "wq";have g7:=Gr.app M6 [MO.lst [D.ob b1,.ob b2,.ob b3,.ob b4,.ob b5]];have e7:=aj M6 (MO.lst [D.ob b1,.ob b2,.ob b3,.ob b4,.ob b5]);generalize M6++[MO.lst [D.ob b1,.ob b2,.ob b3,.ob b4,.ob b5]]=M7 at g7 e7 ⊢;refine⟨_,g7.keep _ _ e6,?_⟩;walk_at "wq";have ec:cutD [D.int t,.tup [.ob b1,.ob b2,.ob b3,.ob b4,.ob b5],.ob jl,.ob js,.ob jg] (some 2) none=[.ob jl,.ob js,.ob jg]:=rfl
 rw[ec];have g8:=Gr.app M7 [MO.lst [D.ob jl,.ob js,.ob jg]];have e8:=aj M7 (MO.lst [D.ob jl,.ob js,.ob jg]);generalize M7++[MO.lst [D.ob jl,.ob js,.ob jg]]=M8 at g8 e8 ⊢;refine⟨_,g8.keep _ _ e7,_,e8,by show 8<=zq;walk_at "o",?_⟩;have g9:=Gr.app M8 [MO.lst ([D.ob b1,.ob b2,.ob b3,.ob b4,.ob b5]++[D.ob jl,.ob js,.ob jg])];have e9:=aj M8 (MO.lst ([D.ob b1,.ob b2,.ob b3,.ob b4,.ob b5]++[D.ob jl,.ob js,.ob jg]));have l9:=aP e6;have l9':=g7.len;have l9'':=g8.len;generalize M8++[MO.lst ([D.ob b1,.ob b2,.ob b3,.ob b4,.ob b5]++[D.ob jl,.ob js,.ob jg])]=M9 at g9 e9 ⊢;refine⟨_,e9,?_⟩;have gG:=(g7.trans g8).trans g9;have R9:=R6.keep gG;have pk:=fun F hb q=>Mu (srt:=srt) (k+4) M M9 [b1,b2,b3,b4,b5,jl,js,jg] M8.length e9 hb (gF.trans gG) (zH rfl) (o0:=some (.ob jH)) (o1:=some (.int t)) (o2:=some (.ob jo)) (o3:=some (.ob jT)) (o4:=some (.ob j5)) (x5:=none) (o6:=none) (o7:=none) (o8:=none) (o9:=none) (F:=F) q;refine pk _ (fun b hb=>?_) fun Ma x5 ga=>?_
 ·simp only[zi,zB,or_false]at hb
  rcases hb with rfl|rfl|rfl|rfl|rfl|rfl|rfl|rfl
  ·exact⟨by walk_at "o",by walk_at "o",R9.e1⟩
  ·exact⟨by walk_at "o",by walk_at "o",R9.e2⟩
  ·exact⟨by walk_at "o",by walk_at "o",R9.e3⟩
  ·exact⟨by walk_at "o",by walk_at "o",R9.e4⟩
  ·exact⟨by walk_at "o",by walk_at "o",R9.e5⟩
  ·exact⟨by walk_at "o",by walk_at "o",gG.keep _ _ Q3⟩
  ·exact⟨by walk_at "o",by walk_at "o",gG.keep _ _ Q2⟩
  ·exact⟨by walk_at "o",by walk_at "o",gG.keep _ _ Q4⟩
 clear pk R9 gG e9 g9 g8 g7 e8 e7 l9 l9' l9'' ec e6 m1 m2 m3 m4 lH Vn Vm Qs gF Q4 Q2 Q3 R6 g4 g3 g2 g1 H3 H2 H1 eg es el R1 l1 l2 l3 l4 l5 ll ls lg VY;walk_at "wq";refine⟨_,ga.keep _ _ ho,?_⟩;refine JQ (fun n ρ M'=>Gr M M'/\∃x5 x6 x7 x8,ρ=[some (.ob jH),some (.int t),some (.ob jo),some (.ob jT),some (.ob j5),x5,x6,x7,x8,none]) ⟨ga,_,_,_,_,rfl⟩ (fun _ _ _ z=>z.1.keep _ _ ho) ?_ ?_
 ·rintro n d ρ Mb hd ⟨gb,x5,x6,x7,x8,rfl⟩
  rw[zA]at hd;obtain⟨r,hr,rfl⟩:=zv.mp hd;have i5:=zF hr;refine⟨_,_,rfl,?_⟩;walk_at "wq";refine⟨_,gb.keep _ _ hT,?_⟩;refine dU (fun n ρ M'=>Gr M M'/\∃x8,ρ=[some (.ob jH),some (.int t),some (.ob jo),some (.ob jT),some (.ob j5),x5,some (.str r.name),some r.rd,x8,none]) ⟨gb,_,rfl⟩ (fun _ _ _ z=>z.1.keep _ _ hT) ?_ ?_
  ·rintro m d ρ Mc hd ⟨gc,x8,rfl⟩
   rw[zA]at hd;obtain⟨tt,_,rfl⟩:=zv.mp hd;have Hc:=H.keep gc;walk_at "wq";simp only[bF];refine⟨_,Hc.h,rfl,GI k Mc Hc K r.name (E6 K.nd i5) tt fun Md gd=>?_⟩;walk_at "wq";refine⟨by decide,by decide,?_⟩;have s1:=Gr.app Md [MO.lst []];have n1:=aj Md (MO.lst []);generalize Md++[MO.lst []]=Me at s1 n1 ⊢;have s2:=Gr.app Me [MO.lst []];have n2:=aj Me (MO.lst []);generalize Me++[MO.lst []]=Mf at s2 n2 ⊢;refine RL (k+3) Mf (K.ok r i5).rota Md.length Me.length [] [] tt (zZ _) (s2.keep _ _ n1) n2 (K.Qt i5 tt) fun Mg gg=>?_;obtain⟨pp,hp⟩:=L8 (M:=Mg) (Fy r [] [] tt);have IZ:=hp;rw[Fx K i5]at IZ;walk_at "wq";refine qw 1 (k+3) Mg _ _ pp _ hp IZ fun Mh gh=>?_;walk_at "wq";exact⟨(gc.trans gd).trans ((s1.trans s2).trans (gg.trans gh)),_,rfl⟩
  ·rintro ρ Mc ⟨gc,x8,rfl⟩
   walk_at "wq";exact⟨gc,_,_,_,_,rfl⟩
 ·rintro ρ Mb ⟨gb,y5,x6,x7,x8,rfl⟩
  walk_at "wq";refine⟨⟨by decide,by decide,by decide⟩,by decide,_,aj _ _,?_⟩;have gn:=Gr.app Mb [MO.lst [D.int 0,.int 1,.int (10 ^ Int.toNat 9)]];have nn:=aj Mb (MO.lst [D.int 0,.int 1,.int (10 ^ Int.toNat 9)]);generalize (10:Int) ^ Int.toNat 9=SD at gn nn ⊢;generalize Mb++[MO.lst [D.int 0,.int 1,.int SD]]=Mc at gn nn ⊢;refine dU (fun n ρ M'=>M'=Mc/\∃x9,ρ=[some (.ob jH),some (.int t),some (.ob jo),some (.ob jT),some (.ob j5),y5,x6,x7,x8,x9]) ⟨rfl,_,rfl⟩ (fun _ _ _ z=>by rw[z.1];exact nn) ?_ ?_
  ·rintro n d ρ Md hd ⟨rfl,x9,rfl⟩
   have hm:=zF hd;obtain⟨i,rfl⟩:∃i:Int,d=.int i:=by
    simp only[zi,zB,or_false]at hm;rcases hm with rfl|rfl|rfl
    ·exact⟨_,rfl⟩
    ·exact⟨_,rfl⟩
    ·exact⟨_,rfl⟩
   have g:=gb.trans gn;walk_at "wq";refine⟨_,g.keep _ _ ho,?_⟩;walk_at "wq";refine⟨gJ r0,dI (j:=0) (by rw[zA,IX];rfl),?_⟩;unfold gJ;walk_at "wq";have lz:("zz":Str).length=2:=rfl;refine⟨by rw[lz];walk_at "o",?_⟩;refine⟨_,Ek k Md (H.keep g) i _ (fun r hr z=>?_) _,?_⟩
   ·have:=up r hr
    rw[z,gY,lz]at this;walk_at "o"
   ·walk_at "wq"
    exact⟨_,rfl⟩
  ·rintro ρ Md ⟨rfl,x9,rfl⟩
   walk_at "wq";exact q _ (gb.trans gn)
end
end Law
namespace Law
open PySem L3
section
variable {srt:Nat}
theorem Ge(M:MH){jH:Nat}{aD:List Ro}{tr tp:D}{jr ju a1 a2 a3 a4 a5 j6 j7:Nat}(H:dv M srt jH aD tr jr ju tp 0 a1 a2 a3 a4 a5 j6 j7)(K:k9 aD [] [])(r0:Ro)(IX:aD[0]?=some r0)(up:∀r∈aD,r.name.length<=r0.name.length+1)(sz:r0.name.length<=20)(jo jT:Nat)(ho:M[jo]?=some (.lst (aD.map gJ)))(ts:List Int)(hT:M[jT]?=some (.lst (ts.map .int)))
  (ds:List Int) (jd:Nat) (hd:M[jd]?=some (.lst (ds.map .int))) (h0:∀x∈ds,0<=x) {x0 x1 x2 x3 x5 x7:Option D} :
  W (dB (some (jd,ds.map .int)) 10 (au (cx srt 19) (.cons (.ifS (.not (.tru (.call ("_law_first":Str) (.cons (.var 8) (.cons (.var 9) (.cons (.var 4) (.cons (.var 6) .nil))))))) (.cons (.ret (.cbl false))
  .nil) .nil)
  (.cons (.set 9 (.bin .Add (.var 9) (.var 10)))
  (.cons (.ifS (.cmp (.cmp .IsNot (.mcl (.var 8) ("until":Str) (.cons (.var 9) .nil)) .cnon)) (.cons (.ret (.cbl false))
  .nil) .nil)
  .nil)))) (ds.map .int) [x0,x1,x2,x3,some (.ob jo),x5,some (.ob jT),x7,some (.ob jH),some (.int 0),none]) M
  (tZ (cx srt 19) (.cons (.ret (.call ("_law_first":Str) (.cons (.var 8) (.cons (.var 9) (.cons (.var 4) (.cons (.var 6) .nil))))))
  .nil) (uN fun d _=>d=.bl true)):=by
 have nH:=de H.h ho;have nT:=de H.h hT;have nd:=de H.h hd;refine dU (fun n ρ M'=>∃j7 t jV,dv M' srt jH aD tr jr ju tp t a1 a2 a3 a4 a5 j6 j7/\Gx jH M M'/\ρ=[x0,x1,x2,x3,some (.ob jo),x5,some (.ob jT),x7,some (.ob jH),some (.int t),jV])
  ⟨_,_,_,H,Gx.refl,rfl⟩ (fun _ _ _ ⟨_,_,_,_,g,_⟩=>g.get nd hd) ?_ ?_
 ·rintro n d ρ M1 QJ ⟨j7,t,jV,H1,g1,rfl⟩
  rw[zA]at QJ;obtain⟨i,hi,rfl⟩:=zv.mp QJ;have i0:=h0 i (zF hi);walk_at "wq";refine AF 14 M1 H1 K r0 IX up sz jo jT (g1.get nH ho) ts (g1.get nT hT) fun M2 g2=>?_;have H2:=H1.keep g2;walk_at "wq";simp only[bF];refine⟨_,H2.h,rfl,JU 14 M2 H2 (t+i) (by walk_at "o") fun j7' M3 g3 H3=>?_⟩;walk_at "wq";exact⟨rfl,fun z=>(by cases z),fun _=>⟨_,_,_,H3,(g1.trans (.of g2)).trans g3,rfl⟩⟩
 ·rintro ρ M1 ⟨j7,t,jV,H1,g1,rfl⟩
  walk_at "wq";refine AF 14 M1 H1 K r0 IX up sz jo jT (g1.get nH ho) ts (g1.get nT hT) fun M2 g2=>?_;rfl
theorem Pp(sc:List Int):W ((cx srt 20).fn "law" [.fl (sc.map .int)]) [] fun d _=>d=.bl true:=by
 have big:=bG;rw[aS "law" 11 1 sj rfl,wf,sj];walk_at "wq";rw[pF _ (by decide)];have WC:(84:Int).toNat=84:=rfl;rw[WC,<- xo];refine⟨by decide,?_⟩;generalize bP:[MO.lst ((sc.take 84).map D.int),MO.lst [D.ob (List.length ([]:MH)),.int 0]]=M1;have T1:Tp M1 1:=⟨0,sc.take 84,0,by decide,by decide,by rw[zW];walk_at "o",by rw[<- bP];rfl,by rw[<- bP];rfl⟩;clear bP;have Na:=T1.lt;refine JO 16 M1 T1 fun jw jn jv jr jh ns vs rs hs M2 w x2 gw gn gv gr gh=>?_;walk_at "wq";refine L6 13 2 M2 (by decide) w fun tr M3 x3 T3=>?_;have w3:=w.go x3 T3;walk_at "wq";refine Ka 17 M3 w3 fun aD jo M4 hn ok x4 T4 go ho=>?_;have w4:=w3.go x4 T4;have l3:aD.length=3:=by
  have:=congrArg List.length hn
  rw[zl,w.lr]at this;exact this
 have n1:jo≠1:=by have:=T3.lt;walk_at "o"
 walk_at "wq";refine J9 15 M4 w4 fun us jx M5 lu x5 T5 gx hx=>?_;have w5:=w4.go x5 T5;have VM:=x5.get n1 ho;have nx:jx≠1:=by have:=T4.lt;walk_at "o"
 walk_at "wq";refine aY 18 M5 T5 _ (by decide) fun t1 M6 _ _ x6 T6=>?_;walk_at "wq";refine⟨⟨by decide,by decide,by decide⟩,?_⟩;have WD:((10:Int) ^ Int.toNat 12)=1000000000000:=by decide
 rw[WD];refine aY 18 M6 T6 _ (by decide) fun t2 M7 _ _ x7 T7=>?_;walk_at "wq";refine⟨by decide,?_⟩;have w7:=w5.go (x6.trans x7) T7;have Ay:=x7.get n1 (x6.get n1 VM);have VB:=x7.get nx (x6.get nx hx);have g8:=Gr.app M7 [MO.lst [D.int 0,.int t1,.int t2]];have e8:=aj M7 (MO.lst [D.int 0,.int t1,.int t2]);generalize M7++[MO.lst [D.int 0,.int t1,.int t2]]=M8 at g8 e8 ⊢;refine⟨_,g8.keep _ _ Ay,?_⟩;have g9:=Gr.app M8 [MO.lst (aD.map gJ)];have e9:=aj M8 (MO.lst (aD.map gJ));generalize M8++[MO.lst (aD.map gJ)]=M9 at g9 e9 ⊢;refine⟨_,g9.keep _ _ (g8.keep _ _ VB),by decide,?_⟩;have ga:=Gr.app M9 [MO.lst us];have ea:=aj M9 (MO.lst us);generalize M9++[MO.lst us]=Ma at ga ea ⊢;have gb:=Gr.app Ma [MO.lst [D.ob M8.length,.ob M9.length]];have eb:=aj Ma (MO.lst [D.ob M8.length,.ob M9.length]);generalize Ma++[MO.lst [D.ob M8.length,.ob M9.length]]=Mb at gb eb ⊢;have gA:=ga.trans gb;have QW:=g9.trans gA;have QX:=g8.trans QW;have WB:=QW.keep _ _ e8;have Oe:=gA.keep _ _ e9;have Od:=gb.keep _ _ ea;have wb:=w7.keep QX;have I0:=QX.keep _ _ Ay;refine⟨_,eb,?_⟩;walk_at "wq";refine⟨_,eb,?_⟩;walk_at "wq";refine⟨_,wb.w,?_⟩;walk_at "wq";refine⟨_,GU,?_⟩;have lh:=w.lh;obtain⟨h0,hr,rfl⟩:∃a l,hs=a::l:=by
  rcases hs with _|⟨a,l⟩
  ·simp at lh
  ·exact⟨_,_,rfl⟩
 have wh:=wb.h;rw[zK]at wh;walk_at "wq";refine⟨_,wh,?_⟩;walk_at "wq";simp only[bF];have gi:=Gr.app Mb [MO.ins srt []];have ei:=aj Mb (MO.ins srt []);generalize Mb++[MO.ins srt []]=Mc at gi ei ⊢;refine Nq 18 Mc tr (.str h0) M8.length M9.length ei (gi.keep _ _ Oe) (gi.keep _ _ Od) fun jr' ju' b1 b2 b3 b4 b5 b6 b7 Md xd H hy=>?_;have ni:=fun {j:Nat} {o:MO} (e:Mb[j]?=some o)=>(zC (aP e):j≠Mb.length);have kp:=fun {j:Nat} {o:MO} (e:Mb[j]?=some o)=>xd.get (ni e) (gi.keep _ _ e);walk_at "wq";have Td:Tp Md 1:=by
  obtain⟨jk,xs,i,c0,c1,c2,f1,f2⟩:=wb.T;exact⟨jk,xs,i,c0,c1,c2,kp f1,kp f2⟩
 have v7:=T7.lt;have v8:=g8.len;have v9:=g9.len;have va:=aP Oe;have vb:=aP Od;have vc:=gi.len;have v8':=aP e8;have v9':=aP e9;have Yz:=aP Ay;have va':=aP ea;have ed:=kp eb;refine⟨rfl,_,ed,?_⟩;walk_at "wq";refine⟨_,kp Oe,_,rfl,?_⟩;have kq:=fun {j:Nat} {o:MO} (hj:j≠M8.length) (e:Md[j]?=some o)=>((zd (Ne.symm hj)).trans e:(Md.set M8.length (MO.lst []))[j]?=some o);have H2:=H.lay (c:=M8.length) hy (by walk_at "o") (by walk_at "o") (MO.lst []);have T2:=Td.young (i:=M8.length) (by walk_at "o") (MO.lst []);refine⟨_,kq (by walk_at "o") ed,?_⟩;walk_at "wq";refine⟨_,kq (by walk_at "o") (kp Od),_,rfl,?_⟩;have ho':=kq (j:=jo) (by walk_at "o") (kp I0);have hT':=kq (j:=M7.length) (by walk_at "o") (kp WB);have sn:(D.non,([]:List D)).snd=[]:=rfl;rw[sn];generalize Md.set M8.length (MO.lst [])=Me at kq H2 T2 ho' hT' ⊢;have ks:=fun {j:Nat} {o:MO} (hj:j≠M9.length) (e:Me[j]?=some o)=>((zd (Ne.symm hj)).trans e:(Me.set M9.length (MO.lst []))[j]?=some o);have H3:=H2.lay (c:=M9.length) hy (by walk_at "o") (by walk_at "o") (MO.lst []);have T3':=T2.young (i:=M9.length) (by walk_at "o") (MO.lst []);have QB:=ks (j:=jo) (by walk_at "o") ho';have EW:=ks (j:=M7.length) (by walk_at "o") hT';generalize Me.set M9.length (MO.lst [])=Mf at ks H3 T3' QB EW ⊢;refine aY 18 Mf T3' _ (by decide) fun d1 Mg p1 _ xg Tg=>?_;walk_at "wq";refine⟨⟨by decide,by decide,by decide⟩,?_⟩;have Og:((10:Int) ^ Int.toNat 11)=100000000000:=by decide
 rw[Og];refine aY 18 Mg Tg _ (by decide) fun d2 Mh p2 _ xh Th=>?_;walk_at "wq";have xx:=xg.trans xh;have H4:=H3.gx hy (by walk_at "o") (by walk_at "o") xx;have gn:=Gr.app Mh [MO.lst [D.int 0,.int 0,.int d1,.int d2]];have nn:=aj Mh (MO.lst [D.int 0,.int 0,.int d1,.int d2]);generalize Mh++[MO.lst [D.int 0,.int 0,.int d1,.int d2]]=Mi at gn nn ⊢;obtain⟨r0,rr,rfl⟩:∃a l,aD=a::l:=by
  rcases aD with _|⟨a,l⟩
  ·simp at l3
  ·exact⟨_,_,rfl⟩
 have Qu:=w.up;have hrz:=w.rz;rw[<- hn]at Qu hrz;refine⟨by decide,_,nn,?_⟩;have fin:=Ge Mi (H4.keep gn) ⟨ok,by rw[hn];exact w.nd,by simp,by walk_at "o",zZ _,zZ _⟩ r0 rfl (fun r hr=>Qu _ (wv hr)) (hrz _ (wv zR)) jo M7.length (gn.keep _ _ (xx.get n1 QB)) [0,t1,t2] (gn.keep _ _ (xx.get (by walk_at "o") EW)) [0,0,d1,d2] Mh.length nn (by simp[p1,p2])
  (x0:=some (.fl (sc.map .int))) (x1:=some (.ob 1)) (x2:=some (.ob jw)) (x3:=some tr) (x5:=some (.ob jx)) (x7:=some (.ob Ma.length))
 exact fin
theorem Pq(ns:List Int)(_:ns.length<=63):∃M',(cx srt 20).fn "law" [.fl (ns.map .int)] []=some (.ok (.bl true),M'):=by
 obtain⟨a,M',e,rfl⟩:=Pp (srt:=srt) ns;exact⟨M',e⟩
end
end Law
namespace Law
open PySem PySem.Spec PySem.Calls PyProof.Rows L2 L3
noncomputable def cu(j:Nat):Stmt:=(match top 62 with
 |.ClassDef _ _ _ b _ _ _ _ _ _ _=>b
 |_=>[]).getD j (.Pass ⟨0,0,0,0⟩)
noncomputable def NW:List Str:=[]
noncomputable def JA:List Str:=["ValueError","all","any","bool","int","isinstance","len","list","max","min","range","reversed","set","sorted","str","tuple","zip"]
noncomputable def sd:Ent:=EE id (top 78) ["_law_tape","_law_world_here","_law_tree","_law_rotas_here","_law_rules_here","_law_asked","_law_handed","_law_house","_law_turn","_law_more"] sj
noncomputable def es:List Ent:=[EE id (top 2) ["hands"] jC,EE id (top 3) ["found","swap"] jD,EE id (top 4) [] jI,EE id (top 5) ["hands","at","hand"] jJ,EE id (top 7) ["pair"] dH,EE id (top 8) ["own_swaps"] jK,EE id (top 27) [] u3,EE id (top 28) [] pM,EE id (top 39) ["standing","forcing","numbers","saying","group"] jF,EE id (top 48) ["states_of","state","following","calls","group","row"] k8,EE id (top 50) ["turns","saying","quieting"] eO,EE id (top 51) ["coming"] hY,EE id (top 53) ["answered"] gp,EE id (top 54) ["hand"] pN,EE id (top 55) ["edges","found","entries","there","turn","told"] iJ,EE id (top 57) [] fk,EE id (top 59) [] iK,EE id (top 60) ["saying"] dE,EE id (top 64) ["_law_at"] hZ,EE id (top 65) ["_law_word","_law_at","_law_last","_law_more"] gu,EE id (top 66) ["_law_letters","_law_world_here","_law_some"] gq,EE id (top 67) ["_law_name","_law_kind","_law_first_here","_law_values"] fm,EE id (top 68) [] eQ,EE id (top 69) [] gI,EE id (top 70) ["_law_some","_law_by","_law_chain","_law_rows","_law_on_here","_law_counts"] eP,EE id (top 71) ["_law_rotas_here","_law_name","_law_first_here","_law_some","_law_hands","_law_long"] gz,EE id (top 72) ["_law_rules_here","_law_k","_law_names"] gy,EE id (top 73) [] bw,EE id (top 74) ["_law_hands","_law_at","_law_hand","_law_one","_law_other","_law_first_here","_law_last","_law_k"] jM,EE id (top 77) ["_law_found","_law_some","_law_name","_law_rota","_law_one","_law_number"] gH,sd]
noncomputable def ms:List Ent:=[EE av (cu 0) [] dR,EE av (cu 8) [] fq,EE av (cu 9) [] ia,EE av (cu 10) [] eu,EE av (cu 11) [] ib,EE av (cu 12) [] cV,EE av (cu 13) [] eR,EE av (cu 14) ["saying"] eV,EE av (cu 15) [] dn,EE av (cu 16) ["found"] bU,EE av (cu 17) ["records"] cU,EE av (cu 18) [] ft]
theorem Lq:tabOf (es++ms)=tab:=by kernel_rfl
theorem Iu:sd.x = "law":=by kernel_rfl
theorem Ql:(es++ms).all qI=true:=by kernel_rfl
theorem U8:(es++ms).map (fun e=>dM ⟨aq e.st,e.N,es.map (·.x),NW,JA⟩ 200 (aM e.st))=(es++ms).map fun e=>some e.b:=by kernel_rfl
theorem U4:(es++ms).map (fun e=>(tabOf (es++ms)).lookup e.x)=(es++ms).map fun e=>some ⟨e.N.length,e.ps.length,e.b⟩:=by kernel_rfl
noncomputable def L7:List DefRec:=([0,2,3,4,5,7,8,9,21,22,24,25,27,28,29,30,31,33,34,35,36,37,39,41,42,43,44,45,46,47,48,50,51,52,53,54,55,57,58,59,60,61,64,65,66,67,68,69,70,71,72,73,74,75,76,77,78]:List Nat).map fun i=>nE (q9 (top i)) (top i)
noncomputable def cg:List (Str×Stmt):=ms.map fun e=>(q9 e.st,e.st)
noncomputable def WK(i:Nat):Pos:=([⟨419,4,419,13⟩,⟨419,17,419,27⟩,⟨419,28,419,34⟩,⟨419,36,419,40⟩,⟨419,17,419,41⟩,⟨419,43,419,53⟩,⟨419,54,419,60⟩,⟨419,62,419,67⟩,⟨419,43,419,68⟩,⟨419,70,419,80⟩,⟨419,81,419,87⟩,⟨419,89,419,96⟩,⟨419,70,419,97⟩,⟨419,99,419,109⟩,⟨419,110,419,116⟩,⟨419,118,419,127⟩,⟨419,99,419,128⟩,⟨419,16,419,129⟩,⟨419,4,419,129⟩,⟨420,4,420,13⟩,⟨420,4,420,20⟩,⟨420,21,420,31⟩,⟨420,32,420,38⟩,⟨420,41,420,48⟩,⟨420,50,420,57⟩,⟨420,59,420,66⟩,⟨420,68,420,75⟩,⟨420,40,420,76⟩,⟨420,21,420,77⟩,⟨420,4,420,78⟩,⟨420,4,420,78⟩,⟨421,4,421,13⟩,⟨421,4,421,20⟩,⟨421,25,421,35⟩,⟨421,36,421,42⟩,⟨421,44,421,54⟩,⟨421,25,421,55⟩,⟨421,21,421,55⟩,⟨421,4,421,56⟩,⟨421,4,421,56⟩,⟨422,4,422,19⟩,⟨422,23,422,29⟩,⟨422,31,422,38⟩,⟨422,40,422,49⟩,⟨422,51,422,60⟩,⟨422,62,422,69⟩,⟨422,71,422,77⟩,⟨422,22,422,78⟩,⟨422,4,422,78⟩,⟨423,12,423,27⟩,⟨423,28,423,34⟩,⟨423,12,423,35⟩,⟨423,40,423,46⟩,⟨423,50,423,55⟩,⟨423,56,423,57⟩,⟨423,50,423,58⟩,⟨423,62,423,71⟩,⟨423,72,423,78⟩,⟨423,62,423,79⟩,⟨423,11,423,80⟩,⟨423,4,423,80⟩]:List Pos).getD i ⟨0,0,0,0⟩
noncomputable def Q7:Scope:=match (aM (top 75)).getD 4 (.Pass ⟨0,0,0,0⟩) with
 |.Return (some (.ListComp _ _ sc _)) _=>sc
 |_=>aq (top 75)
theorem K6:aM (top 75)=pH WK Q7:=by kernel_rfl
theorem PN:Dk (aq (top 75)) Q7:=⟨by decide +kernel,by decide +kernel,by decide +kernel,by decide +kernel,by decide +kernel⟩
theorem PQ:cq lD ["_law_e"] (aq (top 75)):=⟨rfl,rfl,rfl,by decide +kernel,rfl,by decide +kernel,by decide +kernel⟩
noncomputable def PZ(i:Nat):Pos:=([⟨425,4,425,19⟩,⟨425,22,425,24⟩,⟨425,4,425,24⟩,⟨427,8,427,18⟩,⟨427,8,427,28⟩,⟨427,8,427,41⟩,⟨427,8,427,41⟩,⟨428,11,428,21⟩,⟨429,8,429,23⟩,⟨429,26,429,38⟩,⟨429,39,429,45⟩,⟨429,26,429,46⟩,⟨429,8,429,46⟩,⟨428,4,429,46⟩,⟨426,4,429,46⟩,⟨427,29,427,40⟩,⟨430,4,430,13⟩,⟨430,16,430,18⟩,⟨430,4,430,18⟩,⟨432,8,432,18⟩,⟨432,8,432,26⟩,⟨432,8,432,48⟩,⟨432,8,432,48⟩,⟨433,11,433,21⟩,⟨434,8,434,17⟩,⟨434,20,434,32⟩,⟨434,33,434,39⟩,⟨434,20,434,40⟩,⟨434,8,434,40⟩,⟨433,4,434,40⟩,⟨431,4,434,40⟩,⟨432,27,432,36⟩,⟨432,38,432,47⟩,⟨435,11,435,26⟩,⟨435,31,435,40⟩,⟨435,30,435,41⟩,⟨435,11,435,41⟩,⟨435,46,435,55⟩,⟨435,60,435,69⟩,⟨435,59,435,70⟩,⟨435,46,435,70⟩,⟨435,11,435,70⟩,⟨435,4,435,70⟩]:List Pos).getD i ⟨0,0,0,0⟩
theorem JV:aM (top 76)=jY PZ:=by kernel_rfl
theorem OR:qy (aq (top 76)):=⟨by decide +kernel,by decide +kernel⟩
theorem OT:cq lp fu (aq (top 76)):=⟨rfl,rfl,rfl,by decide +kernel,rfl,by decide +kernel,by decide +kernel⟩
theorem OS:jX PZ:=⟨by decide,by decide⟩
theorem U5:([1,2,3,4,5,6,12,13,22,30,31,32,34,35,36,37,39,40,42,43,44,45,46,47,48,49,50,51,52,55,56]:List Nat).map (fun i=>L7[i]?)=es.map fun e=>some (nE e.x e.st):=by kernel_rfl
theorem gK:kU.all (fun m=>ms.any fun e=>e.x==av m&&q9 e.st==m&&true)=true:=by kernel_rfl
theorem U3:A0.all (fun m=>ms.any fun e=>e.x==av m&&q9 e.st==m&&eo 200 (aM e.st) e.b)=true:=by kernel_rfl
theorem U6:(["__init__"]:List Str).all (fun m=>ms.any fun e=>e.x==av m&&q9 e.st==m&&true)=true:=by kernel_rfl
theorem U7:es.any (fun e=>e.x=="standing_saying"&&eo 200 (aM e.st) e.b)=true:=by kernel_rfl
theorem all_mk{P q:Program}{w:World}{lo:List Str}{iX:ExcName->Option Value}{mg mb:Str->Option Value}{h:Heap}{fa:Addr}(T:Top q lo iX mg mb h)(Y:AK w h/\qA cg h)(Jg:mg "law" = some (.ref fa))(r:recsOf q=L7)(z:Jo q lo JA=true)
  : ∃(g:List D->Mo D) (fd:FuncData),(∀ns:List Int,ns.length<=63->∃M',g [.fl (ns.map .int)] []=some (.ok (.bl true),M'))/\(∀(s:Shared) (v:Value),BindsTo s fd ⟨[v],[]⟩ [("_law_script",v)])/\∀base:Heap,(aU h).In base->base.Ns mainGlobals mg->cf P w (aU h) mg base jP 40 fa fd ["_law_script"] (fC (aU h) 1 g):=by
 obtain⟨C,hC,cls,kJ,lV,mk,kp⟩:=KL T.g Y.2
 obtain⟨Cu,Dd,Z⟩:=JH T.g Y.1
 have sa:=wO.symm.trans Ql
 obtain⟨sE,sM⟩:=yI.mp sa
 have ok:∀e∈es++ms,Di (es.map (·.x)) NW JA (tabOf (es++ms)) e:=Ho Ql U8 U4
 have dm:∀m∈kU,∃e∈ms,oh (aU h) C m e:=fun m hm=>(nM lV sM gK m hm).imp fun _ x=>⟨x.1,x.2.1⟩
 have di:∃e∈ms,OA (aU h) mg C e:=by
  obtain⟨e,he,⟨hx,fa,fd,F,hm,B⟩,_⟩:=nM lV sM U6 _ zR
  have nm:av "__init__" = "House.__init__":=by decide
  exact⟨e,he,nm▸hx,fa,fd,nm▸F,⟨mk,hm.at_,hm.fn,kp⟩,hC,B⟩
 have zf:∃e∈es,e.x = "standing_saying"/\eo 200 (aM e.st) e.b=true:=by
  obtain⟨e,he,h⟩:=xr.mp U7
  simp only[zx,beq_iff_eq]at h
  exact⟨e,he,h⟩
 have R:nu (aU h) mg:=nu.Ee T r 53 rfl (fun _ _ _ _ _ _=>Qk fun _=>rfl) PQ K6 PN (by decide) (by decide) (mM T z _ (by decide +kernel)) (mM T z _ (by decide +kernel)) (mM T z _ (by decide +kernel))
 have rf:=Ln T r 54 rfl (fun _ _ _ _ _ _=>U0 fun _ _ _ _=>rfl) OT JV OR OS
 have A:HH (aU h) mg gl es ms NW JA C Cu Dd:=⟨ok,Hr T r sE _ U5,dm,di,(fun _ h9=>nomatch h9),mM T z,cls,kJ,Z,R,rf,nM lV sM U3,zf⟩
 obtain⟨fd,h1,h2⟩:=KH (P:=P) (w:=w) (srt:=Io) (n0:=1000) A (fun k=>LK (by cases k <;> rfl)) 20 (e:=sd) (by simp[es]) (x:="_law_script") (by kernel_rfl) (fun a b c d f g u=>Bi (zD.mp sE sd (by simp[es])) a b c d f g [u] (by kernel_rfl)) (Iu▸Jg)
 exact⟨_,fd,fun ns hn=>by rw[Iu,CN,Lq];exact Pq ns hn,h1,h2⟩
end Law
open PySem PySem.W PyProof.Rows
namespace Law
set_option maxRecDepth 100000 in
set_option maxHeartbeats 0 in
theorem U9(w:World):(fencedOpening treeTable PP w 20000).map (fun s₀=>(pY w s₀).map fun s₁=>Hook.obs (L3.fK Law.cg) s₁)=some (some (Hook.val (L3.fK Law.cg) w)):=by kernel_rfl
theorem lN{tb:String->Option Builtin}{p:Program}{w:World}{n₀:Nat}{ann:Option Value}(m:Nat){s':Shared}{t':Thread}:∀(n:Nat) (s:Shared) (t:Thread),goN tb p w n₀ ann n s t=some (s',t')->topRun tb p w n₀ ann (n+m) s t=topRun tb p w n₀ ann m s' t'
 |0,s,t,h=>by
  cases h;rw[Nat.zero_add]
 |n+1,s,t,h=>by
  rw[show n+1+m=(n+m)+1 by walk_at "o",topRun];rw[goN]at h;cases h1:through t with
  |true=>rw[h1]at h;cases h
  |false =>
   rw[h1]at h;cases h2:stepOk n₀ ann t with
   |false=>rw[h2]at h;cases h
   |true =>
    rw[h2]at h;dsimp only at h ⊢;cases h3:step (denote tb) p w s t with
    |go s1 t1 =>
     rw[h3]at h;exact lN m n s1 t1 h
    |halt o s1=>rw[h3]at h;cases h
theorem of_map{α β:Type}{o:Option α}{f:α->β}{x:β}{a:α}(ho:o=some a)(h:o.map f=some x):f a=x:=by
 subst ho;exact Option.some.inj h
theorem left:LeftO PP Law.vw [] XT (Hook.obs (L3.fK Law.cg)) (Hook.val (L3.fK Law.cg)) 20000:=fun w=>by
 have pc:=Mz w;have pd:=My w;have A:=Va w;cases hf:fencedOpening treeTable PP w 20000 with
 |none=>rw[hf]at A;cases A
 |some s₀ =>
  have pg:=of_map hf (pc.trans (by rw[hf];rfl:_=some (some (S w s₀,T w s₀))));have ph:=of_map hf (pd.trans (by rw[hf];rfl:_=some (some (S2 w s₀,T2 w s₀))));have A:=of_map hf A;have C:=of_map hf (U9 w);have B1:=of_map hf (RQ w);have B2:=of_map hf (RO w);have B3:=of_map hf (RN w);cases hr:pY w s₀ with
  |none=>rw[hr]at A;cases A
  |some s₁ =>
   have A:=of_map hr A;have C:=of_map hr C;have B1:=of_map hr B1;have B2:=of_map hr B2;have B3:=of_map hr B3;obtain⟨A1,A2⟩:=yI.mp A;have go:=(lN 16658 3342 s₀ (topStub PP) pg).trans (lN 15833 825 _ _ ph);unfold openEnds;rw[hf];show (topFrom treeTable PP w 20000 s₀).map _=_;unfold topFrom;rw[A1];dsimp only;have e:topRun treeTable PP w s₀.heap.objs.size (s₀.heap.nsMap mainGlobals "__annotations__") 20000 s₀ (topStub PP)=some s₁:=go.trans hr;rw[e];show ((match staticsOk (importedModules PP.main.body) s₀.heap s₁.heap&&namesBound PP s₁.heap&&gensDone s₁&&laidKept s₀.heap s₁.heap with
    |true=>some s₁
    |false=>none)).map _=_
   rw[A2];show some (sn s₁,Hook.obs (L3.fK Law.cg) s₁)=some (openGood Law.vw [],Hook.val (L3.fK Law.cg) w);rw[C];have es:sn s₁=openGood Law.vw []:=Prod.ext (Prod.mk.inj B1).1 (Prod.ext (Prod.mk.inj B1).2 (Prod.ext B2 B3));rw[es]
end Law
set_option maxRecDepth 100000 in
set_option maxHeartbeats 0 in
theorem Law.holds2:Law.tj.Holds:=by
 refine holds_law Law.Ga fun Ga=>?_;refine holds_open (q:=Law.vw) (loose:=[]) (Xt:=fun s=>xlAt Law.vw [] s&&recOk (RowW.records (OpenRow.toRowW Law.tj.row)) s) (XP:=XL Law.vw []) (Yf:=Hook.obs (L3.fK Law.cg)) (Ya:=Hook.val (L3.fK Law.cg)) (YP:=Hook.says (L3.fK Law.cg)) (N:=20000) Law.left (Hook.of (L3.fK Law.cg)) (Hook.keeps (L3.fK Law.cg))
  (fun s e=>xl_of s (yI.mp e).1) XL.keeps (by rfl) (by rfl) (by rfl) (fun s e=>recFacts_of (yI.mp e).2) (by rfl) Ga (by decide +kernel) ⟨rfl,rfl,rfl,rfl,rfl,by decide +kernel⟩ ?hw ?hc
 case hw=>w_witness2
 refine L3.OQ (l:=Law.tj) (x:="_law_script") (k:=40) ⟨rfl,by decide,by decide,rfl⟩ rfl rfl ?F
 case F =>
  intro w iX mg mb fa h T Y qV;exact Law.all_mk T Y qV (by kernel_rfl) (by kernel_rfl)
theorem PySem.Challenge.cw_belfry_k63_a_house_at_first_holds : PySem.Challenge.rw_belfry_k63_a_house_at_first.Holds := by
 exact Law.rw_eq ▸ Law.holds2
