import PyProof.Rows.All
import Wide.All
import OpenK.AllK
import Wide.FinOn
import Lean
import PyProof.EqAt
import PyProof.EqKinds
import PyProof.TupleCall
import PySem.Challenge.RW_holebook_k73_core_and_glue_rows
set_option linter.all false
set_option Elab.async false
set_option maxRecDepth 100000
set_option maxHeartbeats 4000000
noncomputable section
local macro_rules|`(tactic|omega)=>`(tactic|first|with_reducible assumption|with_reducible exact Nat.le_trans (by assumption) (Nat.le_of_ble_eq_true rfl)|with_reducible exact Nat.lt_of_lt_of_le (by assumption) (by assumption)|with_reducible exact Nat.le_of_lt (by assumption)|lia)
theorem O9m{p:Prop}(h:p:=by omega):p:=h
def qa0:=@List.getElem?_eq_getElem
def qa1:=@List.length_map
def qa2:=@List.getElem?_eq_some_iff
def qa3:=@List.getElem?_map
def qa4:=@List.getD_eq_getElem?_getD
def qa5:=@PySem.wpAny_bind
def qa6:=@List.map_append
def qa7:=@PySem.Heap.get?_push_of_some
def qa8:=@List.mem_of_getElem?
def qa9:=@Nat.le_refl
def qb0:=@PySem.Heap.lt_size
def qb1:=@Option.map_eq_some_iff
def qb2:=@PySem.wpAny_pure
def qb3:=@Nat.zero_le
def qb4:=@List.take_length
def qb5:=@List.length_take
def qb6:=@Option.some.inj
def qb7:=@List.mem_cons
def qb8:=@List.length_append
def qb9:=@Int.toNat_natCast
def qc0:=@PySem.Heap.get?_push_size
def qc1:=@List.mem_cons_of_mem
def qc2:=@Bool.false_ne_true
def qc3:=@PySem.PassesOwn.never
def qc4:=@List.size_toArray
def qc5:=@PySem.F.plainAttrs_list
def qc6:=@List.getElem?_of_mem
def qc7:=@Nat.ne_of_lt
def qc8:=@List.getElem_mem
def qc9:=@Bool.and_eq_true
def qd0:=@Nat.lt_of_lt_of_le
def qd1:=@List.mem_singleton
def qd2:=@List.all_eq_true
def qd3:=@PySem.F.type_list_append
def qd4:=@PySem.F.slot_list_append
def qd5:=@List.mem_append
def qd6:=@List.take_succ
def qd7:=@List.mem_range
def qd8:=@PySem.F.plainAttrs_str
def qd9:=@List.mem_cons_self
def qe0:=@PySem.boot_len
def qe1:=@Nat.le_trans
def qe2:=@List.mem_map
def qe3:=@List.length_cons
def qe4:=@of_decide_eq_true
def qe5:=@decide_eq_false
def qe6:=@List.getElem?_eq_none
def qe7:=@Nat.ne_of_gt
def qe8:=@List.not_mem_nil
def qe9:=@decide_eq_true
def qf0:=@List.map_cons
def qf1:=@List.mem_append_right
def qf2:=@List.take_of_length_le
def qf3:=@List.mem_of_mem_take
def qf4:=@PyProof.Rows.callWith_type1
def qf5:=@List.filter_nil
def qf6:=@PySem.wpAny_field
def qf7:=@List.getElem?_zip_eq_some
def qf8:=@List.getElem?_append_left
def qf9:=@Nat.lt_of_le_of_lt
def qg0:=@PySem.F.type_str_join
def qg1:=@PySem.F.slot_str_join
def qg2:=@List.of_mem_zip
def qg3:=@List.filter_cons_of_neg
def qg4:=@Int.eq_ofNat_of_zero_le
def qg5:=@List.take_add_one
def qg6:=@List.map_map
def qg7:=@List.filter_cons_of_pos
def qg8:=@Int.emod_lt_of_pos
def qg9:=@List.length_range
def qh0:=@PySem.W.mg_none_of
def qh1:=@List.length_nil
def qh2:=@Bool.eq_iff_iff
def qh3:=@PySem.wpAny_seqItems
def qh4:=@List.length_drop
def qh5:=@decide_eq_true_eq
def qh6:=@List.replicate_succ
def qh7:=@List.append_nil
def qh8:=@PySem.Heap.size_push
def qh9:=@PySem.wpAny_truthy_bool
def qi0:=@List.length_replicate
def qi1:=@List.length_filter_le
def qi2:=@List.findIdx?_eq_some_iff_getElem
def qi3:=@List.filter_append
def qi4:=@List.any_cons
def qi5:=@Bool.false_eq_true
def qi6:=@PySem.Heap.get?_update_other
def qi7:=@PySem.wpAny_mono
def qi8:=@PySem.wpAny_holding
def qi9:=@List.range_succ
def qj0:=@List.mem_filter
def qj1:=@List.getElem?_take_of_lt
def qj2:=@Int.emod_nonneg
def qj3:=@PySem.Heap.get?_update_self
def qj4:=@beq_eq_false_iff_ne
def qj5:=@List.map_congr_left
def qj6:=@PySem.wpAny_newObj_type
def qj7:=@Nat.le_add_right
def qj8:=@List.take_append_of_le_length
def qj9:=@PySem.F.slot_zip_next
def qk0:=@PySem.F.type_str_split
def qk1:=@PySem.F.slot_str_split
def qk2:=@PySem.wpAny_call_entry
def qk3:=@PySem.W.kia_one
def qk4:=@Nat.le_of_lt
def qk5:=@List.length_singleton
def qk6:=@List.pairwise_map
def qk7:=@List.ext_getElem?
def qk8:=@PySem.wpAny_setField_rec
def qk9:=@List.getElem?_append_right
def ql0:=@List.replicate_succ'
def ql1:=@List.mem_append_left
def ql2:=@PySem.wpAny_passesOwn
def ql3:=@PySem.mem_of_lookup
def ql4:=@List.getElem?_range
def ql5:=@List.map_nil
def ql6:=@PySem.F.slot_tuple_iterator_next
def ql7:=@PySem.F.slot_list_index
def ql8:=@Nat.lt_irrefl
def ql9:=@List.map_take
def qm0:=@List.getElem?_cons_zero
def qm1:=@List.find?_cons
def qm2:=@Bool.or_eq_true
def qm3:=@List.flatten_cons
def qm4:=@PyProof.Rows.TI.same
def qm5:=@List.nodup_cons
def qm6:=@List.forIn_cons
def qm7:=@Array.length_toList
def qm8:=@PySem.Around.under_plainId
def qm9:=@PySem.F.plain_extend_loop
def qn0:=@List.drop_zero
def qn1:=@PySem.F.args_tuple_add_2
def qn2:=@List.append_assoc
def qn3:=@PySem.F.type_list_index
def qn4:=@PySem.F.entry_tuple_add
def qn5:=@List.length_eq_zero_iff
def qn6:=@List.getElem?_cons_succ
def qn7:=@Bool.or_false
def qn8:=@PySem.wpAny_Call_Name_kw
def qn9:=@List.lookup_cons
def qo0:=@List.getElem_inj
def qo1:=@List.countP_cons
def qo2:=@PySem.Calls.spliced_cons
def qo3:=@PySem.W.mg_of
def qo4:=@PySem.Str.cps_append
def qo5:=@PySem.F.slot_tuple_add
def qo6:=@Option.map_some
def qo7:=@List.length_filter_lt_length_iff_exists
def qo8:=@PySem.F.args_zip_next_1
def qo9:=@PySem.Calls.spliced_nil
def qp0:=@List.getElem?_append
def qp1:=@List.forIn_nil
def qp2:=@PySem.F.entry_zip_next
def qp3:=@PySem.W.plainGet_of
def qp4:=@Nat.le_succ
def qp5:=@List.take_succ_cons
def qp6:=@List.filterMap_cons
def qp7:=@PySem.Calls.callWith_builtin
def qp8:=@Array.toList_append
def qp9:=@PySem.wpAny_updateSeq
def qq0:=@PySem.wpAny_specialOf
def qq1:=@PySem.wpAny_execs_nil
def qq2:=@decide_eq_true_iff
def qq3:=@List.map_drop
def qq4:=@List.getElem?_take
def qq5:=@List.getElem?_drop
def qq6:=@Bool.false_or
def qq7:=@List.findIdx_lt_length_of_exists
def qq8:=@beq_iff_eq
def qq9:=@PyProof.Rows.slot_tuple_getitem
def qr0:=@Option.isSome_map
def qr1:=@List.filter_congr
def qr2:=@PySem.Calls.evalArgs_plain
def qr3:=@Nat.lt_trans
def qr4:=@Int.le_of_lt
open PySem in
noncomputable abbrev LLInt:=List (List Int)
open PySem in
noncomputable abbrev Ba:=List (Addr × Obj)
open PySem in
noncomputable abbrev Vx:=Array (Option Value)
open PySem in
noncomputable abbrev OAddr:=Option Addr
namespace L2
open PySem PySem.Spec PyProof.Rows
noncomputable abbrev Key:=Sum Int Str
noncomputable def U5:Key->Value->Bool
 | .inl k,v=>Value.isInt k v
 | .inr x,v=>Value.isStrOf x v
noncomputable def qU(w:World):Key->Int
 | .inl k=>hashInt k
 | .inr x=>hashStr w x
theorem C7:∀{k:Key}{v:Value},U5 k v=true->(∃i t,k=Sum.inl i/\v=Value.int i t)\/(∃x t,k=Sum.inr x/\v=Value.str x t)
 | .inl i,v,h=>by
   obtain⟨t,e⟩:=Value.isInt_shape (k:=i) (v:=v) h;exact .inl ⟨i,t,rfl,e⟩
 | .inr x,v,h=>by
   obtain⟨t,e⟩:=Value.isStrOf_shape (x:=x) (v:=v) h;exact .inr ⟨x,t,rfl,e⟩
theorem bJ(i:Int)(t:Tok):U5 (.inl i) (.int i t)=true:=by simp[U5,Value.isInt]
theorem BI(x:Str)(t:Tok):U5 (.inr x) (.str x t)=true:=by simp[U5,Value.isStrOf]
theorem KQ(a b:Int):decide ((Sum.inl a:Key)=Sum.inl b)=(a==b):=by
 by_cases e:a=b
 . subst e;simp
 . have h:¬(Sum.inl a:Key)=Sum.inl b:=fun q=>e (Sum.inl.inj q);rw[qe5 h];exact(qj4.mpr e).symm
theorem kP(a b:Str):decide ((Sum.inr a:Key)=Sum.inr b)=decide (a=b):=by
 by_cases e:a=b
 . subst e;simp
 . have h:¬(Sum.inr a:Key)=Sum.inr b:=fun q=>e (Sum.inr.inj q);rw[qe5 h,qe5 e]
theorem kQ(a:Int)(b:Str):decide ((Sum.inl a:Key)=Sum.inr b)=false:=qe5 (fun q=>nomatch q)
theorem KP(a:Str)(b:Int):decide ((Sum.inr a:Key)=Sum.inl b)=false:=qe5 (fun q=>nomatch q)
noncomputable def mixKind(prog:Program)(w:World):PySem.KeyKind prog w Key where
 is:=U5
 hash:=qU w
 inj:=fun v a b ha hb=>by
  rcases C7 ha with⟨i,t,rfl,rfl⟩|⟨x,t,rfl,rfl⟩
  . rcases C7 hb with⟨j,u,rfl,e⟩|⟨y,u,rfl,e⟩
    . injection e with e1 _;rw[e1]
    . exact nomatch e
  . rcases C7 hb with⟨j,u,rfl,e⟩|⟨y,u,rfl,e⟩
    . exact nomatch e
    . injection e with e1 _;rw[e1]
 byValue:=fun k v h=>by
  rcases C7 h with⟨i,t,rfl,rfl⟩|⟨x,t,rfl,rfl⟩<;>rfl
 pyHash:=fun hv h=>by
  rcases C7 hv with⟨i,t,rfl,rfl⟩|⟨x,t,rfl,rfl⟩
  . exact wpAny_pyHash_int h
  . exact wpAny_pyHash_str h
 eqBool:=fun hu hv h=>by
  rcases C7 hu with⟨i,t,rfl,rfl⟩|⟨x,t,rfl,rfl⟩
  . rcases C7 hv with⟨j,u,rfl,rfl⟩|⟨y,u,rfl,rfl⟩
    . rw[KQ]at h;exact wpAny_eqBool_int h
    . rw[kQ]at h;exact SeqAt.EqAt.int_str i t y u _ _ _ _ h
  . rcases C7 hv with⟨j,u,rfl,rfl⟩|⟨y,u,rfl,rfl⟩
    . rw[KP]at h;exact SeqAt.EqAt.str_int x t j u _ _ _ _ h
    . rw[kP]at h;exact wpAny_eqBool_str h
 «strs»:=fun k x t v h=>by
  rcases C7 h with⟨i,u,rfl,e⟩|⟨y,u,rfl,e⟩
  . exact nomatch e
  . injection e with e1 _;subst e1;cases v<;>rfl
theorem Yx(prog:Program)(w:World)(i:Int)(t:Tok):(mixKind prog w).is (.inl i) (.int i t)=true:=bJ i t
theorem Yw(prog:Program)(w:World)(x:Str)(t:Tok):(mixKind prog w).is (.inr x) (.str x t)=true:=BI x t
inductive V where
 | non | bl (b:Bool) | int (i:Int) | str (x:Str) | byt (b:Array UInt8) | flt (b:UInt64) | ref (a:Addr) | ty (n:String)
 deriving DecidableEq
noncomputable abbrev rS(a:Addr):Option V:=some (.ref a)
noncomputable abbrev iS(i:Int):Option V:=some (.int i)
noncomputable def RelV:V->Value->Prop
 | .non,u=>u=Value.none
 | .bl b,u=>u=Value.bool b
 | .int i,u=>∃t,u=Value.int i t
 | .str x,u=>∃t,u=Value.str x t
 | .byt b,u=>∃t,u=Value.bytes b t
 | .flt b,u=>∃t,u=Value.float b t
 | .ref a,u=>u=Value.ref a
 | .ty n,u=>u=Value.type n
noncomputable abbrev Vals:List V->List Value->Prop:=Paired RelV
theorem Vals.length{xs:List V}{us:List Value}(r:Vals xs us):xs.length=us.length:=Paired.length r
theorem Vals.get:∀{xs:List V}{us:List Value}{i:Nat}{x:V},Vals xs us->xs[i]?=some x->∃u,us[i]?=some u/\RelV x u
 | _,_,_,_,.nil,e=>by simp at e
 | _,_,0,_,.cons r _,e=>by simp at e;subst e;exact⟨_,rfl,r⟩
 | _,_,i+1,x,.cons _ t,e=>by
   obtain⟨u,h1,h2⟩:=Vals.get (i:=i) (x:=x) t (by simpa using e);exact⟨u,by simpa using h1,h2⟩
theorem Vals.set{x:V}{u:Value}(r:RelV x u):∀{xs:List V}{us:List Value} (i:Nat),Vals xs us->Vals (xs.set i x) (us.set i u)
 | _,_,_,.nil=>.nil
 | _,_,0,.cons _ t=>.cons r t
 | _,_,i+1,.cons q t=>.cons q (Vals.set r i t)
theorem Vals.append:∀{xs ys:List V}{us ws:List Value},Vals xs us->Vals ys ws->Vals (xs++ys) (us++ws)
 | _,_,_,_,.nil,s=>s
 | _,_,_,_,.cons r t,s=>.cons r (Vals.append t s)
theorem Vals.take:∀{xs:List V}{us:List Value} (n:Nat),Vals xs us->Vals (xs.take n) (us.take n)
 | _,_,0,_=>.nil
 | _,_,_+1,.nil=>.nil
 | _,_,n+1,.cons r t=>.cons r (Vals.take n t)
theorem Vals.drop:∀{xs:List V}{us:List Value} (n:Nat),Vals xs us->Vals (xs.drop n) (us.drop n)
 | _,_,0,r=>r
 | _,_,_+1,.nil=>.nil
 | _,_,n+1,.cons _ t=>Vals.drop n t
noncomputable def Lo:Option V->Option Value->Prop
 | some v,some u=>RelV v u
 | none,none=>True
 | _,_=>False
noncomputable def KV{κ:Type}:List (κ × V)->List (κ × Value)->Prop:=Paired fun(p:κ × V) (q:κ × Value)=>p.1=q.1/\RelV p.2 q.2
noncomputable def kV:Key->V
 | .inl i=>.int i
 | .inr x=>.str x
inductive HO where
 | lst (xs:List V)
 | tup (xs:List V)
 | dK (Az:List (Key × V)) | dT (Az:List (List Key × V))
 | set (S:Int->Bool) (n:Nat)
 | ins (C dx:Addr) (fs:List (Str × V))
 | own (x:Addr)
 | xd (fs:List (Str × V))
 | met (f x:Addr)
 | rng (lo hi:Int)
 | frz (o:Obj) (u:HO)
 | tbl (ps:Array Value)
 | ext (φ:Heap->Prop)
noncomputable abbrev Hp:=Addr->Option HO
noncomputable def upd(H:Hp)(a:Addr)(o:HO):Hp:=fun b=>if b=a then some o else H b
theorem Ab{H:Hp}{a:Addr}{o:HO}:upd H a o a=some o:=by unfold upd;rw[if_pos rfl]
theorem A8{H:Hp}{a b:Addr}{o:HO}(h:b≠a):upd H a o b=H b:=by unfold upd;rw[if_neg h]
theorem Yv{H:Hp}{a b:Addr}{o u:HO}(h:H a=some o)(h':H b=some u)(d:o≠u):a≠b:=by
 intro e;subst e;rw[h]at h';exact d (qb6 h')
theorem Be{H:Hp}{a b:Addr}{o:HO}(h:H a=some o)(h':H b=none):a≠b:=by
 intro e;subst e;rw[h]at h';cases h'
noncomputable def I0(h:Heap)(a:Addr)(items:Array Value):Prop:=∃o,h.get? a=some o/\o.cls=.type "tuple"/\o.dict=none/\∃n,o.data=.seq items n
theorem I0.tup{h:Heap}{a:Addr}{items:Array Value}(x:I0 h a items):IsTup h a items:=let ⟨o,e,c,_,d⟩:=x;⟨o,e,c,d⟩
theorem I0.lt{h:Heap}{a:Addr}{items:Array Value}(x:I0 h a items):a<h.objs.size:=x.tup.lt
theorem I0.new(h:Heap)(items:Array Value):I0 (h.push { cls:=.type "tuple",data:=.seq items }) h.objs.size items:=⟨_,qc0 _ rfl,rfl,rfl,_,rfl⟩
section
variable(P:Program)(w:World)
noncomputable def ObjOk(H:Hp)(h:Heap)(a:Addr):HO->Prop
 | .lst xs=>xs.length<=sizeLine/\∃(its:List Value) (n:Nat),Vals xs its/\h.get? a=some { cls:=.type "list",data:=.seq its.toArray n }
 | .tup xs=>xs.length<=sizeLine/\∃its:List Value,Vals xs its/\I0 h a its.toArray
 | .dK Az=>Az.length<=sizeLine/\(a==sysModules)=false/\∃vs,KV Az vs/\h.DictOf (mixKind P w) a vs
 | .dT Az=>Az.length<=sizeLine/\(a==sysModules)=false/\∃xs:List (List Key × Addr × Value),
    Paired (fun(p:List Key × V) (q:List Key × Addr × Value)=>p.1=q.1/\H q.2.1=some (.tup (p.1.map kV))/\RelV p.2 q.2.2) Az xs ∧
    ∃o es ep,h.get? a=some o/\o.ExactDict/\o.data=.dict es ep/\es.toList=xs.map (entryOfKey (tupleKind (mixKind P w)))/\(xs.map (·.1)).Nodup
 | .set S n=>h.SetOf (intKind P w) a S n
 | .ins C dx fs=>H dx=some (.own a)/\fs.length<=1000/\dx≠a/\h.get? a=some (PySem.W.instObj C dx) ∧
    ∃mA,h.Ns1 dx mA/\(∀f,Lo (fs.lookup f) (mA f))/\PySem.Within mA (fs.map (·.1))
 | .own _=>∃o,h.get? a=some o
 | .xd fs=>∃mA,h.Ns1 a mA/\∀f,Lo (fs.lookup f) (mA f)
 | .rng lo hi=>∃t u v,h.get? a=some { cls:=.type "range",data:=.fields #[.int lo t,.int hi u,.int 1 v] }
 | .frz o u=>h.get? a=some o/\ObjOk H h a u
 | .tbl ps=>h.get? a=some { cls:=.none,data:=.fields ps }
 | .met f x=>h.get? a=some (PySem.W.methodObj (.ref f) (.ref x))
 | .ext φ=>φ h/\(∃o,h.get? a=some o)/\∀h1 h2:Heap,φ h1->(∀o,h1.get? a=some o->h2.get? a=some o)->φ h2
noncomputable def Mo(H:Hp)(h:Heap):Prop:=∀a o,H a=some o->ObjOk P w H h a o
end
section
variable{P:Program}{w:World}{H H':Hp}{h h':Heap}{a:Addr}{o:HO}
theorem ObjOk.lt(x:ObjOk P w H h a o):a<h.objs.size:=by
 cases o with
 | lst xs=>obtain⟨_,_,_,_,e⟩:=x;exact qb0 e
 | tup xs=>obtain⟨_,_,_,p⟩:=x;exact p.lt
 | dK Az=>obtain⟨_,_,_,_,o,_,_,e,_⟩:=x;exact qb0 e
 | dT Az=>obtain⟨_,_,_,_,o,_,_,e,_⟩:=x;exact qb0 e
 | set S n=>obtain⟨o,_,_,_,e,_⟩:=x;exact qb0 e
 | ins C dx fs=>obtain⟨_,_,_,e,_⟩:=x;exact qb0 e
 | own y=>obtain⟨_,e⟩:=x;exact qb0 e
 | xd fs=>obtain⟨_,⟨_,_,_,e,_⟩,_⟩:=x;exact qb0 e
 | rng lo hi=>obtain⟨_,_,_,e⟩:=x;exact qb0 e
 | frz ob u=>obtain⟨e,_⟩:=x;exact qb0 e
 | tbl ps=>exact qb0 (show h.get? a=some _ from x)
 | met f y=>exact qb0 (show h.get? a=some _ from x)
 | ext φ=>obtain⟨_,⟨_,e⟩,_⟩:=x;exact qb0 e
theorem Paired.mapP{α β:Type}{F G:α->β->Prop}:∀{l₁:List α}{l₂:List β},Paired F l₁ l₂->(∀a b,F a b->G a b)->Paired G l₁ l₂
 | _,_,.nil,_=>.nil
 | _,_,.cons r t,f=>.cons (f _ _ r) (Paired.mapP t f)
theorem ObjOk.stay(x:ObjOk P w H h a o)(k:∀b u,(b=a\/H b=some (.own a))->h.get? b=some u->h'.get? b=some u)
 (ho:∀b,H b=some (.own a)->H' b=some (.own a)) (ht:∀b xs,H b=some (.tup xs)->H' b=some (.tup xs)):ObjOk P w H' h' a o:=by
 induction o with
 | lst xs=>obtain⟨z,its,n,r,e⟩:=x;exact⟨z,its,n,r,k _ _ (.inl rfl) e⟩
 | tup xs=>obtain⟨z,its,r,ob,e,c⟩:=x;exact⟨z,its,r,ob,k _ _ (.inl rfl) e,c⟩
 | dK Az=>obtain⟨z,y,vs,r,ob,es,ep,e,c⟩:=x;exact⟨z,y,vs,r,ob,es,ep,k _ _ (.inl rfl) e,c⟩
 | dT Az =>
   obtain⟨z,y,xs,r,ob,es,ep,e,c⟩:=x;exact⟨z,y,xs,Paired.mapP r fun p q z=>⟨z.1,ht _ _ z.2.1,z.2.2⟩,ob,es,ep,k _ _ (.inl rfl) e,c⟩
 | set S n=>obtain⟨ob,es,ep,t,e,c⟩:=x;exact⟨ob,es,ep,t,k _ _ (.inl rfl) e,c⟩
 | ins C dx fs =>
   obtain⟨d,z,ne,e,mA,⟨od,es,ep,e2,c⟩,r⟩:=x;exact⟨ho _ d,z,ne,k _ _ (.inl rfl) e,mA,⟨od,es,ep,k _ _ (.inr d) e2,c⟩,r⟩
 | own y=>obtain⟨ob,e⟩:=x;exact⟨ob,k _ _ (.inl rfl) e⟩
 | xd fs=>obtain⟨mA,⟨od,es,ep,e,c⟩,r⟩:=x;exact⟨mA,⟨od,es,ep,k _ _ (.inl rfl) e,c⟩,r⟩
 | rng lo hi=>obtain⟨t,u,v,e⟩:=x;exact⟨t,u,v,k _ _ (.inl rfl) e⟩
 | frz ob u ih=>obtain⟨e,q⟩:=x;exact⟨k _ _ (.inl rfl) e,ih q⟩
 | tbl ps =>
   have e:h.get? a=some { cls:=.none,data:=.fields ps }:=x;show h'.get? a=some { cls:=.none,data:=.fields ps };exact k a _ (.inl rfl) e
 | met f y =>
   have e:h.get? a=some (PySem.W.methodObj (.ref f) (.ref y)):=x;show h'.get? a=some (PySem.W.methodObj (.ref f) (.ref y));exact k a _ (.inl rfl) e
 | ext φ=>obtain⟨p,⟨o,e⟩,st⟩:=x;exact⟨st _ _ p fun o q=>k _ _ (.inl rfl) q,⟨o,k _ _ (.inl rfl) e⟩,st⟩
theorem Mo.lt(x:Mo P w H h)(e:H a=some o):a<h.objs.size:=(x a o e).lt
theorem Mo.fresh(x:Mo P w H h)(e:h.objs.size<=a):H a=none:=by
 cases q:H a with
 | none=>rfl
 | some u=>exact absurd (qd0 (x.lt q) e) (ql8 _)
theorem Mo.kept(x:Mo P w H h)(k:∀b u,h.get? b=some u->h'.get? b=some u):Mo P w H h':=fun a o e =>
 (x a o e).stay (fun b u _ q=>k b u q) (fun _ q=>q) fun _ _ q=>q
theorem Mo.laid(x:Mo P w H h)(k:∀b u,h.get? b=some u->h'.get? b=some u)(hp:h.objs.size<=a)(new:ObjOk P w (upd H a o) h' a o):Mo P w (upd H a o) h':=fun b u e=>by
 have hn:=x.fresh hp;by_cases hb:b=a
 . subst hb;rw[Ab]at e;cases e;exact new
 . rw[A8 hb]at e;exact(x b u e).stay (fun c v _ q=>k c v q) (fun c q=>by rw[A8 (Be q hn)];exact q) fun c xs q=>by rw[A8 (Be q hn)];exact q
end
noncomputable def Rd(H:Hp)(a:Addr)(u:HO):Prop:=H a=some u\/∃o,H a=some (.frz o u)
theorem Rd.ok{P:Program}{w:World}{H:Hp}{h:Heap}{a:Addr}{u:HO}(r:Rd H a u)(x:Mo P w H h):ObjOk P w H h a u:=by
 rcases r with r|⟨o,r⟩
 . exact x a u r
 . obtain⟨_,q⟩:=x a _ r;exact q
noncomputable def Mut:Option HO->Prop
 | some (.lst _)=>True
 | some (.dK _)=>True
 | some (.dT _)=>True
 | some (.set _ _)=>True
 | some (.ins _ _ _)=>True
 | some (.ext _)=>True
 | _=>False
section
variable{P:Program}{w:World}{H:Hp}{h h':Heap}{x e:Addr}{o':HO}
theorem Mo.write(ok:Mo P w H h)(mu:Mut (H x))(he:e=x\/H e=some (.own x))(k:∀b u,b≠e->h.get? b=some u->h'.get? b=some u)(LW:∃u,h'.get? e=some u)
 (new:ObjOk P w (upd H x o') h' x o'):Mo P w (upd H x o') h':=fun b u q=>by
 have NN:∀c y,H c=some (.own y)->c≠x:=fun c y r z=>by subst z;rw[r]at mu;exact mu
 have qQ:∀c xs,H c=some (.tup xs)->c≠x:=fun c xs r z=>by subst z;rw[r]at mu;exact mu
 by_cases hb:b=x
 . subst hb;rw[Ab]at q;cases q;exact new
 . rw[A8 hb]at q;by_cases kY:b=e
   . have q':H b=some (.own x):=by
      rcases he with z | z
      . exact absurd (kY.trans z) hb
      . rw[kY];exact z
     rw[q]at q';cases q';obtain⟨v,hv⟩:=LW;exact⟨v,by rw[kY];exact hv⟩
   . refine(ok b u q).stay (fun c v hc r=>k c v ?_ r) (fun c r=>by rw[A8 (NN c b r)];exact r) fun c xs r=>by rw[A8 (qQ c xs r)];exact r
     rcases hc with rfl | hc
     . exact kY
     . rintro rfl;rcases he with z | z
       . exact NN c b hc z
       . rw[hc]at z;cases z;exact hb rfl
end
structure Un(fs ex:List Addr)(H H':Hp)(h h':Heap):Prop where
 keep:∀b o,h.get? b=some o->H b=none->b ∉ fs->b ∉ ex->h'.get? b=some o
 slot:∀b o,h.get? b=some o->H b=none->b∈fs->b ∉ ex->∃sl,h'.get? b=some { o with slots:=sl }
 free:∀b o,h.get? b=some o->H b=none->b ∉ ex->H' b=none
 there:∀b o,h.get? b=some o->b ∉ ex->∃o',h'.get? b=some o'
 tups:∀b xs,H b=some (.tup xs)->H' b=some (.tup xs)
 frzs:∀b o u,H b=some (.frz o u)->H' b=some (.frz o u)
 tbls:∀b ps,H b=some (.tbl ps)->∃more,H' b=some (.tbl (ps++more))
section
variable{fs fs' ex ex':List Addr}{H H1 H2:Hp}{h h1 h2 h':Heap}{a x e:Addr}{o:HO}
theorem Un.any(u:Un fs ex H H1 h h1){b:Addr}{ob:Obj}(q:h.get? b=some ob)(n:H b=none)(hx:b ∉ ex):∃sl,h1.get? b=some { ob with slots:=sl }:=by
 by_cases hb:b∈fs
 . exact u.slot b ob q n hb hx
 . exact⟨ob.slots,u.keep b ob q n hb hx⟩
theorem Un.kept(k:∀b u,h.get? b=some u->h'.get? b=some u):Un fs ex H H h h' :=
 ⟨fun b ob q _ _ _=>k b ob q,fun b ob q _ _ _=>⟨ob.slots,k b ob q⟩,fun _ _ _ n _=>n,fun b ob q _=>⟨ob,k b ob q⟩,fun _ _ q=>q,fun _ _ _ q=>q,fun _ ps q=>⟨#[],by rw[q];simp⟩⟩
theorem Un.refl:Un fs ex H H h h:=Un.kept fun _ _ q=>q
theorem Un.laid(k:∀b u,h.get? b=some u->h'.get? b=some u)(hp:h.objs.size<=a)(hn:H a=none):Un fs ex H (upd H a o) h h' where
 keep:=fun b u q _ _ _=>k b u q
 slot:=fun b u q _ _ _=>⟨u.slots,k b u q⟩
 free:=fun b u q n _=>by rw[A8 (qc7 (qd0 (qb0 q) hp))];exact n
 there:=fun b u q _=>⟨u,k b u q⟩
 tups:=fun b xs q=>by rw[A8 (Be q hn)];exact q
 frzs:=fun b u xs q=>by rw[A8 (Be q hn)];exact q
 tbls:=fun b ps q=>⟨#[],by rw[A8 (Be q hn),q];simp⟩
theorem Un.write(mu:Mut (H x))(he:e=x\/H e=some (.own x))(k:∀b u,b≠e->h.get? b=some u->h'.get? b=some u)(LW:∃u,h'.get? e=some u):Un fs ex H (upd H x o) h h':=by
 have hx:∀b,H b=none->b≠x:=fun b n z=>by subst z;rw[n]at mu;exact mu
 have hb:∀b,H b=none->b≠e:=fun b n z=>by
  subst z;rcases he with r | r
  . exact hx b n r
  . rw[n]at r;cases r
 have hm:∀b u,H b=some u->¬Mut (some u)->b≠x:=fun b u q nm z=>by subst z;rw[q]at mu;exact nm mu
 refine⟨fun b u q n _ _=>k b u (hb b n) q,fun b u q n _ _=>⟨u.slots,k b u (hb b n) q⟩,fun b u q n _=>by rw[A8 (hx b n)];exact n,fun b u q _=>?_,
  fun b xs q=>by rw[A8 (hm b _ q fun z=>z)];exact q,fun b u xs q=>by rw[A8 (hm b _ q fun z=>z)];exact q,fun b ps q=>⟨#[],by rw[A8 (hm b _ q fun z=>z),q];simp⟩⟩
 by_cases kY:b=e
 . subst kY;exact LW
 . exact⟨u,k b u kY q⟩
end
noncomputable def trk(h:Heap)(H:Hp):List Addr:=(List.range h.objs.size).filter fun a=>(H a).isSome
noncomputable def Wy(h:Heap)(H:Hp):Heap:=PySem.W.hideAll h (trk h H)
theorem bM(h:Heap)(H:Hp):(Wy h H).objs.size=h.objs.size:=PySem.W.hideAll_size _ _
theorem EH{h:Heap}{H:Hp}{b:Addr}{o:Obj}(e:h.get? b=some o)(n:H b=none):(Wy h H).get? b=some o :=
 PySem.W.hideAll_get _ e fun hm=>by
  have q:(H b).isSome=true:=(qj0.mp hm).2;rw[n]at q;simp at q
theorem gR{h:Heap}{H:Hp}{b:Addr}{o:Obj}(e:(Wy h H).get? b=some o):h.get? b=some o/\H b=none:=by
 have e':h.get? b=some o:=PySem.W.of_hideAll (trk h H) e;refine⟨e',?_⟩;cases q:H b with
 | none=>rfl
 | some x =>
   have hm:b∈trk h H:=qj0.mpr ⟨qd7.mpr (qb0 e'),by simp[q]⟩;have z:(Wy h H).get? b=none:=PySem.W.hideAll_none (trk h H) hm;rw[z]at e;cases e
structure Mod(K:W.Frag)(mg:Str->Option Value)(base:Heap):Prop where
 kin:K.In base
 glob:base.Ns mainGlobals mg
 blt:∃mb,base.Ns builtinsNs mb/\∀x:Str,x≠"__name__"->mb x=bootBuiltins x
 nolimit:base.NoLimit
structure Cx where
 prog:Program
 w:World
 K:PySem.W.Frag
 mg:Str->Option Value
 base:Heap
 A:Around
 N:List Str
 s₀:Shared
 H₀:Hp
 env:Env
 outer:List Env
 stack:List Env
 ex:List Addr
 fn:Str->Bool
 calm:Bool
 pn:Ba
 xe:Value->Shared->Prop
noncomputable def cJ(l:List Env):List Addr:=l.filterMap (·.frame)
noncomputable abbrev Cx.fs(X:Cx):List Addr:=cJ X.outer
noncomputable def pU(sc:Scope)(x:Str):Prop:=sc.names.lookup x=some .local\/sc.names.lookup x=some .cell\/sc.names.lookup x=some .free
noncomputable def LQ(sc:Scope)(x:Str):Prop:=sc.names.lookup x=some .local\/sc.names.lookup x=some .cell
noncomputable def SW(env:Env)(h:Heap)(m:Str->Option Value)(x:Str)(u:Value):Prop :=
 (env.kindOf x=some .local/\m x=some u)\/((env.kindOf x=some .cell\/env.kindOf x=some .free)/\∃c,env.cells.lookup x=some c/\h.IsCell c (some u))
structure Cx.Ok(X:Cx):Prop where
 mod:Mod X.K X.mg X.base
 kind:X.env.scope.kind=.function
 glob:X.env.globals=mainGlobals
 blt:X.env.builtins=builtinsNs
 above:X.s₀.heap.objs.size<=X.env.locals
 inj:∀x y c,X.env.cells.lookup x=some c->X.env.cells.lookup y=some c->x=y
 has:∀x,(X.env.kindOf x=some .cell\/X.env.kindOf x=some .free)->∃c,X.env.cells.lookup x=some c
 cab:∀x c,X.fn x=true->X.env.cells.lookup x=some c->X.s₀.heap.objs.size<=c
 hd:X.calm=true->X.A.handled=none
 frames:X.A.frames=some X.stack
 stk:X.stack=X.outer\/(X.stack=X.env::X.outer/\X.env.frame=some X.env.locals)
 exf:∀b∈X.ex,b≠X.env.locals/\∀x c,X.env.cells.lookup x=some c->c≠b
 bs:∀b o,X.base.get? b=some o->X.s₀.heap.get? b=some o/\X.H₀ b=none
 bsz:X.base.objs.size<=X.s₀.heap.objs.size
 noex:∀b o,X.base.get? b=some o->b ∉ X.ex
 exfs:∀b∈X.ex,b ∉ X.fs
 funs:X.s₀.heap.FunFrames X.base X.outer
 frf:∀b∈X.fs,X.H₀ b=none
structure Bd(X:Cx)(Ae:Ba)(σ:List (Option V))(H:Hp)(s:Shared):Prop where
 ok:X.Ok
 os:s.os=X.s₀.os
 bare:AllBare s.gens
 base:Un X.fs X.ex X.H₀ H X.s₀.heap s.heap
 loc:∃m,s.heap.Ns X.env.locals m/\∀(i:Nat) (x:Str) (v:V),X.N[i]?=some x->σ[i]?=some (some v)->pU X.env.scope x->∃u,RelV v u/\SW X.env s.heap m x u
 cell:∀x c,X.env.cells.lookup x=some c->∃v,s.heap.IsCell c v
 free:H X.env.locals=none
 freeC:∀x c,X.env.cells.lookup x=some c->H c=none
 pin:∀p∈X.pn++Ae,s.heap.get? p.1=some p.2/\H p.1=none/\p.1≠X.env.locals/\p.1 ∉ X.fs/\∀v,p.2.data≠.cell v
 hok:Mo X.prog X.w H s.heap
 len:σ.length=X.N.length
section
variable{X:Cx}{Ae:Ba}{σ:List (Option V)}{H H':Hp}{s:Shared}{h':Heap}
theorem Cx.Ok.nofr(ok:X.Ok){b:Addr}{o:Obj}(e:X.base.get? b=some o):b ∉ X.fs:=fun hb=>by
 have:=(ok.funs.mem hb).1;rw[e]at this;cases this
theorem Bd.bs(I:Bd X Ae σ H s):∀b o,X.base.get? b=some o->s.heap.get? b=some o/\H b=none:=fun b o e =>
 ⟨I.base.keep b o (I.ok.bs b o e).1 (I.ok.bs b o e).2 (I.ok.nofr e) (I.ok.noex b o e),I.base.free b o (I.ok.bs b o e).1 (I.ok.bs b o e).2 (I.ok.noex b o e)⟩
theorem Bd.bk(I:Bd X Ae σ H s):∀b o,X.base.get? b=some o->s.heap.get? b=some o:=fun b o e=>(I.bs b o e).1
theorem Bd.mod(I:Bd X Ae σ H s):Mod X.K X.mg X.base:=I.ok.mod
theorem Bd.kIn(I:Bd X Ae σ H s):X.K.In s.heap:=I.ok.mod.kin.keeps I.bk
theorem Bd.lt(I:Bd X Ae σ H s):X.env.locals<s.heap.objs.size:=let ⟨_,hn,_⟩:=I.loc;hn.lt
theorem Bd.sz(I:Bd X Ae σ H s):X.s₀.heap.objs.size<=s.heap.objs.size:=qe1 I.ok.above (qk4 I.lt)
theorem Bd.nofs(I:Bd X Ae σ H s){a:Addr}(h:s.heap.objs.size<=a):a ∉ X.fs:=fun hb=>by
 obtain⟨_,o,ho,_⟩:=I.ok.funs.mem hb;exact absurd (qd0 (qb0 ho) (qe1 I.sz h)) (ql8 _)
theorem Bd.cne(I:Bd X Ae σ H s):∀x c,X.env.cells.lookup x=some c->c≠X.env.locals:=fun x c e z=>by
 obtain⟨v,o,ho,hd⟩:=I.cell x c e;obtain⟨m,⟨o',es,ep,ho',hd',_⟩,_⟩:=I.loc;rw[z,ho']at ho;cases ho;rw[hd']at hd;cases hd
theorem Bd.funs(I:Bd X Ae σ H s):s.heap.FunFrames X.base X.outer:=by
 have all:∀(l:List Env),(∀b∈cJ l,b∈X.fs)->X.s₀.heap.FunFrames X.base l->s.heap.FunFrames X.base l:=by
  intro l
  induction l with
  | nil=>intro _ _;trivial
  | cons env r ih =>
    intro hs hl;obtain⟨hk,⟨L,o,hf,hn,ho,hd⟩,hr⟩:=hl;have hL:L∈X.fs:=hs L (by unfold cJ;rw[qp6,hf];exact qd9);obtain⟨sl,e⟩:=I.base.slot L o ho (I.ok.frf L hL) hL fun z=>I.ok.exfs L z hL;exact⟨hk,⟨L,_,hf,hn,e,hd⟩,ih (fun b hb=>hs b (by unfold cJ;rw[qp6,hf];exact qc1 _ hb)) hr⟩
 exact all X.outer (fun _ hb=>hb) I.ok.funs
theorem Bd.stack(I:Bd X Ae σ H s):s.heap.FunFrames X.base X.stack:=by
 rcases I.ok.stk with e|⟨e,hf⟩
 . rw[e];exact I.funs
 . rw[e];obtain⟨m,hn,_⟩:=I.loc;refine .cons (by rw[I.ok.kind];decide) hf hn ?_ I.funs;exact Heap.get?_none_of_le (qe1 I.ok.bsz I.ok.above)
theorem Bd.stkSub(I:Bd X Ae σ H s):∀b∈cJ X.stack,b∈X.env.locals::X.fs:=fun b hb=>by
 rcases I.ok.stk with e|⟨e,hf⟩
 . rw[e]at hb;exact qc1 _ hb
 . rw[e]at hb;unfold cJ at hb;rw[qp6,hf]at hb;exact hb
theorem Bd.stkFree(I:Bd X Ae σ H s):∀b∈cJ X.stack,H b=none:=fun b hb=>by
 rcases qb7.mp (I.stkSub b hb) with e | hb
 . rw[e];exact I.free
 . obtain⟨_,o,ho,_⟩:=I.ok.funs.mem hb;exact I.base.free b o ho (I.ok.frf b hb) fun z=>I.ok.exfs b z hb
theorem Bd.step{g':Array GenState}{t':Nat}{d':Drawn}{ch:List Addr}(I:Bd X Ae σ H s)
 (hch:∀b∈ch,(b∈X.ex\/X.s₀.heap.objs.size<=b)/\b≠X.env.locals/\(∀x c,X.env.cells.lookup x=some c->c≠b)/\∀p∈X.pn++Ae,p.1≠b)
 (keep:∀b o,b≠X.env.locals->b ∉ X.fs->b ∉ ch->s.heap.get? b=some o->H b=none->h'.get? b=some o)
 (slot:∀b o,b≠X.env.locals->b∈X.fs->b ∉ ch->s.heap.get? b=some o->H b=none->∃sl,h'.get? b=some { o with slots:=sl }) (free:∀b o,b ∉ ch->s.heap.get? b=some o->H b=none->H' b=none)
 (there:∀b o,b ∉ ch->s.heap.get? b=some o->∃o',h'.get? b=some o')
 (tups:∀b xs,H b=some (.tup xs)->H' b=some (.tup xs)) (frzs:∀b o u,H b=some (.frz o u)->H' b=some (.frz o u)) (tbls:∀b ps,H b=some (.tbl ps)->∃more,H' b=some (.tbl (ps++more)))
 (ns:∀m,s.heap.Ns X.env.locals m->h'.Ns X.env.locals m) (hok:Mo X.prog X.w H' h') (hg:AllBare g') :
 Bd X Ae σ H' { s with heap:=h',gens:=g',drawn:=d',toks:=t' }:=by
 have tX:∀b o,X.s₀.heap.get? b=some o->b≠X.env.locals:=fun b o e=>qc7 (qd0 (qb0 e) I.ok.above)
 have PB:∀b o,X.s₀.heap.get? b=some o->b ∉ X.ex->b ∉ ch:=fun b o e hx hb=>by
  rcases (hch b hb).1 with z | z
  . exact hx z
  . exact absurd (qd0 (qb0 e) z) (ql8 _)
 have cellK:∀x c,X.env.cells.lookup x=some c->∀v,s.heap.IsCell c v->h'.IsCell c v:=fun x c e v ⟨o,ho,hd⟩=>by
  have CH:c ∉ ch:=fun z=>(hch c z).2.2.1 x c e rfl;by_cases hc:c∈X.fs
  . obtain⟨sl,q⟩:=slot c o (I.cne x c e) hc CH ho (I.freeC x c e);exact⟨_,q,hd⟩
  . exact⟨o,keep c o (I.cne x c e) hc CH ho (I.freeC x c e),hd⟩
 refine⟨I.ok,I.os,hg,⟨fun b o e n hb hx=>?_,fun b o e n hb hx=>?_,fun b o e n hx=>?_,fun b o e hx=>?_,fun b xs e=>tups b xs (I.base.tups b xs e),fun b o xs e=>frzs b o xs (I.base.frzs b o xs e),fun b ps e=>?_⟩,?_,fun x c e=>?_,?_,fun x c e=>?_,fun p hp=>?_,hok,I.len⟩
 . exact keep b o (tX b o e) hb (PB b o e hx) (I.base.keep b o e n hb hx) (I.base.free b o e n hx)
 . obtain⟨sl,e1⟩:=I.base.slot b o e n hb hx;obtain⟨VE,e2⟩:=slot b _ (tX b o e) hb (PB b o e hx) e1 (I.base.free b o e n hx);exact⟨VE,e2⟩
 . obtain⟨o',e1⟩:=I.base.there b o e hx;exact free b o' (PB b o e hx) e1 (I.base.free b o e n hx)
 . obtain⟨o',e1⟩:=I.base.there b o e hx;exact there b o' (PB b o e hx) e1
 . obtain⟨m1,e1⟩:=I.base.tbls b ps e;obtain⟨m2,e2⟩:=tbls b _ e1;exact⟨m1++m2,by rw[e2,Array.append_assoc]⟩
 . obtain⟨m,hn,hl⟩:=I.loc;refine⟨m,ns m hn,fun i x v e1 e2 e3=>?_⟩;obtain⟨u,r,l⟩:=hl i x v e1 e2 e3;refine⟨u,r,?_⟩;rcases l with l|⟨k,c,e,z⟩
   . exact .inl l
   . exact .inr ⟨k,c,e,cellK x c e _ z⟩
 . obtain⟨v,z⟩:=I.cell x c e;exact⟨v,cellK x c e v z⟩
 . obtain⟨m,⟨o,_,_,ho,_⟩,_⟩:=I.loc;exact free _ o (fun z=>(hch _ z).2.1 rfl) ho I.free
 . obtain⟨v,o,ho,hd⟩:=I.cell x c e;exact free c o (fun z=>(hch c z).2.2.1 x c e rfl) ho (I.freeC x c e)
 . obtain⟨e,n,ne,nf,d⟩:=I.pin p hp;have CH:p.1 ∉ ch:=fun z=>(hch p.1 z).2.2.2 p hp rfl;exact⟨keep p.1 p.2 ne nf CH e n,free p.1 p.2 CH e n,ne,nf,d⟩
theorem Bd.un{t':Nat}(I:Bd X Ae σ H s)(u:Un X.fs [] H H' s.heap h')(hok:Mo X.prog X.w H' h'):Bd X Ae σ H' { s with heap:=h',toks:=t' }:=by
 obtain⟨m,⟨o,es,ep,ho,r⟩,_⟩:=id I.loc;obtain⟨sl,hL⟩:=u.any ho I.free (by simp)
 exact I.step (g':=s.gens) (d':=s.drawn) (ch:=[]) (fun _ z=>nomatch z) (fun b o _ hb _ e n=>u.keep b o e n hb (by simp)) (fun b o _ hb _ e n=>u.slot b o e n hb (by simp)) (fun b o _ e n=>u.free b o e n (by simp)) (fun b o _ e=>u.there b o e (by simp)) u.tups u.frzs u.tbls (fun m' hm=>by
  obtain⟨o',es',SO,ho',r'⟩:=hm;rw[ho]at ho';cases ho';exact⟨_,es',SO,hL,r'⟩) hok I.bare
theorem Bd.call{g':Array GenState}{t':Nat}{d':Drawn}{ch:List Addr}(I:Bd X Ae σ H s)(u:Un (cJ X.stack) ch H H' s.heap h')(hok:Mo X.prog X.w H' h')(hg:AllBare g')
 (hch:∀b∈ch,(b∈X.ex\/X.s₀.heap.objs.size<=b)/\b≠X.env.locals/\(∀x c,X.env.cells.lookup x=some c->c≠b)/\∀p∈X.pn++Ae,p.1≠b) :
 Bd X Ae σ H' { s with heap:=h',gens:=g',drawn:=d',toks:=t' }:=by
 obtain⟨m,⟨o,es,ep,ho,r⟩,_⟩:=id I.loc;obtain⟨sl,hL⟩:=u.any ho I.free fun z=>(hch _ z).2.1 rfl
 exact I.step (ch:=ch) hch (fun b o hL hb hc e n=>u.keep b o e n (fun z=>(qb7.mp (I.stkSub b z)).elim hL hb) hc) (fun b o _ _ hc e n=>u.any e n hc) (fun b o hc e n=>u.free b o e n hc) (fun b o hc e=>u.there b o e hc) u.tups u.frzs u.tbls (fun m' hm=>by
  obtain⟨o',es',SO,ho',r'⟩:=hm;rw[ho]at ho';cases ho';exact⟨_,es',SO,hL,r'⟩) hok hg
theorem Bd.turned{t':Nat}{it:Addr}(I:Bd X Ae σ H s)(k:∀b o,b≠it->s.heap.get? b=some o->h'.get? b=some o)(hn:H it=none)(hL:it≠X.env.locals)
 (h1:it∈X.ex\/X.s₀.heap.objs.size<=it) (h2:∀x c,X.env.cells.lookup x=some c->c≠it) (h3:∀p∈X.pn++Ae,p.1≠it):Bd X Ae σ H { s with heap:=h',toks:=t' }:=by
 have tW:∀b u,H b=some u->b≠it:=fun b u e z=>by rw[z,hn]at e;cases e
 refine I.step (g':=s.gens) (d':=s.drawn) (ch:=[it]) (fun b hb=>?_) (fun b o _ _ hc e _=>k b o (fun z=>hc (by simp[z])) e) (fun b o _ _ hc e _=>⟨o.slots,k b o (fun z=>hc (by simp[z])) e⟩) (fun _ _ _ _ n=>n)
  (fun b o hc e=>⟨o,k b o (fun z=>hc (by simp[z])) e⟩) (fun _ _ e=>e) (fun _ _ _ e=>e) (fun b ps e=>⟨#[],by rw[e];simp⟩) (fun m hm=>?_) (fun b u e=>?_) I.bare
 . have e:b=it:=by simpa using hb
   subst e;exact⟨h1,hL,h2,h3⟩
 . obtain⟨o,es,ep,ho,r⟩:=hm;exact⟨o,es,ep,k _ o (Ne.symm hL) ho,r⟩
 . refine(I.hok b u e).stay (fun c v hc q=>k c v ?_ q) (fun _ q=>q) fun _ _ q=>q;rcases hc with z | z
   . rw[z];exact tW b u e
   . exact tW c _ z
theorem Bd.tok(I:Bd X Ae σ H s)(t:Nat):Bd X Ae σ H { s with toks:=t }:=I.un (h':=s.heap) (t':=t) Un.refl I.hok
theorem Bd.kept{t':Nat}(I:Bd X Ae σ H s)(k:∀b u,s.heap.get? b=some u->h'.get? b=some u):Bd X Ae σ H { s with heap:=h',toks:=t' }:=I.un (Un.kept k) (I.hok.kept k)
theorem Bd.laid{a:Addr}{o:HO}{t':Nat}(I:Bd X Ae σ H s)(k:∀b u,s.heap.get? b=some u->h'.get? b=some u)(hp:s.heap.objs.size<=a)(new:ObjOk X.prog X.w (upd H a o) h' a o) :
 Bd X Ae σ (upd H a o) { s with heap:=h',toks:=t' }:=I.un (Un.laid k hp (I.hok.fresh hp)) (I.hok.laid k hp new)
theorem Bd.write{x e:Addr}{o:HO}{t':Nat}(I:Bd X Ae σ H s)(mu:Mut (H x))(he:e=x\/H e=some (.own x))(k:∀b u,b≠e->s.heap.get? b=some u->h'.get? b=some u)(LW:∃u,h'.get? e=some u)
 (new:ObjOk X.prog X.w (upd H x o) h' x o):Bd X Ae σ (upd H x o) { s with heap:=h',toks:=t' }:=I.un (Un.write mu he k LW) (I.hok.write mu he k LW new)
theorem Bd.pins_of{iN:Ba}(I:Bd X Ae σ H s)(h:∀p∈iN,s.heap.get? p.1=some p.2/\H p.1=none/\p.1≠X.env.locals/\p.1 ∉ X.fs/\∀v,p.2.data≠.cell v):Bd X iN σ H s :=
 ⟨I.ok,I.os,I.bare,I.base,I.loc,I.cell,I.free,I.freeC,fun p hp=>(qd5.mp hp).elim (fun z=>I.pin p (ql1 _ z)) (h p),I.hok,I.len⟩
theorem Yt{N:List Str}(hN:N.Nodup){i j:Nat}{x:Str}(a:N[i]?=some x)(b:N[j]?=some x):i=j:=by
 obtain⟨h1,e1⟩:=qa2.mp a;obtain⟨h2,e2⟩:=qa2.mp b;exact(qo0 hN).mp (e1.trans e2.symm)
theorem Uf{M:Model}{A:Around}{E:Value->Shared->Prop}{i:Nat}{x:Str}{v:V}{u:Value}{Q:Unit->Shared->Prop}(I:Bd X Ae σ H s)(hN:X.N.Nodup)(hi:X.N[i]?=some x)(hx:LQ X.env.scope x)(r:RelV v u)
 (h:∀s',Bd X Ae (σ.set i (some v)) H s'->(∃a,Heap.SameBut a s.heap s'.heap/\(a=X.env.locals\/X.env.cells.lookup x=some a))->Q () s') (hf:X.fn x=true\/X.env.scope.names.lookup x=some .local:=by first | exact .inl rfl | exact .inr rfl | assumption):wpAny M A (storeName X.env x u) Q E s:=by
 obtain⟨m,hn,hl⟩:=id I.loc;have hcls:(X.env.scope.kind==.class || (X.env.scope.kind==.module&&X.env.locals != X.env.globals))=false:=by rw[I.ok.kind];rfl
 have UG:i<σ.length:=by rw[I.len];exact(qa2.mp hi).1
 have cne:=I.cne
 have tracked:∀{a:Addr}{h':Heap},(∃o,s.heap.get? a=some o/\H a=none)->Heap.SameBut a s.heap h'->Mo X.prog X.w H h':=fun {a h'} ha hs b ob e=>by
  obtain⟨_,_,hfree⟩:=ha;refine(I.hok b ob e).stay (fun c w' hc q=>(hs.2 c ?_).trans q) (fun _ q=>q) fun _ _ q=>q;rintro rfl;rcases hc with rfl | hc
  . rw[hfree]at e;cases e
  . rw[hfree]at hc;cases hc
 rcases hx with hk | hk
 . refine wpAny_storeName_local hk hn (fun h' hn' hs=>?_) hcls;obtain⟨oL,_,_,wL,_⟩:=id hn;refine h _ ⟨I.ok,I.os,I.bare,⟨fun b o e n hb hx=>?_,fun b o e n hb hx=>?_,I.base.free,fun b o e hx=>?_,I.base.tups,I.base.frzs,I.base.tbls⟩,⟨_,hn',fun j y v' e1 e2 e3=>?_⟩,fun y c e=>?_,I.free,I.freeC,fun p hp=>?_,tracked ⟨oL,wL,I.free⟩ hs,by simpa using I.len⟩ ⟨_,hs,.inl rfl⟩
   . exact(hs.2 b (qc7 (qd0 (qb0 e) I.ok.above))).trans (I.base.keep b o e n hb hx)
   . obtain⟨sl,e1⟩:=I.base.slot b o e n hb hx;exact⟨sl,(hs.2 b (qc7 (qd0 (qb0 e) I.ok.above))).trans e1⟩
   . obtain⟨o',e1⟩:=I.base.there b o e hx;exact⟨o',(hs.2 b (qc7 (qd0 (qb0 e) I.ok.above))).trans e1⟩
   . by_cases hj:j=i
     . subst hj;rw[hi]at e1;cases e1;rw[List.getElem?_set_self UG]at e2;cases e2;exact⟨u,r,.inl ⟨hk,by simp⟩⟩
     . rw[List.getElem?_set_ne (Ne.symm hj)]at e2;obtain⟨u',r',q⟩:=hl j y v' e1 e2 e3;refine⟨u',r',?_⟩;rcases q with⟨k,e⟩|⟨k,c,e,z⟩
       . refine .inl ⟨k,?_⟩;have:y≠x:=fun e=>hj (Yt hN e1 (e▸hi));simp[this,e]
       . exact .inr ⟨k,c,e,z.sameBut hs (cne y c e)⟩
   . obtain⟨w',z⟩:=I.cell y c e;exact⟨w',z.sameBut hs (cne y c e)⟩
   . obtain⟨e,n,ne,nf,d⟩:=I.pin p hp;exact⟨(hs.2 p.1 ne).trans e,n,ne,nf,d⟩
 . have hfn:X.fn x=true:=by
    rcases hf with z | z
    . exact z
    . rw[z]at hk;cases hk
   obtain⟨c,hc⟩:=I.ok.has x (.inl hk);obtain⟨w',z⟩:=I.cell x c hc;refine wpAny_storeName_cell I.ok.kind hk hc z (fun h' hc' hs=>?_);obtain⟨oc,hoc,RE⟩:=id z;refine h { s with heap:=h' } ⟨I.ok,I.os,I.bare,⟨fun b o e n hb hx=>?_,fun b o e n hb hx=>?_,I.base.free,fun b o e hx=>?_,I.base.tups,I.base.frzs,I.base.tbls⟩,⟨m,hn.sameBut hs (Ne.symm (cne x c hc)),fun j y v' e1 e2 e3=>?_⟩,fun y c' e=>?_,I.free,I.freeC,fun p hp=>?_,tracked ⟨oc,hoc,I.freeC x c hc⟩ hs,by simpa using I.len⟩ ⟨c,hs,.inr hc⟩
   . exact(hs.2 b (qc7 (qd0 (qb0 e) (I.ok.cab x c hfn hc)))).trans (I.base.keep b o e n hb hx)
   . obtain⟨sl,e1⟩:=I.base.slot b o e n hb hx;exact⟨sl,(hs.2 b (qc7 (qd0 (qb0 e) (I.ok.cab x c hfn hc)))).trans e1⟩
   . obtain⟨o',e1⟩:=I.base.there b o e hx;exact⟨o',(hs.2 b (qc7 (qd0 (qb0 e) (I.ok.cab x c hfn hc)))).trans e1⟩
   . by_cases hj:j=i
     . subst hj;rw[hi]at e1;cases e1;rw[List.getElem?_set_self UG]at e2;cases e2;exact⟨u,r,.inr ⟨.inl hk,c,hc,hc'⟩⟩
     . rw[List.getElem?_set_ne (Ne.symm hj)]at e2;obtain⟨u',r',q⟩:=hl j y v' e1 e2 e3;refine⟨u',r',?_⟩;rcases q with q|⟨k,c',e,z'⟩
       . exact .inl q
       . refine .inr ⟨k,c',e,z'.sameBut hs ?_⟩;rintro rfl;exact hj (Yt hN e1 (I.ok.inj _ _ _ e hc▸hi))
   . by_cases hcc:c'=c
     . subst hcc;exact⟨_,hc'⟩
     . obtain⟨w2,z2⟩:=I.cell y c' e;exact⟨w2,z2.sameBut hs hcc⟩
   . obtain⟨e,n,ne,nf,d⟩:=I.pin p hp;refine⟨(hs.2 p.1 ?_).trans e,n,ne,nf,d⟩;intro q;rw[q,hoc]at e;have q':oc=p.2:=qb6 e;exact d w' (by rw[←q'];exact RE)
theorem X5{M:Model}{A:Around}{E:Value->Shared->Prop}{i:Nat}{x:Str}{v:V}{u:Value}{Q:Unit->Shared->Prop}(I:Bd X Ae σ H s)(hN:X.N.Nodup)(hi:X.N[i]?=some x)(hx:LQ X.env.scope x)(r:RelV v u)
 (h:∀s',Bd X Ae (σ.set i (some v)) H s'->Q () s') (hf:X.fn x=true\/X.env.scope.names.lookup x=some .local:=by first | exact .inl rfl | exact .inr rfl | assumption):wpAny M A (storeName X.env x u) Q E s :=
 Uf I hN hi hx r (fun s' I' _=>h s' I') hf
theorem Bd.call'{s':Shared}{ch:List Addr}(I:Bd X Ae σ H s)(ho:s'.os=s.os)(u:Un (cJ X.stack) ch H H' s.heap s'.heap)(hok:Mo X.prog X.w H' s'.heap)(hg:AllBare s'.gens)
 (hch:∀b∈ch,(b∈X.ex\/X.s₀.heap.objs.size<=b)/\b≠X.env.locals/\(∀x c,X.env.cells.lookup x=some c->c≠b)/\∀p∈X.pn++Ae,p.1≠b):Bd X Ae σ H' s':=by
 obtain⟨h',g',d',t',o'⟩:=s';have e:o'=s.os:=ho;subst e;exact I.call (g':=g') (t':=t') (d':=d') u hok hg hch
end
noncomputable abbrev XK:=Value->OAddr->Hp->Prop
noncomputable abbrev St:=List (Option V)
noncomputable abbrev VK:=V->Hp->Prop
noncomputable abbrev TE:=St->Hp->VK->Prop
noncomputable abbrev TT:=St->Hp->(Bool->Hp->Prop)->Prop
noncomputable abbrev TA:=St->Hp->(List V->Hp->Prop)->Prop
structure Ends where
 nx:St->Hp->Prop
 rt:VK
 bk:St->Hp->Prop:=fun _ _=>False
 ct:St->Hp->Prop:=fun _ _=>False
noncomputable abbrev TS:=Ends->St->Hp->Prop
noncomputable def EP(X:Cx)(Ae:Ba)(σ:St)(Q:VK)(u:Value)(s':Shared):Prop:=∃v H',Bd X Ae σ H' s'/\RelV v u/\Q v H'
noncomputable def TP(X:Cx)(Ae:Ba)(σ:St)(Q:Bool->Hp->Prop)(b:Bool)(s':Shared):Prop:=∃H',Bd X Ae σ H' s'/\Q b H'
noncomputable def AP(X:Cx)(Ae:Ba)(σ:St)(Q:List V->Hp->Prop)(us:List Value)(s':Shared):Prop:=∃vs H',Bd X Ae σ H' s'/\Vals vs us/\Q vs H'
noncomputable def SP(X:Cx)(Ae:Ba)(D:Ends)(f:Flow)(s':Shared):Prop :=
 match f with
 | .next=>∃σ' H',Bd X Ae σ' H' s'/\D.nx σ' H'
 | .brk=>∃σ' H',Bd X Ae σ' H' s'/\D.bk σ' H'
 | .cont=>∃σ' H',Bd X Ae σ' H' s'/\D.ct σ' H'
 | .ret u=>∃v σ' H',Bd X Ae σ' H' s'/\RelV v u/\D.rt v H'
noncomputable def PE(X:Cx)(e:Expr)(t:TE):Prop :=
 ∀(Ae:Ba) (s:Shared) (σ:St) (H:Hp) (Q:VK),Bd X Ae σ H s->t σ H Q->wpAny (model X.prog X.w) X.A (eval e X.env) (EP X Ae σ Q) X.xe s
noncomputable def PT(X:Cx)(e:Expr)(t:TT):Prop :=
 ∀(Ae:Ba) (s:Shared) (σ:St) (H:Hp) (Q:Bool->Hp->Prop),Bd X Ae σ H s->t σ H Q->wpAny (model X.prog X.w) X.A (isTrue e X.env (eval e X.env)) (TP X Ae σ Q) X.xe s
noncomputable def PW(X:Cx)(e:Expr)(t:TT):Prop :=
 ∀(whole:Sem Value) (Ae:Ba) (s:Shared) (σ:St) (H:Hp) (Q:Bool->Hp->Prop),Bd X Ae σ H s->t σ H Q->wpAny (model X.prog X.w) X.A (isTrue e X.env whole) (TP X Ae σ Q) X.xe s
theorem PW.pt{X:Cx}{e:Expr}{t:TT}(h:PW X e t):PT X e t:=h _
noncomputable def PA(X:Cx)(es:List Expr)(t:TA):Prop :=
 ∀(pos:Pos) (Ae:Ba) (s:Shared) (σ:St) (H:Hp) (Q:List V->Hp->Prop),Bd X Ae σ H s->t σ H Q->wpAny (model X.prog X.w) X.A (spliced (backTo pos (starEach es X.env))) (AP X Ae σ Q) X.xe s
noncomputable def PS(X:Cx)(st:Stmt)(t:TS):Prop :=
 ∀(Ae:Ba) (s:Shared) (σ:St) (H:Hp) (D:Ends),Bd X Ae σ H s->t D σ H->wpAny (model X.prog X.w) X.A (exec st X.env) (SP X Ae D) X.xe s
noncomputable def CF(X:Cx)(st:List Stmt)(t:TS):Prop :=
 ∀(Ae:Ba) (s:Shared) (σ:St) (H:Hp) (D:Ends),Bd X Ae σ H s->t D σ H->wpAny (model X.prog X.w) X.A (execs st X.env) (SP X Ae D) X.xe s
theorem C8{α:Type}{t:Sem α}{Q Q':α->Shared->Prop}{M:Model}{A:Around}{E:Value->Shared->Prop}{s:Shared}(h:wpAny M A t Q E s)(hQ:∀a s,Q a s->Q' a s):wpAny M A t Q' E s:=qi7 h hQ fun _ _ x=>x
section
variable{X:Cx}
theorem yH{a b:Expr}{ta tb:TE}(ha:PE X a ta)(hb:PE X b tb){Ae:Ba}{s:Shared}{σ:St}{H:Hp}{R:V->V->Hp->Prop}(I:Bd X Ae σ H s)(h:ta σ H fun x H1=>tb σ H1 fun y H2=>R x y H2)
 {α:Type}{Q:α->Shared->Prop}{f:Value->Value->Sem α}
 (hf:∀v u s2 x y H2,Bd X Ae σ H2 s2->RelV x v->RelV y u->R x y H2->wpAny (model X.prog X.w) X.A (f v u) Q X.xe s2) :
 wpAny (model X.prog X.w) X.A (eval a X.env) (fun v s₁=>wpAny (model X.prog X.w) X.A (eval b X.env) (fun u s₂=>wpAny (model X.prog X.w) X.A (f v u) Q X.xe s₂) X.xe s₁) X.xe s:=by
 refine C8 (ha Ae s σ H _ I h) fun v s1 _z=>?_;obtain⟨x,H1,I1,r1,q1⟩:=_z;refine C8 (hb Ae s1 σ H1 _ I1 q1) fun u s2 _z=>?_;obtain⟨y,H2,I2,r2,q2⟩:=_z;exact hf v u s2 x y H2 I2 r1 r2 q2
noncomputable def mP(i:Nat):TE:=fun σ H Q=>∃v,σ[i]?=some (some v)/\Q v H
noncomputable def tC(v:V):TE:=fun _ H Q=>Q v H
theorem JQ{i:Nat}{x:Str}{pos:Pos}(hN:X.N[i]?=some x)(hv:pU X.env.scope x)(hd:(x==("__debug__":Str))=false:=by decide)(hcd:(x==("__classdict__":Str))=false:=by decide):PE X (.Name x pos) (mP i):=by
 intro Ae s σ H Q I h;obtain⟨v,e,h⟩:=h;obtain⟨m,hn,hl⟩:=I.loc;obtain⟨u,r,l⟩:=hl i x v hN e hv;have fin:EP X Ae σ Q u s:=⟨v,H,I,r,h⟩
 rcases l with⟨hk,hm⟩|⟨hk,c,hc,hcell⟩
 . exact wpAny_Name (wpAny_loadName_local I.ok.kind hk hn hm fin) hd
 . rcases hk with hk | hk
   . exact wpAny_Name (wpAny_loadName_cell I.ok.kind hk hc hcell fin) hd
   . exact wpAny_Name (wpAny_loadName_free I.ok.kind hk hc hcell fin hcd) hd
theorem Af{i j pos}:PE X (.Constant (.int i) j pos) (tC (.int i)):=fun _ _ _ H _ I h=>wpAny_Constant_int ⟨.int i,H,I.tok _,⟨_,rfl⟩,h⟩
theorem E3{b j pos}:PE X (.Constant (.bool b) j pos) (tC (.bl b)):=fun _ _ _ H _ I h=>Constant_bool ⟨.bl b,H,I,rfl,h⟩
theorem DF{j pos}:PE X (.Constant .none j pos) (tC .non):=fun _ _ _ H _ I h=>Constant_none ⟨.non,H,I,rfl,h⟩
theorem Bg{x j pos}:PE X (.Constant (.str x) j pos) (tC (.str x)):=fun _ _ _ H _ I h=>Calls.Constant_str ⟨.str x,H,I.tok _,⟨_,rfl⟩,h⟩
noncomputable def Gl(X:Cx)(x:Str):Prop:=X.env.kindOf x=some .globalImplicit
theorem Ws{E:Value->Shared->Prop}{Ae:Ba}{s:Shared}{σ:St}{H:Hp}{x:Str}{u:Value}{pos:Pos}{Q:Value->Shared->Prop}(I:Bd X Ae σ H s)(hg:Gl X x)(hm:X.mg x=some u)(h:Q u s)
 (hd:(x==("__debug__":Str))=false:=by decide):wpAny (model X.prog X.w) X.A (eval (.Name x pos) X.env) Q E s :=
 Calls.Name_function_global I.ok.kind hg (Calls.loadGlobal_global (by rw[I.ok.glob];exact I.mod.glob.keeps I.bk) hm h) hd
theorem Iw{E:Value->Shared->Prop}{Ae:Ba}{s:Shared}{σ:St}{H:Hp}{x:Str}{u:Value}{pos:Pos}{Q:Value->Shared->Prop}(I:Bd X Ae σ H s)(hg:Gl X x)(hm:X.mg x=none)(hv:bootBuiltins x=some u)(h:Q u s)
 (hn:x≠"__name__":=by decide) (hd:(x==("__debug__":Str))=false:=by decide):wpAny (model X.prog X.w) X.A (eval (.Name x pos) X.env) Q E s:=by
 obtain⟨mb,h1,h2⟩:=I.mod.blt;exact Calls.Name_function_global I.ok.kind hg (Calls.loadGlobal_builtin (by rw[I.ok.glob];exact I.mod.glob.keeps I.bk) hm (by rw[I.ok.blt];exact h1.keeps I.bk) ((h2 x hn).trans hv) h) hd
theorem Wc{x:Str}{v:V}{u:Value}{pos:Pos}(hg:Gl X x)(hm:X.mg x=some u)(r:RelV v u)(hd:(x==("__debug__":Str))=false:=by decide):PE X (.Name x pos) (tC v) :=
 fun _ _ _ H _ I h=>Ws I hg hm ⟨v,H,I,r,h⟩ hd
theorem Er{x:Str}{v:V}{u:Value}{pos:Pos}(hg:Gl X x)(hm:X.mg x=none)(hv:bootBuiltins x=some u)(r:RelV v u)(hn:x≠"__name__":=by decide)(hd:(x==("__debug__":Str))=false:=by decide):PE X (.Name x pos) (tC v) :=
 fun _ _ _ H _ I h=>Iw I hg hm hv ⟨v,H,I,r,h⟩ hn hd
variable{a b:Expr}{ta tb:TE}{pos:Pos}
noncomputable def PC(X:Cx)(op:CmpOp)(a b:Expr)(t:TE):Prop :=
 ∀(Ae:Ba) (s:Shared) (σ:St) (H:Hp) (Q:VK),Bd X Ae σ H s->t σ H Q →
   wpAny (model X.prog X.w) X.A (eval a X.env) (fun v s₁=>wpAny (model X.prog X.w) X.A (eval b X.env) (fun u s₂=>wpAny (model X.prog X.w) X.A (compareOp op v u) (EP X Ae σ Q) X.xe s₂) X.xe s₁) X.xe s
theorem DN(b:Expr){op:CmpOp}(h:op≠.In)(h2:op≠.NotIn):behindInMarks op b=false:=by
 have e1:(op==CmpOp.In)=false:=by cases op<;>first | rfl | exact absurd rfl h
 have e2:(op==CmpOp.NotIn)=false:=by cases op<;>first | rfl | exact absurd rfl h2
 cases b<;>simp[behindInMarks,e1,e2]
noncomputable def tB(t:TE):TT:=fun σ H Q=>t σ H fun x H1=>∃c,x=.bl c/\Q c H1
theorem qN{op:CmpOp}{t:TE}(h:PC X op a b t)(h1:behindInMarks op b=false:=by first | exact DN _ (by decide) (by decide) | rfl):PT X (.Compare a [op] [b] pos) (tB t):=by
 intro Ae s σ H Q I hw;refine wpAny_isTrue_Compare1 (C8 (h Ae s σ H _ I hw) fun v s1 h1=>C8 h1 fun u s2 h2=>C8 h2 fun c s3 _z=>?_) h1;obtain⟨x,H1,I1,r1,q1⟩:=_z;obtain⟨d,rfl,q⟩:=q1;cases r1;exact qh9 ⟨H1,I1,q⟩
theorem Cq{e:Expr}{t:TE}(h:PE X e t)(he:∀whole,isTrue e X.env whole=(do let v ←whole;standAt e.pos;holding [v] (truthy v)):=by intro _;rfl):PT X e (tB t):=by
 intro Ae s σ H Q I hw;refine isTrue_plain (C8 (h Ae s σ H _ I hw) fun v s1 _z=>?_) (he _);obtain⟨x,H1,I1,r1,q1⟩:=_z;obtain⟨d,rfl,q⟩:=q1;cases r1;exact qh9 ⟨H1,I1,q⟩
variable{tA oY:TT}{rest:List Expr}
noncomputable def qD(t u:TT):TT:=fun σ H Q=>t σ H fun c H1=>if c=true then u σ H1 Q else Q false H1
noncomputable def vD(t u:TT):TT:=fun σ H Q=>t σ H fun c H1=>if c=true then Q true H1 else u σ H1 Q
noncomputable def qB(t:TT):TT:=fun σ H Q=>t σ H fun c H1=>Q (!c) H1
theorem Jz(ha:PT X a tA):PW X (.BoolOp .And [a] pos) tA:=by
 intro wh Ae s σ H Q I h;refine isTrue_and (C8 (ha Ae s σ H Q I h) fun c s1 e=>?_);cases c with
 | true=>exact isTrue_and_nil e
 | false=>exact e
theorem Rt(ha:PT X a tA):PW X (.BoolOp .Or [a] pos) tA:=by
 intro wh Ae s σ H Q I h;refine isTrue_or (C8 (ha Ae s σ H Q I h) fun c s1 e=>?_);cases c with
 | false=>exact isTrue_or_nil e
 | true=>exact e
theorem K1(ha:PT X a tA)(hb:PW X (.BoolOp .And (b::rest) pos) oY):PW X (.BoolOp .And (a::b::rest) pos) (qD tA oY):=by
 intro wh Ae s σ H Q I h;refine isTrue_and (C8 (ha Ae s σ H _ I h) fun c s1 _z=>?_);obtain⟨H1,I1,q1⟩:=_z;cases c with
 | true=>exact hb wh Ae s1 σ H1 Q I1 q1
 | false=>exact⟨H1,I1,q1⟩
theorem Ru(ha:PT X a tA)(hb:PW X (.BoolOp .Or (b::rest) pos) oY):PW X (.BoolOp .Or (a::b::rest) pos) (vD tA oY):=by
 intro wh Ae s σ H Q I h;refine isTrue_or (C8 (ha Ae s σ H _ I h) fun c s1 _z=>?_);obtain⟨H1,I1,q1⟩:=_z;cases c with
 | true=>exact⟨H1,I1,q1⟩
 | false=>exact hb wh Ae s1 σ H1 Q I1 q1
theorem Dx(ha:PT X a tA):PT X (.UnaryOp .Not a pos) (qB tA):=by
 intro Ae s σ H Q I h;exact isTrue_not (ha Ae s σ H (fun c H1=>Q (!c) H1) I h)
noncomputable def MV(ta tb:TE):TE:=fun σ H Q=>ta σ H fun x H1=>∃c,x=.bl c/\if c=true then tb σ H1 Q else Q (.bl false) H1
noncomputable def QA(ta tb:TE):TE:=fun σ H Q=>ta σ H fun x H1=>∃c,x=.bl c/\if c=true then Q (.bl true) H1 else tb σ H1 Q
noncomputable def MR(ta:TE):TE:=fun σ H Q=>ta σ H fun x H1=>∃c,x=.bl c/\Q (.bl (!c)) H1
theorem Fh{op}{t:TE}(h:PE X a t):PE X (.BoolOp op [a] pos) t:=fun Ae s σ H Q I hw=>BoolOp_one (h Ae s σ H Q I hw)
theorem Dy(ha:PE X a ta)(hb:PE X (.BoolOp .And (b::rest) pos) tb):PE X (.BoolOp .And (a::b::rest) pos) (MV ta tb):=by
 intro Ae s σ H Q I h;refine BoolOp_and (C8 (ha Ae s σ H _ I h) fun v s1 _z=>?_);obtain⟨x,H1,I1,r1,q1⟩:=_z;obtain⟨c,rfl,q1⟩:=q1;cases r1;refine qh9 ?_;cases c with
 | true=>exact hb Ae s1 σ H1 Q I1 q1
 | false=>exact⟨.bl false,H1,I1,rfl,q1⟩
theorem NH(ha:PE X a ta)(hb:PE X (.BoolOp .Or (b::rest) pos) tb):PE X (.BoolOp .Or (a::b::rest) pos) (QA ta tb):=by
 intro Ae s σ H Q I h;refine BoolOp_or (C8 (ha Ae s σ H _ I h) fun v s1 _z=>?_);obtain⟨x,H1,I1,r1,q1⟩:=_z;obtain⟨c,rfl,q1⟩:=q1;cases r1;refine qh9 ?_;cases c with
 | false=>exact hb Ae s1 σ H1 Q I1 q1
 | true=>exact⟨.bl true,H1,I1,rfl,q1⟩
theorem dF(ha:PE X a ta):PE X (.UnaryOp .Not a pos) (MR ta):=by
 intro Ae s σ H Q I h;refine UnaryOp_ (C8 (ha Ae s σ H _ I h) fun v s1 _z=>?_);obtain⟨x,H1,I1,r1,q1⟩:=_z;obtain⟨c,rfl,q1⟩:=q1;cases r1;exact not_of (qh9 ⟨.bl (!c),H1,I1,rfl,q1⟩)
noncomputable def VD(t:TT)(ta tb:TE):TE:=fun σ H Q=>t σ H fun c H1=>if c=true then ta σ H1 Q else tb σ H1 Q
theorem Rx{c:Expr}(hc:PT X c tA)(ha:PE X a ta)(hb:PE X b tb):PE X (.IfExp c a b pos) (VD tA ta tb):=by
 intro Ae s σ H Q I h;refine wpAny_IfExp (C8 (hc Ae s σ H _ I h) fun d s1 _z=>?_);obtain⟨H1,I1,q1⟩:=_z;cases d with
 | true=>exact ha Ae s1 σ H1 Q I1 q1
 | false=>exact hb Ae s1 σ H1 Q I1 q1
end
noncomputable def SqL(K:W.Frag)(H:Hp)(a:Addr)(xs:List V):Prop :=
 Rd H a (.lst xs) ∨
  ∃(o:Obj) (its:Array Value) (n:Nat),K.lookup a=some o/\o.cls=.type "list"/\o.dict=none/\o.data=.seq its n/\its.size<=sizeLine/\Vals xs its.toList
noncomputable def Dv(K:W.Frag)(H:Hp)(a:Addr)(xs:List V):Prop :=
 Rd H a (.tup xs) ∨
  ∃(o:Obj) (its:Array Value) (n:Nat),K.lookup a=some o/\o.cls=.type "tuple"/\o.dict=none/\o.data=.seq its n/\its.size<=sizeLine/\Vals xs its.toList
noncomputable def sS:Value->Option V
 | .none=>some .non
 | .bool b=>some (.bl b)
 | .int i _=>some (.int i)
 | .str x _=>some (.str x)
 | .bytes b _=>some (.byt b)
 | .float b _=>some (.flt b)
 | .ref a=>some (.ref a)
 | .type n=>some (.ty n)
 | _=>none
theorem RelV.abs{x:V}{u:Value}(r:RelV x u):sS u=some x:=by
 cases x with
 | non=>cases r;rfl
 | bl _=>cases r;rfl
 | int _=>obtain⟨t,rfl⟩:=r;rfl
 | str _=>obtain⟨t,rfl⟩:=r;rfl
 | byt _=>obtain⟨t,rfl⟩:=r;rfl
 | flt _=>obtain⟨t,rfl⟩:=r;rfl
 | ref _=>cases r;rfl
 | ty _=>cases r;rfl
theorem RelV.inj{x y:V}{u:Value}(r:RelV x u)(q:RelV y u):x=y:=qb6 (r.abs.symm.trans q.abs)
theorem Vals.inj:∀{xs ys:List V}{us:List Value},Vals xs us->Vals ys us->xs=ys
 | _,_,_,.nil,.nil=>rfl
 | _,_,_,.cons r t,.cons r' t'=>by rw[r.inj r',Vals.inj t t']
section
variable{X:Cx}{Ae:Ba}{σ:St}{H:Hp}{s:Shared}{a:Addr}{xs ys:List V}
theorem SqL.of{K:W.Frag}(h:H a=some (.lst xs)):SqL K H a xs:=.inl (.inl h)
theorem Dv.of{K:W.Frag}(h:H a=some (.tup xs)):Dv K H a xs:=.inl (.inl h)
theorem Bd.list(I:Bd X Ae σ H s)(h:SqL X.K H a xs):∃its:List Value,Vals xs its/\PlainL s.heap a its.toArray/\xs.length<=sizeLine:=by
 rcases h with h|⟨o,its,n,hk,hc,hd,hs,hz,r⟩
 . obtain⟨z,its,n,r,e⟩:=h.ok I.hok;exact⟨its,r,⟨_,n,e,rfl,rfl,rfl⟩,z⟩
 . refine⟨its.toList,r,⟨o,n,I.kIn a o hk,hc,hd,by simpa using hs⟩,?_⟩;have e:=r.length;simp only[qm7]at e;omega
theorem Bd.tuple(I:Bd X Ae σ H s)(h:Dv X.K H a xs):∃its:List Value,Vals xs its/\IsTup s.heap a its.toArray/\xs.length<=sizeLine:=by
 rcases h with h|⟨o,its,n,hk,hc,_,hs,hz,r⟩
 . obtain⟨z,its,r,p⟩:=h.ok I.hok;exact⟨its,r,p.tup,z⟩
 . refine⟨its.toList,r,⟨o,I.kIn a o hk,hc,n,by simpa using hs⟩,?_⟩;have e:=r.length;simp only[qm7]at e;omega
theorem Bd.list_inj(I:Bd X Ae σ H s)(h:SqL X.K H a xs)(h':SqL X.K H a ys):xs=ys:=by
 obtain⟨its,r,⟨o,n,e,_,_,d⟩,_⟩:=I.list h;obtain⟨its',r',⟨o',n',e',_,_,d'⟩,_⟩:=I.list h';rw[e]at e';cases e';rw[d]at d';injection d' with d1 _;have:its=its':=by simpa using congrArg Array.toList d1
 subst this;exact r.inj r'
theorem Bd.tuple_inj(I:Bd X Ae σ H s)(h:Dv X.K H a xs)(h':Dv X.K H a ys):xs=ys:=by
 obtain⟨its,r,⟨o,e,_,n,d⟩,_⟩:=I.tuple h;obtain⟨its',r',⟨o',e',_,n',d'⟩,_⟩:=I.tuple h';rw[e]at e';cases e';rw[d]at d';injection d' with d1 _;have:its=its':=by simpa using congrArg Array.toList d1
 subst this;exact r.inj r'
end
noncomputable abbrev Cx.wish(X:Cx)(E:Value->Shared->Prop):Cx:={ X with xe:=E }
noncomputable abbrev Cx.nox(X:Cx):Cx:=X.wish fun _ _=>False
theorem Cx.Ok.wish{X:Cx}(ok:X.Ok)(E:Value->Shared->Prop):(X.wish E).Ok :=
 ⟨ok.mod,ok.kind,ok.glob,ok.blt,ok.above,ok.inj,ok.has,ok.cab,ok.hd,ok.frames,ok.stk,ok.exf,ok.bs,ok.bsz,ok.noex,ok.exfs,ok.funs,ok.frf⟩
theorem Cx.Ok.unwish{X:Cx}{E:Value->Shared->Prop}(ok:(X.wish E).Ok):X.Ok :=
 ⟨ok.mod,ok.kind,ok.glob,ok.blt,ok.above,ok.inj,ok.has,ok.cab,ok.hd,ok.frames,ok.stk,ok.exf,ok.bs,ok.bsz,ok.noex,ok.exfs,ok.funs,ok.frf⟩
section
variable{X:Cx}{Ae:Ba}{σ:St}{H:Hp}{s:Shared}{E:Value->Shared->Prop}
theorem Bd.wish(I:Bd X Ae σ H s)(E:Value->Shared->Prop):Bd (X.wish E) Ae σ H s:=⟨I.ok.wish E,I.os,I.bare,I.base,I.loc,I.cell,I.free,I.freeC,I.pin,I.hok,I.len⟩
theorem Bd.unwish(I:Bd (X.wish E) Ae σ H s):Bd X Ae σ H s:=⟨I.ok.unwish,I.os,I.bare,I.base,I.loc,I.cell,I.free,I.freeC,I.pin,I.hok,I.len⟩
theorem SP.unwish{D:Ends}{f:Flow}{s':Shared}(h:SP (X.wish E) Ae D f s'):SP X Ae D f s':=by
 cases f with
 | next=>obtain⟨σ',H',I,q⟩:=h;exact⟨σ',H',I.unwish,q⟩
 | brk=>obtain⟨σ',H',I,q⟩:=h;exact⟨σ',H',I.unwish,q⟩
 | cont=>obtain⟨σ',H',I,q⟩:=h;exact⟨σ',H',I.unwish,q⟩
 | ret u=>obtain⟨v,σ',H',I,r,q⟩:=h;exact⟨v,σ',H',I.unwish,r,q⟩
theorem CF.nox{st:List Stmt}{t:TS}(h:CF X.nox st t):CF X st t:=fun Ae s σ H D I hw =>
 qi7 (h Ae s σ H D (I.wish _) hw) (fun _ _ q=>q.unwish) fun _ _ z=>False.elim z
end
section
variable{X:Cx}{st:Stmt}{rest:List Stmt}{t u:TS}{e:Expr}{te:TE}{pos:Pos}
noncomputable def mS:TS:=fun D σ H=>D.nx σ H
noncomputable def CO(t u:TS):TS:=fun D σ H=>t { D with nx:=u D } σ H
theorem Ax:CF X [] mS:=fun _ _ σ H _ I h=>qq1 ⟨σ,H,I,h⟩
theorem Ad(h1:PS X st t)(h2:CF X rest u):CF X (st::rest) (CO t u):=by
 intro Ae s σ H D I h;refine wpAny_execs_cons (C8 (h1 Ae s σ H { D with nx:=u D } I h) fun f s1 q=>?_);cases f with
 | next =>
   obtain⟨σ',H',I',q⟩:=q;exact h2 Ae s1 σ' H' D I' q
 | ret v=>exact q
 | brk=>exact q
 | cont=>exact q
theorem Ag(h1:PS X st t):CF X [st] t:=by
 intro Ae s σ H D I h;refine wpAny_execs_cons (C8 (h1 Ae s σ H D I h) fun f s1 q=>?_);cases f with
 | next=>exact qq1 q
 | ret v=>exact q
 | brk=>exact q
 | cont=>exact q
theorem Bd.quiet{Ae:Ba}{σ:St}{H:Hp}{s:Shared}(I:Bd X Ae σ H s):interactive X.env=false:=by simp[interactive,I.ok.kind]
noncomputable def MT(te:TE):TS:=fun D σ H=>te σ H fun _ H1=>D.nx σ H1
theorem C5(he:PE X e te)(hs:swapsWith e none pos.line X.env=pure false:=by rfl):PS X (.Expr e pos) (MT te):=by
 intro Ae s σ H D I h;exact wpAny_Expr_any (C8 (he Ae s σ H _ I h) fun v s1 ⟨x,H1,I1,r1,q1⟩=>⟨σ,H1,I1,q1⟩) I.quiet hs
noncomputable def qA(te:TE):TS:=fun D σ H=>te σ H D.rt
theorem Av(he:PE X e te):PS X (.Return (some e) pos) (qA te):=by
 intro Ae s σ H D I h;exact wpAny_Return_some (C8 (he Ae s σ H _ I h) fun v s1 ⟨x,H1,I1,r1,q1⟩=>⟨x,σ,H1,I1,r1,q1⟩)
noncomputable def qC(c:TT)(t u:TS):TS:=fun D σ H=>c σ H fun b H1=>if b=true then t D σ H1 else u D σ H1
theorem Bj{c:Expr}{a b:List Stmt}{tc:TT}(hc:PT X c tc)(ha:CF X a t)(hb:CF X b u):PS X (.If c a b pos) (qC tc t u):=by
 intro Ae s σ H D I h;refine wpAny_If (C8 (hc Ae s σ H _ I h) fun d s1 _z=>?_);obtain⟨H1,I1,q1⟩:=_z;cases d with
 | true=>exact ha Ae s1 σ H1 D I1 q1
 | false=>exact hb Ae s1 σ H1 D I1 q1
noncomputable def JG:TS:=fun _ _ _=>False
theorem Ea:PS X st JG:=fun _ _ _ _ _ _ h=>h.elim
end
noncomputable abbrev TG:=V->St->Hp->(St->Hp->Prop)->Prop
noncomputable abbrev IY:=List V->St->Hp->(St->Hp->Prop)->Prop
noncomputable def PG(X:Cx)(target:Expr)(t:TG):Prop :=
 ∀(Ae:Ba) (s:Shared) (σ:St) (H:Hp) (v:V) (u:Value) (Q:St->Hp->Prop),Bd X Ae σ H s->RelV v u->t v σ H Q →
   wpAny (model X.prog X.w) X.A (assign target X.env u) (fun _ s'=>∃σ' H',Bd X Ae σ' H' s'/\Q σ' H') X.xe s
noncomputable def OU(X:Cx)(ts:List Expr)(t:IY):Prop :=
 ∀(Ae:Ba) (s:Shared) (σ:St) (H:Hp) (vs:List V) (us:List Value) (Q:St->Hp->Prop),Bd X Ae σ H s->Vals vs us->t vs σ H Q →
   wpAny (model X.prog X.w) X.A (assignInOrder ((assignEach ts X.env).map (·.2)) us) (fun _ s'=>∃σ' H',Bd X Ae σ' H' s'/\Q σ' H') X.xe s
noncomputable abbrev lO:=V->V->V->Hp->(Hp->Prop)->Prop
noncomputable def oU(X:Cx)(t:lO):Prop :=
 ∀(Ae:Ba) (s:Shared) (σ:St) (H:Hp) (o i v:V) (ov iv u:Value) (Q:Hp->Prop),Bd X Ae σ H s->RelV o ov->RelV i iv->RelV v u->t o i v H Q →
   wpAny (model X.prog X.w) X.A (setItem ov iv u) (fun _ s'=>∃H',Bd X Ae σ H' s'/\Q H') X.xe s
section
variable{X:Cx}{pos:Pos}
noncomputable def Vd(i:Nat):TG:=fun v σ H Q=>Q (σ.set i (some v)) H
theorem GG{i:Nat}{x:Str}(hN:X.N.Nodup)(hi:X.N[i]?=some x)(hx:LQ X.env.scope x)(hf:X.fn x=true\/X.env.scope.names.lookup x=some .local:=by first | exact .inl rfl | exact .inr rfl | assumption):PG X (.Name x pos) (Vd i):=by
 intro Ae s σ H v u Q I r h;exact wpAny_assign_Name (X5 I hN hi hx r (fun s' I'=>⟨_,H,I',h⟩) hf)
theorem Am{i:Nat}{x:Str}(hN:X.N.Nodup)(hi:X.N[i]?=some x:=by rfl)(hx:LQ X.env.scope x:=by first | exact Or.inl rfl | exact Or.inr rfl)(hf:X.fn x=true\/X.env.scope.names.lookup x=some .local:=by first | exact .inl rfl | exact .inr rfl | assumption):PG X (.Name x pos) (Vd i):=GG hN hi hx hf
noncomputable def sM:IY:=fun vs σ H Q=>vs=[]/\Q σ H
noncomputable def oG(t:TG)(u:IY):IY:=fun vs σ H Q=>∃v r,vs=v::r/\t v σ H fun σ' H'=>u r σ' H' Q
theorem Fg:OU X [] sM:=by
 intro Ae s σ H vs us Q I r h;obtain⟨e,h⟩:=h;subst e;cases r;exact assignInOrder_nil ⟨σ,H,I,h⟩
theorem B4{e:Expr}{es:List Expr}{t:TG}{u:IY}(h1:PG X e t)(h2:OU X es u)
 (hs:(assignEach (e::es) X.env).map (·.2)=assign e X.env::(assignEach es X.env).map (·.2):=by rfl):OU X (e::es) (oG t u):=by
 intro Ae s σ H vs us Q I r h;obtain⟨v,vr,e1,h⟩:=h;subst e1;cases r with
 | cons r rr =>
   rw[hs];refine assignInOrder_cons (C8 (h1 Ae s σ H _ _ _ I r h) fun _ s1 _z=>?_);obtain⟨σ1,H1,I1,q1⟩:=_z;exact h2 Ae s1 σ1 H1 _ _ Q I1 rr q1
noncomputable def OF(K:W.Frag)(n:Nat)(t:IY):TG:=fun v σ H Q=>∃a xs,v=.ref a/\Dv K H a xs/\xs.length=n/\t xs σ H Q
theorem jQ{es:List Expr}{k:Nat}{t:IY}{n:Nat}(hc:X.calm=true)(h:OU X es t)
 (hn:(assignEach es X.env).length=n:=by rfl) (hst:(assignEach es X.env).findIdx? (·.1)=none:=by rfl):PG X (.Tuple es k pos) (OF X.K n t):=by
 intro Ae s σ H v u Q I r hw;obtain⟨a,xs,e1,hq,hl,hw⟩:=hw;subst e1;cases r;obtain⟨its,rv,ht,hz⟩:=I.tuple hq;refine assign_Tuple_tuple (I.ok.hd hc) ht (by simp[hn,←hl,rv.length]) hst fun h' hx=>?_;have I1:Bd X Ae σ H { s with heap:=h' }:=I.kept (t':=s.toks) fun b o e=>hx b o (qc7 (qb0 e)) e;exact h Ae _ σ H xs _ Q I1 (by simpa using rv) hw
noncomputable def sL(to ti:TE)(t:lO):TG:=fun v σ H Q=>to σ H fun o H1=>ti σ H1 fun i H2=>t o i v H2 fun H3=>Q σ H3
theorem dD{o i:Expr}{to ti:TE}{t:lO}(ho:PE X o to)(hi:PE X i ti)(hs:oU X t)
 (ha:∀v,assign (.Subscript o i pos) X.env v=(do
   let ov ←holding [v] (eval o X.env)
   let iv ←holding [v,ov] (eval i X.env)
   standAt pos
   holding [v,ov,iv] (setItem ov iv v)
   release [v,ov,iv] []):=by intro _;rfl):PG X (.Subscript o i pos) (sL to ti t):=by
 intro Ae s σ H v u Q I r h;rw[ha];refine qa5 (qi8 (C8 (ho Ae s σ H _ I h) fun ov s1 _z=>?_));obtain⟨x,H1,I1,r1,q1⟩:=_z;refine qa5 (qi8 (C8 (hi Ae s1 σ H1 _ I1 q1) fun iv s2 _z=>?_));obtain⟨y,H2,I2,r2,q2⟩:=_z;refine qa5 (wpAny_standAt (qa5 (qi8 (C8 (hs Ae s2 σ H2 x y v ov iv u _ I2 r1 r2 r q2) fun _ s3 _z=>?_))));obtain⟨H3,I3,q3⟩:=_z;exact wpAny_release ⟨σ,H3,I3,q3⟩
noncomputable def fR(te:TE)(g:TG):TS:=fun D σ H=>te σ H fun x H1=>g x σ H1 D.nx
theorem dB{tg e:Expr}{te:TE}{g:TG}(he:PE X e te)(hg:PG X tg g)(hs:swapsWithSole [tg] e pos.line X.env=pure false:=by rfl)(hw:swappedStores [tg] e X.env=pure none:=by rfl)
 (h1:(assignEach [tg] X.env).map (·.2)=[assign tg X.env]:=by rfl):PS X (.Assign [tg] e pos) (fR te g):=by
 intro Ae s σ H D I h;refine wpAny_Assign_stores (C8 (he Ae s σ H _ I h) fun v s1 _z=>?_) hs hw;obtain⟨x,H1,I1,r1,q1⟩:=_z;rw[h1];exact C8 (hg Ae s1 σ H1 x v _ I1 r1 q1) fun _ s2 q=>q
theorem jO{i:Nat}{x:Str}{e:Expr}{te:TE}{pos':Pos}(hN:X.N.Nodup)(hi:X.N[i]?=some x)(hx:LQ X.env.scope x)(he:PE X e te)(hs:swapsWith e (some (.Name x pos')) pos.line X.env=pure false:=by rfl)(hf:X.fn x=true\/X.env.scope.names.lookup x=some .local:=by first | exact .inl rfl | exact .inr rfl | assumption) :
 PS X (.Assign [.Name x pos'] e pos) (fR te (Vd i)):=by
 intro Ae s σ H D I h;refine wpAny_Assign_Name (C8 (he Ae s σ H _ I h) fun v s1 _z=>?_) hs;obtain⟨y,H1,I1,r1,q1⟩:=_z;exact X5 I1 hN hi hx r1 (fun s2 I2=>⟨_,H1,I2,q1⟩) hf
theorem Al{i:Nat}{x:Str}{e:Expr}{te:TE}{pos':Pos}(hN:X.N.Nodup)(he:PE X e te)(hi:X.N[i]?=some x:=by rfl)(hx:LQ X.env.scope x:=by first | exact Or.inl rfl | exact Or.inr rfl)(hs:swapsWith e (some (.Name x pos')) pos.line X.env=pure false:=by rfl)(hf:X.fn x=true\/X.env.scope.names.lookup x=some .local:=by first | exact .inl rfl | exact .inr rfl | assumption):PS X (.Assign [.Name x pos'] e pos) (fR te (Vd i)):=jO hN hi hx he hs hf
end
section
variable{X:Cx}{pos:Pos}
noncomputable def JF(c:TT)(tb:TS):TS:=fun D σ H=>∃W:Nat->St->Hp->Prop,(∃m,W m σ H)/\∀m σ H,W m σ H →
 c σ H fun b H1=>if b=true then ∃N:St->Hp->Prop,(∀σ' H',N σ' H'->∃m',m'<m/\W m' σ' H')/\tb { D with nx:=N,ct:=N,bk:=D.nx } σ H1 else D.nx σ H1
theorem Rv{c:Expr}{body:List Stmt}{tc:TT}{tb:TS}(hp:PassesOwn (model X.prog X.w) X.A X.env X.xe)(hc:PT X c tc)(hb:CF X body tb):PS X (.While c body [] pos) (JF tc tb):=by
 intro Ae s σ H D I h;obtain⟨W,⟨m0,w0⟩,turn⟩:=h;refine wpAny_While (codeAny_whileLoop (fun n s'=>∃σ' H',Bd X Ae σ' H' s'/\W n σ' H') ?_ m0 ⟨σ,H,I,w0⟩);rintro n s1 ⟨σ1,H1,I1,w1⟩;refine ql2 hp (C8 (hc Ae s1 σ1 H1 _ I1 (turn n σ1 H1 w1)) fun b s2 _z=>?_);obtain⟨H2,I2,q2⟩:=_z;cases b with
 | true =>
   obtain⟨N,hN,q2⟩:=q2;rw[if_pos rfl];refine ql2 hp (C8 (hb Ae s2 σ1 H2 _ I2 q2) fun f s3 q3=>?_);cases f with
   | next =>
     obtain⟨σ3,H3,I3,n3⟩:=q3;obtain⟨m',hm,w3⟩:=hN σ3 H3 n3;exact⟨m',hm,σ3,H3,I3,w3⟩
   | cont =>
     obtain⟨σ3,H3,I3,n3⟩:=q3;obtain⟨m',hm,w3⟩:=hN σ3 H3 n3;exact⟨m',hm,σ3,H3,I3,w3⟩
   | brk=>exact q3
   | ret v=>exact q3
 | false =>
   rw[if_neg qc2];exact qq1 ⟨σ1,H2,I2,q2⟩
end
structure It where
 go:Nat->Hp->Prop
 yld:Nat->Hp->V->Hp->Prop
 stop:Nat->Hp->Prop
noncomputable def L8(X:Cx)(Ae:Ba)(H:Hp)(b:Addr):Prop :=
 H b=none/\b≠X.env.locals/\b ∉ X.fs/\(b∈X.ex\/X.s₀.heap.objs.size<=b)/\(∀x c,X.env.cells.lookup x=some c->c≠b)/\∀p∈X.pn++Ae,p.1≠b
theorem Bd.fpOk{X:Cx}{Ae:Ba}{σ:St}{H H':Hp}{s:Shared}{b:Addr}(I:Bd X Ae σ H s)(hb:s.heap.objs.size<=b)(hn:H' b=none):L8 X Ae H' b:=by
 refine⟨hn,qe7 (qd0 I.lt hb),I.nofs hb,.inr (qe1 I.sz hb),fun x c e z=>?_,fun p hp z=>?_⟩
 . obtain⟨v,q⟩:=I.cell x c e;exact absurd (qd0 q.lt (by rw[z];exact hb)) (ql8 _)
 . exact absurd (qd0 (qb0 (I.pin p hp).1) (by rw[z];exact hb)) (ql8 _)
structure Xt(P:Program)(w:World)(K:W.Frag)(tg:Expr)(J:It)(fp:List Addr)(it:Addr)(tn:Nat->Heap->Prop):Prop where
 mem:it∈fp
 obj:∀i h,tn i h->∀b∈fp,∃o,h.get? b=some o/\∀v,o.data≠.cell v
 keep:∀i h h',tn i h->(∀b∈fp,∀o,h.get? b=some o->h'.get? b=some o)->tn i h'
 item:∀(X:Cx),X.prog=P->X.w=w->X.K=K->X.calm=true->∀(i:Nat) (Ae:Ba) (s:Shared) (σ:St) (H:Hp) (E:Value->Shared->Prop),Bd X Ae σ H s->(∀b∈fp,L8 X Ae H b)->tn i s.heap->J.go i H →
  wpAny (model P w) X.A (pyNext (.ref it)) (fun r s1=>∃u,r=some u ∧
   wpAny (model P w) X.A (letOwnedTupleGo tg (.ref it) u) (fun _ s2=>∃x H',Bd X Ae σ H' s2/\RelV x u/\J.yld i H x H'/\tn (i+1) s2.heap/\∀b∈fp,H' b=none) E s1) E s
 done:∀(X:Cx),X.prog=P->X.w=w->X.K=K->X.calm=true->∀(i:Nat) (Ae:Ba) (s:Shared) (σ:St) (H:Hp) (E:Value->Shared->Prop),Bd X Ae σ H s->(∀b∈fp,L8 X Ae H b)->tn i s.heap->J.stop i H →
  wpAny (model P w) X.A (pyNext (.ref it)) (fun r s1=>r=none/\Bd X Ae σ H s1) E s
 self:∀(A:Around) (i:Nat) (s:Shared) (Q:Value->Shared->Prop) (E:Value->Shared->Prop),tn i s.heap->Q (.ref it) s->wpAny (model P w) A (pyIter (.ref it)) Q E s
noncomputable abbrev TI:=St->Hp->(It->Hp->Prop)->Prop
noncomputable def uT(X:Cx)(Ae:Ba)(σ:St)(tg:Expr)(R:It->Hp->Prop)(itv:Value)(s2:Shared):Prop :=
 ∃(it:Addr) (fp:List Addr) (tn:Nat->Heap->Prop) (J:It) (H':Hp),itv=.ref it/\Bd X Ae σ H' s2/\Xt X.prog X.w X.K tg J fp it tn/\tn 0 s2.heap/\(∀b∈fp,L8 X Ae H' b)/\R J H'
noncomputable def PI(X:Cx)(tg iter:Expr)(wi:TI):Prop :=
 ∀(Ae:Ba) (s:Shared) (σ:St) (H:Hp) (R:It->Hp->Prop),Bd X Ae σ H s->wi σ H R →
   wpAny (model X.prog X.w) X.A (eval iter X.env) (fun v s1=>wpAny (model X.prog X.w) X.A (pyIter v) (uT X Ae σ tg R) X.xe s1) X.xe s
theorem aF{M:Model}{A:Around}{E:Value->Shared->Prop}{s:Shared}{tg:Expr}{it:Addr}{u:Value}{o:Obj}{n:String}{vs:Array Value}{Q:Unit->Shared->Prop}(ho:s.heap.get? it=some o)(hc:o.cls=.type n)(hd:o.data=.fields vs)
 (hn:["enumerate","zip","dict_itemiterator","dict_reverseitemiterator","odict_iterator","itertools.zip_longest","itertools.pairwise"].contains n=false) (hQ:Q () s):wpAny M A (letOwnedTupleGo tg (.ref it) u) Q E s:=by
 unfold letOwnedTupleGo
 cases tg<;>first
  | exact qb2 hQ
  | (cases u<;>first
      | exact qb2 hQ
      | (refine qa5 (wpAny_load ho ?_)
         rw[hc,hd];show wpAny M A (if (["enumerate","zip","dict_itemiterator","dict_reverseitemiterator","odict_iterator","itertools.zip_longest","itertools.pairwise"].contains n&&vs[0]?==some (rawInt _))=true then _ else _) Q E s;rw[if_neg (by intro h;rw[hn,Bool.false_and]at h;cases h)];exact qb2 hQ))
noncomputable def LR(K:W.Frag)(a:Addr):It :=
 ⟨fun i H=>∃xs x,SqL K H a xs/\xs[i]?=some x,fun i H x H'=>H'=H/\∀xs,SqL K H a xs->xs[i]?=some x,fun i H=>∃xs,SqL K H a xs/\xs.length<=i⟩
noncomputable def lR(K:W.Frag)(a:Addr):It :=
 ⟨fun i H=>∃xs x,Dv K H a xs/\xs[i]?=some x,fun i H x H'=>H'=H/\∀xs,Dv K H a xs->xs[i]?=some x,fun i H=>∃xs,Dv K H a xs/\xs.length<=i⟩
noncomputable def jA(lo:Int)(n:Nat):It:=⟨fun i _=>i<n,fun i H x H'=>H'=H/\x=.int (lo+i),fun i _=>n<=i⟩
theorem aV{P:Program}{w:World}{K:W.Frag}{tg:Expr}(a it:Addr):Xt P w K tg (LR K a) [it] it (fun i h=>h.IsListIter it a i) where
 mem:=by simp
 obj:=fun i h st b hb=>by
  have e:b=it:=by simpa using hb
  subst e;obtain⟨o,e,c,d⟩:=st;exact⟨o,e,fun v z=>by rw[d]at z;cases z⟩
 keep:=fun i h h' st k=>st.at fun o e=>k it (by simp) o e
 item:=by
  intro X hP hw hK hc i Ae s σ H E I hf st hg;subst hP hw hK;obtain⟨xs,x,hq,hx⟩:=hg;obtain⟨its,rv,p,hz⟩:=I.list hq;obtain⟨u,hu,ru⟩:=rv.get hx;obtain⟨f0,f1,f2,f3,f4,f5⟩:=hf it (by simp);refine wpAny_pyNext_list_item st p.isList (x:=u) (by simpa using hu) fun h' st' sb=>?_;have I1:Bd X Ae σ H { s with heap:=h' }:=I.turned (t':=s.toks) (fun b o hb e=>(sb.2 b hb).trans e) f0 f1 f3 f4 f5;obtain⟨o,e,c,d⟩:=id st';exact⟨u,rfl,aF (s:={ s with heap:=h' }) e c d (by decide) ⟨x,H,I1,ru,⟨rfl,fun ys hy=>by rw[I.list_inj hy hq];exact hx⟩,st',fun b hb=>(hf b hb).1⟩⟩
 done:=by
  intro X hP hw hK hc i Ae s σ H E I hf st hg;subst hP hw hK;obtain⟨xs,hq,hx⟩:=hg;obtain⟨its,rv,p,hz⟩:=I.list hq;obtain⟨f0,f1,f2,f3,f4,f5⟩:=hf it (by simp);have hl:=rv.length;exact wpAny_pyNext_list_end (I.ok.hd hc) st p.isList (by simp;omega) fun h' eb=>⟨rfl,I.turned (t':=s.toks) (fun b o hb e=>eb b o hb e) f0 f1 f3 f4 f5⟩
 self:=fun _ _ _ _ _ st h=>wpAny_pyIter_listiter st h
theorem Z1{P:Program}{w:World}{K:W.Frag}{tg:Expr}(a it:Addr):Xt P w K tg (lR K a) [it] it (fun i h=>h.IsTupleIter it a i) where
 mem:=by simp
 obj:=fun i h st b hb=>by
  have e:b=it:=by simpa using hb
  subst e;obtain⟨o,e,c,d⟩:=st;exact⟨o,e,fun v z=>by rw[d]at z;cases z⟩
 keep:=fun i h h' st k=>st.at fun o e=>k it (by simp) o e
 item:=by
  intro X hP hw hK hc i Ae s σ H E I hf st hg;subst hP hw hK;obtain⟨xs,x,hq,hx⟩:=hg;obtain⟨its,rv,p,hz⟩:=I.tuple hq;obtain⟨u,hu,ru⟩:=rv.get hx;obtain⟨f0,f1,f2,f3,f4,f5⟩:=hf it (by simp);refine wpAny_pyNext_tuple_item st (show s.heap.IsTuple a its.toArray from p) (x:=u) (by simpa using hu) fun h' st' sb=>?_;have I1:Bd X Ae σ H { s with heap:=h' }:=I.turned (t':=s.toks) (fun b o hb e=>(sb.2 b hb).trans e) f0 f1 f3 f4 f5;obtain⟨o,e,c,d⟩:=id st';exact⟨u,rfl,aF (s:={ s with heap:=h' }) e c d (by decide) ⟨x,H,I1,ru,⟨rfl,fun ys hy=>by rw[I.tuple_inj hy hq];exact hx⟩,st',fun b hb=>(hf b hb).1⟩⟩
 done:=by
  intro X hP hw hK hc i Ae s σ H E I hf st hg;subst hP hw hK;obtain⟨xs,hq,hx⟩:=hg;obtain⟨its,rv,p,hz⟩:=I.tuple hq;obtain⟨f0,f1,f2,f3,f4,f5⟩:=hf it (by simp);have hl:=rv.length;exact wpAny_pyNext_tuple_end (I.ok.hd hc) st (show s.heap.IsTuple a its.toArray from p) (by simp;omega) fun h' eb=>⟨rfl,I.turned (t':=s.toks) (fun b o hb e=>eb b o hb e) f0 f1 f3 f4 f5⟩
 self:=fun _ _ _ _ _ st h=>wpAny_pyIter_tupleiter st h
theorem Z2{P:Program}{w:World}{K:W.Frag}{tg:Expr}(it:Addr)(lo:Int)(n:Nat):Xt P w K tg (jA lo n) [it] it (fun i h=>IsRangeIter h it (lo+(i:Nat)*1) ((n:Int)-(i:Nat)) 1) where
 mem:=by simp
 obj:=fun i h st b hb=>by
  have e:b=it:=by simpa using hb
  subst e
  exact⟨_,st,fun v z=>by
   have z':Data.fields _=Data.cell v:=z;cases z'⟩
 keep:=fun i h h' st k=>k it (by simp) _ st
 item:=by
  intro X hP hw hK hc i Ae s σ H E I hf st hg;subst hP hw hK;obtain⟨f0,f1,f2,f3,f4,f5⟩:=hf it (by simp);have W:=Walks.range (prog:=X.prog) (w:=X.w) (I.ok.hd hc) it lo 1 n;refine W.item i s _ _ hg st fun v h' tk hv st' kk=>?_;obtain⟨t,rfl⟩:=hv;have I1:Bd X Ae σ H { s with heap:=h',toks:=tk }:=I.turned (fun b o hb e=>kk b o (by simpa using hb) e) f0 f1 f3 f4 f5;refine⟨_,rfl,aF (s:={ s with heap:=h',toks:=tk }) (n:="range_iterator") st' rfl rfl (by decide) ⟨.int (lo+i),H,I1,⟨t,?_⟩,⟨rfl,rfl⟩,st',fun b hb=>(hf b hb).1⟩⟩;rw[Int.mul_one]
 done:=by
  intro X hP hw hK hc i Ae s σ H E I hf st hg;subst hP hw hK;obtain⟨f0,f1,f2,f3,f4,f5⟩:=hf it (by simp);exact wpAny_pyNext_range_end (I.ok.hd hc) st (by have:n<=i:=hg;omega) fun h' eb=>⟨rfl,I.turned (t':=s.toks) (fun b o hb e=>eb b o hb e) f0 f1 f3 f4 f5⟩
 self:=fun _ _ _ _ _ st h=>wpAny_pyIter_rangeiter st h
section
variable{X:Cx}{tg:Expr}
noncomputable def IP(K:W.Frag)(tl:TE):TI:=fun σ H R=>tl σ H fun x H1=>∃a,x=.ref a/\(∃xs,SqL K H1 a xs)/\R (LR K a) H1
noncomputable def NV(K:W.Frag)(tl:TE):TI:=fun σ H R=>tl σ H fun x H1=>∃a,x=.ref a/\(∃xs,Dv K H1 a xs)/\R (lR K a) H1
theorem gG{l:Expr}{tl:TE}(hl:PE X l tl):PI X tg l (IP X.K tl):=by
 intro Ae s σ H R I h;refine C8 (hl Ae s σ H _ I h) fun v s1 _z=>?_;obtain⟨x,H1,I1,r1,q1⟩:=_z;obtain⟨a,e,⟨xs,hq⟩,q⟩:=q1;subst e;cases r1;obtain⟨its,rv,p,hz⟩:=I1.list hq;refine wpAny_pyIter_list p.isList ?_;refine⟨s1.heap.objs.size,[s1.heap.objs.size],_,_,H1,rfl,I1.kept (t':=s1.toks) fun b o e=>qa7 _ e,aV a _,⟨_,qc0 _ rfl,rfl,rfl⟩,fun b hb=>?_,q⟩;have e:b=s1.heap.objs.size:=by simpa using hb
 subst e;exact I1.fpOk (qa9 _) (I1.hok.fresh (qa9 _))
theorem jP{l:Expr}{tl:TE}(hl:PE X l tl):PI X tg l (NV X.K tl):=by
 intro Ae s σ H R I h;refine C8 (hl Ae s σ H _ I h) fun v s1 _z=>?_;obtain⟨x,H1,I1,r1,q1⟩:=_z;obtain⟨a,e,⟨xs,hq⟩,q⟩:=q1;subst e;cases r1;obtain⟨its,rv,p,hz⟩:=I1.tuple hq;refine wpAny_pyIter_tuple (show s1.heap.IsTuple a its.toArray from p) ?_;refine⟨s1.heap.objs.size,[s1.heap.objs.size],_,_,H1,rfl,I1.kept (t':=s1.toks) fun b o e=>qa7 _ e,Z1 a _,⟨_,qc0 _ rfl,rfl,rfl⟩,fun b hb=>?_,q⟩;have e:b=s1.heap.objs.size:=by simpa using hb
 subst e;exact I1.fpOk (qa9 _) (I1.hok.fresh (qa9 _))
theorem cY{Ae:Ba}{σ:St}{H:Hp}{s:Shared}{R:It->Hp->Prop}{E:Value->Shared->Prop}{lo hi:Int}{t u v:Tok}{tk:Nat}(I:Bd X Ae σ H s)(h1:-(2 ^ 62)<=lo)(h2:lo<2 ^ 62)(h3:-(2 ^ 62)<=hi)(h4:hi<2 ^ 62)
 (q:R (jA lo (hi-lo).toNat) H):wpAny (model X.prog X.w) X.A (pyIter (.ref s.heap.objs.size)) (uT X Ae σ tg R) E { s with heap:=s.heap.push { cls:=.type "range",data:=.fields #[.int lo t,.int hi u,.int 1 v] },toks:=tk }:=by
 refine wpAny_pyIter_range (IsRange.new ..) (small_one h1 h2 h3 h4) ?_;have I1:Bd X Ae σ H { s with heap:=s.heap.push { cls:=.type "range",data:=.fields #[.int lo t,.int hi u,.int 1 v] },toks:=tk }:=I.kept fun b o e=>qa7 _ e
 refine⟨(s.heap.push { cls:=.type "range",data:=.fields #[.int lo t,.int hi u,.int 1 v] }).objs.size,[(s.heap.push { cls:=.type "range",data:=.fields #[.int lo t,.int hi u,.int 1 v] }).objs.size],_,_,H,rfl,
  I1.kept (t':=tk) fun b o e=>qa7 _ e,Z2 _ lo (hi-lo).toNat,?_,fun b hb=>?_,q⟩
 . have e1:lo+((0:Nat):Int)*1=lo:=by simp
   have e2:(((hi-lo).toNat:Nat):Int)-((0:Nat):Int)=Builtin.Range.rangeSize lo hi 1:=by rw[rangeSize_one];split<;>omega
   show IsRangeIter _ _ (lo+((0:Nat):Int)*1) ((((hi-lo).toNat:Nat):Int)-((0:Nat):Int)) 1;rw[e1,e2];exact qc0 _ rfl
 . have e:b=(s.heap.push { cls:=.type "range",data:=.fields #[.int lo t,.int hi u,.int 1 v] }).objs.size:=by simpa using hb
   subst e;exact I1.fpOk (qa9 _) (I1.hok.fresh (qa9 _))
noncomputable def nW(ta:TA):TI:=fun σ H R=>ta σ H fun vs H1=>∃j:Int,vs=[.int j]/\-(2 ^ 62)<=j/\j<2 ^ 62/\R (jA 0 j.toNat) H1
theorem Bu{a:Expr}{ta:TA}{p pos:Pos}(hg:Gl X "range")(hm:X.mg "range"=none)(ha:PA X [a] ta)(hs:starEach [a] X.env=[(false,eval a X.env)]:=by rfl):PI X tg (.Call (.Name "range" p) [a] [] pos) (nW ta):=by
 intro Ae s σ H R I h;refine Call_ (Iw I hg hm boot_range (qf4 (C8 (ha pos Ae s σ H _ I h) fun us s1 _z=>?_) hs rfl));obtain⟨vs,H1,I1,r1,q1⟩:=_z;obtain⟨j,e,q1,q2,q⟩:=q1;subst e;cases r1 with
 | cons r rr =>
   cases rr;obtain⟨t,rfl⟩:=r;exact call_range_1 (cY I1 O9m O9m q1 q2 (by simpa using q))
noncomputable def QC(wi:TI)(g:TG)(tb:TS):TS:=fun D σ H=>wi σ H fun J H1=>∃W:Nat->Nat->St->Hp->Prop,(∃m,W 0 m σ H1)/\∀i m σ H,W i m σ H →
 (J.stop i H/\D.nx σ H)\/(J.go i H/\∃N:St->Hp->Prop,(∀σ' H',N σ' H'->∃m',m'<m/\W (i+1) m' σ' H')/\∀x H',J.yld i H x H'->g x σ H' fun σ2 H2=>tb { D with nx:=N,ct:=N,bk:=D.nx } σ2 H2)
noncomputable def Rw(fp:List Addr)(h:Heap):Ba:=fp.filterMap fun b=>(h.get? b).map fun o=>(b,o)
theorem J2{fp:List Addr}{h:Heap}{b:Addr}{o:Obj}(hb:b∈fp)(e:h.get? b=some o):(b,o)∈Rw fp h:=List.mem_filterMap.mpr ⟨b,hb,by rw[e];rfl⟩
theorem bG{fp:List Addr}{h:Heap}{p:Addr × Obj}(hp:p∈Rw fp h):p.1∈fp/\h.get? p.1=some p.2:=by
 obtain⟨b,hb,e⟩:=List.mem_filterMap.mp hp;cases q:h.get? b with
 | none=>rw[q]at e;cases e
 | some o =>
   rw[q]at e;have e':(b,o)=p:=qb6 e;subst e';exact⟨hb,q⟩
theorem Bd.pinned{Ae:Ba}{σ:St}{H:Hp}{s:Shared}{fp:List Addr}(I:Bd X Ae σ H s)(hf:∀b∈fp,L8 X Ae H b)(ho:∀b∈fp,∃o,s.heap.get? b=some o/\∀v,o.data≠.cell v):Bd X (Ae++Rw fp s.heap) σ H s :=
 I.pins_of fun p hp=>(qd5.mp hp).elim (fun z=>I.pin p (qf1 _ z)) fun z=>by
  obtain⟨hb,e⟩:=bG z;obtain⟨f0,f1,f2,_⟩:=hf p.1 hb;obtain⟨o,e',d⟩:=ho p.1 hb;rw[e]at e';cases e';exact⟨e,f0,f1,f2,d⟩
theorem Bd.unpinned{Ae pl:Ba}{σ:St}{H:Hp}{s:Shared}(I:Bd X (Ae++pl) σ H s):Bd X Ae σ H s:=I.pins_of fun p hp=>I.pin p (qf1 _ (ql1 _ hp))
theorem Ce{iter:Expr}{body:List Stmt}{wi:TI}{g:TG}{tb:TS}{pos:Pos}(hp:PassesOwn (model X.prog X.w) X.A X.env X.xe)(hc:X.calm=true)(hi:PI X tg iter wi)(hg:PG X tg g)(hb:CF X body tb)
 (hs:∀x,foldedSetIterable iter X.env x=pure x:=by intro _;rfl):PS X (.For tg iter body [] pos) (QC wi g tb):=by
 intro Ae s σ H D I h;refine wpAny_For (C8 (hi Ae s σ H _ I h) fun v s1 h1=>C8 h1 fun itv s2 h2=>?_) hs;obtain⟨it,fp,tn,J,H2,e,I2,T,st2,f2,W,⟨m0,w0⟩,turn⟩:=h2;subst e;have Z5:∀{H':Hp},(∀b∈fp,H' b=none)->∀b∈fp,L8 X Ae H' b:=fun hn b hb=>⟨hn b hb,(f2 b hb).2⟩
 refine codeAny_forLoop_any (fun n s'=>∃i σ' H',Bd X Ae σ' H' s'/\tn i s'.heap/\(∀b∈fp,H' b=none)/\W i n σ' H') ?_ m0 ⟨0,σ,H2,I2,st2,fun b hb=>(f2 b hb).1,w0⟩;rintro n s3 ⟨i,σ3,H3,I3,st3,oJ,w3⟩;rcases turn i n σ3 H3 w3 with⟨stop,qn⟩|⟨go,N,hN,step⟩
 . refine ql2 hp (C8 (T.done X rfl rfl rfl hc i Ae s3 σ3 H3 X.xe I3 (Z5 oJ) st3 stop) fun r s4 _z=>?_);obtain⟨hr,I4⟩:=_z;subst hr;exact qq1 ⟨σ3,H3,I4,qn⟩
 . refine ql2 hp (C8 (T.item X rfl rfl rfl hc i Ae s3 σ3 H3 X.xe I3 (Z5 oJ) st3 go) fun r s4 _z=>?_);obtain⟨u,hr,h4⟩:=_z;subst hr;refine ql2 hp (C8 h4 fun _ s5 _z=>?_);obtain⟨x,H5,I5,r5,y5,JI,SN⟩:=_z;have SX:=I5.pinned (Z5 SN) (T.obj _ _ JI);refine ql2 hp (C8 (hg _ s5 σ3 H5 x u _ SX r5 (step x H5 y5)) fun _ s6 _z=>?_);obtain⟨σ6,H6,I6,q6⟩:=_z;refine ql2 hp (C8 (hb _ s6 σ6 H6 _ I6 q6) fun f s7 q7=>?_)
   have again:∀{σ7:St}{H7:Hp},Bd X (Ae++Rw fp s5.heap) σ7 H7 s7->N σ7 H7->∃m,m<n/\∃i σ' H',Bd X Ae σ' H' s7/\tn i s7.heap/\(∀b∈fp,H' b=none)/\W i m σ' H':=fun {σ7 H7} I7 n7=>by
    obtain⟨m',hm,w7⟩:=hN σ7 H7 n7;refine⟨m',hm,i+1,σ7,H7,I7.unpinned,T.keep _ _ _ JI fun b hb o e=>(I7.pin (b,o) (qf1 _ (qf1 _ (J2 hb e)))).1,fun b hb=>?_,w7⟩;obtain⟨o,e,d⟩:=T.obj _ _ JI b hb;exact(I7.pin (b,o) (qf1 _ (qf1 _ (J2 hb e)))).2.1
   cases f with
   | next=>obtain⟨σ7,H7,I7,n7⟩:=q7;exact again I7 n7
   | cont=>obtain⟨σ7,H7,I7,n7⟩:=q7;exact again I7 n7
   | brk=>obtain⟨σ7,H7,I7,q7⟩:=q7;exact⟨σ7,H7,I7.unpinned,q7⟩
   | ret v=>obtain⟨x7,σ7,H7,I7,r7,q7⟩:=q7;exact⟨x7,σ7,H7,I7.unpinned,r7,q7⟩
end
theorem for_list{K:W.Frag}{a:Addr}{xs:List V}{g:TG}{tb:TS}{D:Ends}{σ:St}{H:Hp}(Pv:Nat->St->Hp->Prop)(h0:Pv 0 σ H)(hl:∀i σ H,i<=xs.length->Pv i σ H->SqL K H a xs)
 (hs:∀i x σ H,xs[i]?=some x->Pv i σ H->g x σ H fun σ2 H2=>tb { D with nx:=Pv (i+1),ct:=Pv (i+1),bk:=D.nx } σ2 H2) (hd:∀σ H,Pv xs.length σ H->D.nx σ H) :
 ∃W:Nat->Nat->St->Hp->Prop,(∃m,W 0 m σ H)/\∀i m σ H,W i m σ H →
   ((LR K a).stop i H/\D.nx σ H)\/((LR K a).go i H/\∃N:St->Hp->Prop,(∀σ' H',N σ' H'->∃m',m'<m/\W (i+1) m' σ' H')/\∀x H',(LR K a).yld i H x H'->g x σ H' fun σ2 H2=>tb { D with nx:=N,ct:=N,bk:=D.nx } σ2 H2):=by
 refine⟨fun i m σ H=>m=xs.length-i/\i<=xs.length/\Pv i σ H,⟨xs.length,by simp,qb3 _,h0⟩,?_⟩;rintro i m σ H ⟨rfl,hi,p⟩;have q:=hl i σ H hi p;by_cases hlt:i<xs.length
 . refine .inr ⟨⟨xs,xs[i],q,by simp[hlt]⟩,Pv (i+1),fun σ' H' p'=>⟨xs.length-(i+1),O9m,rfl,hlt,p'⟩,fun x H' y=>?_⟩;obtain⟨e,y⟩:=y;subst e;exact hs i x σ _ (y xs q) p
 . have e:i=xs.length:=O9m
   subst e;exact .inl ⟨⟨xs,q,qa9 _⟩,hd σ H p⟩
theorem aG{K:W.Frag}{a:Addr}{xs:List V}{g:TG}{tb:TS}{D:Ends}{σ:St}{H:Hp}(Pv:Nat->St->Hp->Prop)(h0:Pv 0 σ H)(hl:∀i σ H,i<=xs.length->Pv i σ H->Dv K H a xs)
 (hs:∀i x σ H,xs[i]?=some x->Pv i σ H->g x σ H fun σ2 H2=>tb { D with nx:=Pv (i+1),ct:=Pv (i+1),bk:=D.nx } σ2 H2) (hd:∀σ H,Pv xs.length σ H->D.nx σ H) :
 ∃W:Nat->Nat->St->Hp->Prop,(∃m,W 0 m σ H)/\∀i m σ H,W i m σ H →
   ((lR K a).stop i H/\D.nx σ H)\/((lR K a).go i H/\∃N:St->Hp->Prop,(∀σ' H',N σ' H'->∃m',m'<m/\W (i+1) m' σ' H')/\∀x H',(lR K a).yld i H x H'->g x σ H' fun σ2 H2=>tb { D with nx:=N,ct:=N,bk:=D.nx } σ2 H2):=by
 refine⟨fun i m σ H=>m=xs.length-i/\i<=xs.length/\Pv i σ H,⟨xs.length,by simp,qb3 _,h0⟩,?_⟩;rintro i m σ H ⟨rfl,hi,p⟩;have q:=hl i σ H hi p;by_cases hlt:i<xs.length
 . refine .inr ⟨⟨xs,xs[i],q,by simp[hlt]⟩,Pv (i+1),fun σ' H' p'=>⟨xs.length-(i+1),O9m,rfl,hlt,p'⟩,fun x H' y=>?_⟩;obtain⟨e,y⟩:=y;subst e;exact hs i x σ _ (y xs q) p
 . have e:i=xs.length:=O9m
   subst e;exact .inl ⟨⟨xs,q,qa9 _⟩,hd σ H p⟩
theorem Cm{lo:Int}{n:Nat}{g:TG}{tb:TS}{D:Ends}{σ:St}{H:Hp}(Pv:Nat->St->Hp->Prop)(h0:Pv 0 σ H)
 (hs:∀i σ H,i<n->Pv i σ H->g (.int (lo+i)) σ H fun σ2 H2=>tb { D with nx:=Pv (i+1),ct:=Pv (i+1),bk:=D.nx } σ2 H2) (hd:∀σ H,Pv n σ H->D.nx σ H) :
 ∃W:Nat->Nat->St->Hp->Prop,(∃m,W 0 m σ H)/\∀i m σ H,W i m σ H →
   ((jA lo n).stop i H/\D.nx σ H)\/((jA lo n).go i H/\∃N:St->Hp->Prop,(∀σ' H',N σ' H'->∃m',m'<m/\W (i+1) m' σ' H')/\∀x H',(jA lo n).yld i H x H'->g x σ H' fun σ2 H2=>tb { D with nx:=N,ct:=N,bk:=D.nx } σ2 H2):=by
 refine⟨fun i m σ H=>m=n-i/\i<=n/\Pv i σ H,⟨n,by simp,qb3 _,h0⟩,?_⟩;rintro i m σ H ⟨rfl,hi,p⟩;by_cases hlt:i<n
 . refine .inr ⟨hlt,Pv (i+1),fun σ' H' p'=>⟨n-(i+1),O9m,rfl,hlt,p'⟩,fun x H' y=>?_⟩;obtain⟨e,y⟩:=y;subst e y;exact hs i σ _ hlt p
 . have e:i=n:=O9m
   subst e;exact .inl ⟨qa9 _,hd σ H p⟩
noncomputable abbrev R2:=V->V->Hp->VK->Prop
noncomputable def OpR(X:Cx)(f:Value->Value->Sem Value)(r:R2):Prop :=
 ∀(Ae:Ba) (s:Shared) (σ:St) (H:Hp) (x y:V) (v u:Value) (Q:VK),Bd X Ae σ H s->RelV x v->RelV y u->r x y H Q →
   wpAny (model X.prog X.w) X.A (f v u) (EP X Ae σ Q) X.xe s
noncomputable def sU(X:Cx)(f:Value->Sem Value)(r:V->Hp->VK->Prop):Prop :=
 ∀(Ae:Ba) (s:Shared) (σ:St) (H:Hp) (x:V) (v:Value) (Q:VK),Bd X Ae σ H s->RelV x v->r x H Q →
   wpAny (model X.prog X.w) X.A (f v) (EP X Ae σ Q) X.xe s
noncomputable def E9(X:Cx)(f:Value)(r:List V->Hp->VK->Prop):Prop :=
 ∀(Ae:Ba) (s:Shared) (σ:St) (H:Hp) (xs:List V) (us:List Value) (Q:VK),Bd X Ae σ H s->Vals xs us->r xs H Q →
   wpAny (model X.prog X.w) X.A (call f us) (EP X Ae σ Q) X.xe s
noncomputable def mR(r:R2)(ta tb:TE):TE:=fun σ H Q=>ta σ H fun x H1=>tb σ H1 fun y H2=>r x y H2 Q
noncomputable def vC(r:V->Hp->VK->Prop)(ta:TE):TE:=fun σ H Q=>ta σ H fun x H1=>r x H1 Q
noncomputable def rI(C:Int->Int->Prop)(g:Int->Int->V):R2:=fun x y H Q=>∃i j,x=.int i/\y=.int j/\C i j/\Q (g i j) H
noncomputable def iL(g:Int->Int->V):R2:=fun x y H Q=>∃i j,x=.int i/\y=.int j/\Q (g i j) H
noncomputable def rU(g:Int->V):V->Hp->VK->Prop:=fun x H Q=>∃i,x=.int i/\Q (g i) H
section
variable{X:Cx}{a b c:Expr}{ta tb tc:TE}{pos:Pos}
theorem LL(ha:PE X a ta)(hb:PE X b tb){Ae:Ba}{s:Shared}{σ:St}{H:Hp}{R:V->V->Hp->Prop}(I:Bd X Ae σ H s)
 (h:ta σ H fun x H1=>tb σ H1 fun y H2=>R x y H2) {Q:Value->Shared->Prop}{f:Value->Value->Sem Value}
 (hf:∀v u s2 x y H2,Bd X Ae σ H2 s2->RelV x v->RelV y u->R x y H2->wpAny (model X.prog X.w) X.A (f v u) Q X.xe s2) :
 wpAny (model X.prog X.w) X.A (eval a X.env) (fun v s₁=>wpAny (model X.prog X.w) X.A (eval b X.env) (fun u s₂=>wpAny (model X.prog X.w) X.A (f v u) Q X.xe s₂) X.xe s₁) X.xe s:=by
 refine C8 (ha Ae s σ H _ I h) fun v s1 _z=>?_;obtain⟨x,H1,I1,r1,q1⟩:=_z;refine C8 (hb Ae s1 σ H1 _ I1 q1) fun u s2 _z=>?_;obtain⟨y,H2,I2,r2,q2⟩:=_z;exact hf v u s2 x y H2 I2 r1 r2 q2
theorem Ay{op:Operator}{r:R2}(ho:OpR X (binaryOp op) r)(ha:PE X a ta)(hb:PE X b tb):PE X (.BinOp a op b pos) (mR r ta tb):=by
 intro Ae s σ H Q I h;exact wpAny_BinOp (LL ha hb I h fun v u s2 x y H2 I2 rx ry q=>ho Ae s2 σ H2 x y v u Q I2 rx ry q)
theorem nH{op:UnaryOp}{r:V->Hp->VK->Prop}(ho:sU X (unaryOp op) r)(ha:PE X a ta):PE X (.UnaryOp op a pos) (vC r ta):=by
 intro Ae s σ H Q I h;exact UnaryOp_ (C8 (ha Ae s σ H _ I h) fun v s1 ⟨x,H1,I1,r1,q1⟩=>ho Ae s1 σ H1 x v Q I1 r1 q1)
theorem opI{f:Value->Value->Sem Value}{C:Int->Int->Prop}{g:Int->Int->Int}
 (rule:∀(i j:Int) (t u:Tok) (s:Shared) (Q:Value->Shared->Prop) (E:Value->Shared->Prop),C i j->Q (.int (g i j) s.toks) { s with toks:=s.toks+1 }->wpAny (model X.prog X.w) X.A (f (.int i t) (.int j u)) Q E s) :
 OpR X f (rI C fun i j=>.int (g i j)):=by
 intro Ae s σ H x y v u Q I rx ry h;obtain⟨i,j,rfl,rfl,hc,q⟩:=h;obtain⟨t,rfl⟩:=rx;obtain⟨t',rfl⟩:=ry;exact rule i j t t' s _ _ hc ⟨.int (g i j),H,I.tok _,⟨_,rfl⟩,q⟩
theorem NJ{f:Value->Value->Sem Value}{g:Int->Int->Int}
 (rule:∀(i j:Int) (t u:Tok) (s:Shared) (Q:Value->Shared->Prop) (E:Value->Shared->Prop),Q (.int (g i j) s.toks) { s with toks:=s.toks+1 }->wpAny (model X.prog X.w) X.A (f (.int i t) (.int j u)) Q E s) :
 OpR X f (iL fun i j=>.int (g i j)):=by
 intro Ae s σ H x y v u Q I rx ry h;obtain⟨i,j,rfl,rfl,q⟩:=h;obtain⟨t,rfl⟩:=rx;obtain⟨t',rfl⟩:=ry;exact rule i j t t' s _ _ ⟨.int (g i j),H,I.tok _,⟨_,rfl⟩,q⟩
theorem GN{f:Value->Value->Sem Value}{g:Int->Int->Bool}
 (rule:∀(i j:Int) (t u:Tok) (s:Shared) (Q:Value->Shared->Prop) (E:Value->Shared->Prop),Q (.bool (g i j)) s->wpAny (model X.prog X.w) X.A (f (.int i t) (.int j u)) Q E s) :
 OpR X f (iL fun i j=>.bl (g i j)):=by
 intro Ae s σ H x y v u Q I rx ry h;obtain⟨i,j,rfl,rfl,q⟩:=h;obtain⟨t,rfl⟩:=rx;obtain⟨t',rfl⟩:=ry;exact rule i j t t' s _ _ ⟨.bl (g i j),H,I,rfl,q⟩
noncomputable def SY(i j:Int):Prop:=0<j/\j<1073741824
noncomputable def iE(i j:Int):Prop:=(-(2 ^ 64)<i/\i<2 ^ 64)\/(-(2 ^ 64)<j/\j<2 ^ 64)
theorem iE.ok{i j:Int}(h:iE i j):IntMulOk i j:=by
 rcases h with⟨h1,h2⟩|⟨h1,h2⟩
 . exact .of_left (intBits_le_64 h1 h2)
 . exact .of_right (intBits_le_64 h1 h2)
theorem Dl:OpR X (binaryOp .Add) (iL fun i j=>.int (i+j)):=NJ fun _ _ _ _ _ _ _ q=>add_int q
theorem K3:OpR X (binaryOp .Sub) (iL fun i j=>.int (i-j)):=NJ fun _ _ _ _ _ _ _ q=>sub_int q
theorem Ek:OpR X (binaryOp .FloorDiv) (rI SY fun i j=>.int (i / j)):=opI fun i j _ _ _ _ _ hc q=>by
 have h1:(0:Int)<j:=hc.1;have h2:j<1073741824:=hc.2;exact floordiv_int O9m (by rw[Int.fdiv_eq_ediv_of_nonneg i (by omega)];exact q) (.inl (PyProof.noPylong_small O9m))
theorem Cd:OpR X (binaryOp .Mod) (rI (fun _ j=>0<j) fun i j=>.int (i%j)):=opI fun i j _ _ _ _ _ hc q=>by
 have h1:(0:Int)<j:=hc;exact mod_int' O9m (by rw[Int.fmod_eq_emod_of_nonneg i (by omega)];exact q)
theorem uY{f:Value->Sem Value}{g:Int->Int}
 (rule:∀(i:Int) (t:Tok) (s:Shared) (Q:Value->Shared->Prop) (E:Value->Shared->Prop),Q (.int (g i) s.toks) { s with toks:=s.toks+1 }->wpAny (model X.prog X.w) X.A (f (.int i t)) Q E s) :
 sU X f (rU fun i=>.int (g i)):=by
 intro Ae s σ H x v Q I rx h;obtain⟨i,rfl,q⟩:=h;obtain⟨t,rfl⟩:=rx;exact rule i t s _ _ ⟨.int (g i),H,I.tok _,⟨_,rfl⟩,q⟩
theorem jE:sU X (unaryOp .USub) (rU fun i=>.int (-i)):=uY fun _ _ _ _ _ q=>neg_int q
end
noncomputable def scal:V->V->Bool
 | .non,.non=>true | .non,.int _=>true | .int _,.non=>true | .non,.bl _=>true | .bl _,.non=>true | .non,.str _=>true | .str _,.non=>true
 | .int _,.int _=>true | .bl _,.bl _=>true | .str _,.str _=>true | .byt _,.byt _=>true
 | .int _,.str _=>true | .str _,.int _=>true | .bl _,.str _=>true | .str _,.bl _=>true
 | _,_=>false
noncomputable def VL:R2:=fun x y H Q=>scal x y=true/\Q (.bl (decide (x=y))) H
noncomputable def vJ:R2:=fun x y H Q=>scal x y=true/\Q (.bl (!decide (x=y))) H
theorem AJ{i j:Int}:decide (V.int i=V.int j)=(i==j):=by
 rw[qh2];simp
theorem EU{i j:Bool}:decide (V.bl i=V.bl j)=(i==j):=by
 rw[qh2];simp
theorem aJ{i j:Str}:decide (V.str i=V.str j)=(i==j):=by
 rw[qh2];simp
theorem aK{i j:Array UInt8}:decide (V.byt i=V.byt j)=(i.toList==j.toList):=by
 rw[qh2];cases i;cases j;simp
section
variable{X:Cx}{a b c:Expr}{ta tb tc:TE}{pos:Pos}
theorem B7{Ae:Ba}{σ:St}{H:Hp}{s:Shared}{Q:VK}{k k':Bool}(I:Bd X Ae σ H s)(q:Q (.bl k) H)(e:k=k'):EP X Ae σ Q (.bool k') s:=by
 subst e;exact⟨.bl k,H,I,rfl,q⟩
theorem Cb:OpR X (compareOp .Eq) VL:=by
 intro Ae s σ H x y v u Q I rx ry h;obtain⟨hs,q⟩:=h;cases x with
 | non =>
   cases rx;cases y with
   | non=>cases ry;exact PySem.EqNone.eq_none_none (B7 I q (by simp))
   | bl j=>cases ry;exact PySem.EqNone.eq_none_bool (B7 I q (by simp))
   | int j=>obtain⟨t',rfl⟩:=ry;exact PySem.EqNone.eq_none_int (B7 I q (by simp))
   | str j=>obtain⟨t',rfl⟩:=ry;exact PySem.EqNone.eq_none_str (B7 I q (by simp))
   | _=>exact absurd (show false=true from hs) qc2
 | bl i =>
   cases rx;cases y with
   | non=>cases ry;exact PySem.EqNone.eq_bool_none (B7 I q (by simp))
   | bl j=>cases ry;exact eq_bool (B7 I q EU)
   | str j=>obtain⟨t',rfl⟩:=ry;exact PySem.EqMixed.eq_bool_str (B7 I q (by simp))
   | _=>exact absurd (show false=true from hs) qc2
 | int i =>
   obtain⟨t,rfl⟩:=rx;cases y with
   | non=>cases ry;exact PySem.EqNone.eq_int_none (B7 I q (by simp))
   | int j=>obtain⟨t',rfl⟩:=ry;exact eq_int (B7 I q AJ)
   | str j=>obtain⟨t',rfl⟩:=ry;exact PySem.EqMixed.eq_int_str (B7 I q (by simp))
   | _=>exact absurd (show false=true from hs) qc2
 | str i =>
   obtain⟨t,rfl⟩:=rx;cases y with
   | non=>cases ry;exact PySem.EqNone.eq_str_none (B7 I q (by simp))
   | bl j=>cases ry;exact PySem.EqMixed.eq_str_bool (B7 I q (by simp))
   | int j=>obtain⟨t',rfl⟩:=ry;exact PySem.EqMixed.eq_str_int (B7 I q (by simp))
   | str j=>obtain⟨t',rfl⟩:=ry;exact eq_str (B7 I q aJ)
   | _=>exact absurd (show false=true from hs) qc2
 | byt i =>
   obtain⟨t,rfl⟩:=rx;cases y with
   | byt j=>obtain⟨t',rfl⟩:=ry;exact PySem.W.eq_bytes (B7 I q aK)
   | _=>exact absurd (show false=true from hs) qc2
 | _=>cases y<;>exact absurd (show false=true from hs) qc2
theorem Uy:OpR X (compareOp .NotEq) vJ:=by
 intro Ae s σ H x y v u Q I rx ry h;obtain⟨hs,q⟩:=h;cases x with
 | non =>
   cases rx;cases y with
   | non=>cases ry;exact PySem.EqNone.ne_none_none (B7 I q (by simp))
   | bl j=>cases ry;exact PySem.EqNone.ne_none_bool (B7 I q (by simp))
   | int j=>obtain⟨t',rfl⟩:=ry;exact PySem.EqNone.ne_none_int (B7 I q (by simp))
   | str j=>obtain⟨t',rfl⟩:=ry;exact PySem.EqNone.ne_none_str (B7 I q (by simp))
   | _=>exact absurd (show false=true from hs) qc2
 | bl i =>
   cases rx;cases y with
   | non=>cases ry;exact PySem.EqNone.ne_bool_none (B7 I q (by simp))
   | bl j=>cases ry;exact ne_bool (B7 I q (congrArg not EU))
   | str j=>obtain⟨t',rfl⟩:=ry;exact PySem.EqMixed.ne_bool_str (B7 I q (by simp))
   | _=>exact absurd (show false=true from hs) qc2
 | int i =>
   obtain⟨t,rfl⟩:=rx;cases y with
   | non=>cases ry;exact PySem.EqNone.ne_int_none (B7 I q (by simp))
   | int j=>obtain⟨t',rfl⟩:=ry;exact ne_int (B7 I q (congrArg not AJ))
   | str j=>obtain⟨t',rfl⟩:=ry;exact PySem.EqMixed.ne_int_str (B7 I q (by simp))
   | _=>exact absurd (show false=true from hs) qc2
 | str i =>
   obtain⟨t,rfl⟩:=rx;cases y with
   | non=>cases ry;exact PySem.EqNone.ne_str_none (B7 I q (by simp))
   | bl j=>cases ry;exact PySem.EqMixed.ne_str_bool (B7 I q (by simp))
   | int j=>obtain⟨t',rfl⟩:=ry;exact PySem.EqMixed.ne_str_int (B7 I q (by simp))
   | str j=>obtain⟨t',rfl⟩:=ry;exact ne_str (B7 I q (congrArg not aJ))
   | _=>exact absurd (show false=true from hs) qc2
 | byt i =>
   obtain⟨t,rfl⟩:=rx;cases y with
   | byt j=>obtain⟨t',rfl⟩:=ry;exact PySem.W.ne_bytes (B7 I q (congrArg not aK))
   | _=>exact absurd (show false=true from hs) qc2
 | _=>cases y<;>exact absurd (show false=true from hs) qc2
theorem N9:OpR X (compareOp .Lt) (iL fun i j=>.bl (decide (i<j))):=GN fun _ _ _ _ _ _ _ q=>lt_int q
theorem U0:OpR X (compareOp .LtE) (iL fun i j=>.bl (decide (i<=j))):=GN fun _ _ _ _ _ _ _ q=>le_int q
theorem U1:OpR X (compareOp .Gt) (iL fun i j=>.bl (decide (j<i))):=GN fun _ _ _ _ _ _ _ q=>gt_int q
theorem nJ:OpR X (compareOp .GtE) (iL fun i j=>.bl (decide (j<=i))):=GN fun _ _ _ _ _ _ _ q=>ge_int q
theorem gK:OpR X (compareOp .IsNot) (fun x y H Q=>y=.non/\Q (.bl (!decide (x=.non))) H):=by
 intro Ae s σ H x y v u Q I rx ry h;obtain⟨rfl,q⟩:=h;cases ry;refine isnot_none_gen (B7 I q ?_)
 cases x<;>first
  | (cases rx;rfl)
  | (obtain⟨t,rfl⟩:=rx;rfl)
theorem A9(b:Expr){op:CmpOp}(h:op≠.In:=by decide)(h2:op≠.NotIn:=by decide):behindInMarks op b=false:=by
 have e1:(op==CmpOp.In)=false:=by cases op<;>first | rfl | exact absurd rfl h
 have e2:(op==CmpOp.NotIn)=false:=by cases op<;>first | rfl | exact absurd rfl h2
 cases b<;>simp[behindInMarks,e1,e2]
theorem Fi{op:CmpOp}{r:R2}(ho:OpR X (compareOp op) r)(ha:PE X a ta)(hb:PE X b tb)(hm:behindInMarks op b=false):PE X (.Compare a [op] [b] pos) (mR r ta tb):=by
 intro Ae s σ H Q I h;exact wpAny_Compare1 (LL ha hb I h fun v u s2 x y H2 I2 rx ry q=>ho Ae s2 σ H2 x y v u Q I2 rx ry q) hm
noncomputable def mQ(t:TE):TT:=fun σ H Q=>t σ H fun x H'=>∃k,x=.bl k/\Q k H'
theorem Aw{op:CmpOp}{r:R2}(ho:OpR X (compareOp op) r)(ha:PE X a ta)(hb:PE X b tb)(hm:behindInMarks op b=false):PT X (.Compare a [op] [b] pos) (mQ (mR r ta tb)):=by
 intro Ae s σ H Q I h
 refine wpAny_isTrue_Compare1 (C8 (ha Ae s σ H _ I h) fun v s1 ⟨x,H1,I1,r1,q1⟩=>C8 (hb Ae s1 σ H1 _ I1 q1) fun u s2 ⟨y,H2,I2,r2,q2⟩ =>
  C8 (ho Ae s2 σ H2 x y v u _ I2 r1 r2 q2) fun c s3 ⟨z,H3,I3,r3,k,e,q3⟩=>?_) hm
 subst e;cases r3;exact qh9 ⟨H3,I3,q3⟩
noncomputable def jI(r r':R2)(ta tb tc:TE):TE:=fun σ H Q=>ta σ H fun x H1=>tb σ H1 fun y H2=>r x y H2 fun z H3=>∃k,z=.bl k ∧
 (if k=true then tc σ H3 fun w' H4=>r' y w' H4 Q else Q (.bl false) H3)
theorem Ry{op op':CmpOp}{r r':R2}(ho:OpR X (compareOp op) r)(ho':OpR X (compareOp op') r')(ha:PE X a ta)(hb:PE X b tb)(hc:PE X c tc)
 (hm:lastMarks [op,op'] [b,c]=false:=by with_unfolding_all rfl):PE X (.Compare a [op,op'] [b,c] pos) (jI r r' ta tb tc):=by
 intro Ae s σ H Q I h
 refine Compare_chain (C8 (ha Ae s σ H _ I h) fun v s1 ⟨x,H1,I1,r1,q1⟩=>chain_link (C8 (hb Ae s1 σ H1 _ I1 q1) fun u s2 ⟨y,H2,I2,r2,q2⟩ =>
  C8 (ho Ae s2 σ H2 x y v u _ I2 r1 r2 q2) fun d s3 ⟨z,H3,I3,r3,k,e,q3⟩=>?_)) hm
 subst e;cases r3;refine qh9 ?_;cases k with
 | false=>exact ite_ff ⟨.bl false,H3,I3,rfl,q3⟩
 | true=>exact ite_tt (chain_last (C8 (hc Ae s3 σ H3 _ I3 q3) fun w' s4 ⟨z',H4,I4,r4,q4⟩=>ho' Ae s4 σ H4 y z' u w' Q I4 r2 r4 q4))
theorem Pf:(sizeLine:Nat)<2 ^ 63:=by rw[sizeLine_eq];decide
theorem Cs:OpR X (binaryOp .Add) (fun x y H Q=>∃i j,x=.str i/\y=.str j/\i.length+j.length<=sizeLine/\Q (.str (i++j)) H):=by
 intro Ae s σ H x y v u Q I rx ry h;obtain⟨i,j,rfl,rfl,hz,q⟩:=h;obtain⟨t,rfl⟩:=rx;obtain⟨t',rfl⟩:=ry;exact add_str (fun t' tk=>⟨.str (i++j),H,I.tok _,⟨_,rfl⟩,q⟩) hz
theorem Ma{x:V}{us:List Value}(r:Vals [x] us):∃u,us=[u]/\RelV x u:=by
 cases r with
 | cons r1 r2=>cases r2;exact⟨_,rfl,r1⟩
theorem X2{x y:V}{us:List Value}(r:Vals [x,y] us):∃u w',us=[u,w']/\RelV x u/\RelV y w':=by
 cases r with
 | cons r1 r2 =>
   cases r2 with
   | cons r3 r4=>cases r4;exact⟨_,_,rfl,r1,r3⟩
theorem Ly(hc:X.calm=true):E9 X (.builtin "max") (fun xs H Q=>∃i j,xs=[.int i,.int j]/\Q (.int (if j > i then j else i)) H):=by
 intro Ae s σ H xs us Q I r h;obtain⟨i,j,rfl,q⟩:=h;obtain⟨u,w',rfl,⟨t,rfl⟩,⟨t',rfl⟩⟩:=X2 r;refine max_two_ints (I.ok.hd hc) fun h' tk k=>⟨_,H,I.kept k,?_,q⟩
 by_cases hj:j > i
 . rw[if_pos hj,if_pos hj];exact⟨_,rfl⟩
 . rw[if_neg hj,if_neg hj];exact⟨_,rfl⟩
theorem Vo(hc:X.calm=true):E9 X (.builtin "min") (fun xs H Q=>∃i j,xs=[.int i,.int j]/\Q (.int (if j<i then j else i)) H):=by
 intro Ae s σ H xs us Q I r h;obtain⟨i,j,rfl,q⟩:=h;obtain⟨u,w',rfl,⟨t,rfl⟩,⟨t',rfl⟩⟩:=X2 r;refine min_two_ints (I.ok.hd hc) fun h' tk k=>⟨_,H,I.kept k,?_,q⟩
 by_cases hj:j<i
 . rw[if_pos hj,if_pos hj];exact⟨_,rfl⟩
 . rw[if_neg hj,if_neg hj];exact⟨_,rfl⟩
theorem CD:E9 X (.type "int") (fun xs H Q=>(∃i,xs=[.int i]/\Q (.int i) H)\/∃k,xs=[.bl k]/\Q (.int (if k then 1 else 0)) H):=by
 intro Ae s σ H xs us Q I r h;rcases h with⟨i,rfl,q⟩|⟨k,rfl,q⟩
 . obtain⟨u,rfl,t,rfl⟩:=Ma r;exact call_int_int ⟨.int i,H,I,⟨_,rfl⟩,q⟩
 . obtain⟨u,rfl,r1⟩:=Ma r;cases r1;exact call_int_bool ⟨.int (if k then 1 else 0),H,I.tok _,⟨_,rfl⟩,q⟩
end
structure u6(h:Heap)(x dx C:Addr)(mA:Str->Option Value):Prop where
 obj:h.get? x=some (PySem.W.instObj C dx)
 ns:h.Ns1 dx mA
 ne:dx≠x
theorem bI{h:Heap}{dx:Addr}{mA:Str->Option Value}(n:h.Ns1 dx mA):∃od,h.get? dx=some od/\∀name,PySem.W.lookIn name od=some (mA name):=by
 obtain⟨o,es,ep,ho,hd,hk,_,hm⟩:=n;refine⟨o,ho,fun name=>?_⟩;have e:=hm name;unfold nsFind findBy at e;rw[←Array.find?_toList]at e;unfold PySem.W.lookIn;rw[hd];dsimp only;split
 . rename_i y q
   rw[q]at e;exact congrArg some e
 . rename_i q
   rw[q]at e
   have a:es.toList.any (·.refKey)=false:=by
    rw[List.any_eq_false];intro y hy;obtain⟨z,t,hkey⟩:=hk y (Array.mem_toList_iff.mp hy);simp[DictEntry.refKey,hkey]
   have a':¬es.toList.any (·.refKey)=true:=by rw[a];exact qc2
   rw[if_neg a'];exact congrArg some e
theorem u6.look{h:Heap}{x dx C:Addr}{mA:Str->Option Value}(I:u6 h x dx C mA):∃od,PySem.W.InstAt h x (PySem.W.instObj C dx) C (some od)/\∀name,PySem.W.lookIn name od=some (mA name) :=
 let ⟨od,ho,hl⟩:=bI I.ns
 ⟨od,⟨I.obj,rfl,rfl,ho⟩,hl⟩
section
variable{prog:Program}{w:World}{A:Around}{E:Value->Shared->Prop}{s:Shared}{K:W.Frag}{x dx C f:Addr}{mA:Str->Option Value}{name:Str}{v:Value}
theorem HR{expr:Bool}{Q:Value->Shared->Prop}(X:K.In s.heap)(I:u6 s.heap x dx C mA)(hg:PySem.W.plainGet K C name=true)(hh:PySem.W.hasDictIn K C=true)
 (ha:W.findIn K (.ref C) name=some none) (hv:mA name=some v) (hv':PySem.W.handedIn v=true) (h:Q v { s with toks:=s.toks+1 }) :
 wpAny (model prog w) A (getAttr (.ref x) name expr) Q E s:=by
 obtain⟨od,J,hl⟩:=I.look;exact PySem.W.get_value X J (qp3 hg).1 (PySem.W.findObj_own hh ha rfl (by rw[hl,hv])) hv' h
theorem eN{pl:Sem Bool}{Q:Value × List Value->Shared->Prop}(X:K.In s.heap)(I:u6 s.heap x dx C mA)(hg:PySem.W.plainGet K C name=true)
 (hf:W.findIn K (.ref C) name=some (some (.ref f))) (ht:W.isFn K (.ref f)=true) (hv:mA name=none) (h:Q (.ref f,[.ref x]) s) :
 wpAny (model prog w) A (getMethod (.ref x) name pl) Q E s:=by
 obtain⟨od,J,hl⟩:=I.look;exact PySem.W.method_fn X J (qp3 hg).1 (qp3 hg).2 hf (qq8.mp ht) (by show(PySem.W.lookIn name od).map (·.isSome)=some false;rw[hl,hv];rfl) h
theorem fY{ns:List Str}{Q:Unit->Shared->Prop}(X:K.In s.heap)(I:u6 s.heap x dx C mA)
 (hs:W.findIn K (.ref C) "__setattr__"=some (some (.builtin "object.__setattr__"))) (hp:PySem.W.plainOver K C=true) (ht:PySem.W.takerIn K C name=some none) (hh:PySem.W.hasDictIn K C=true)
 (hw:PySem.Within mA ns) (hsz:ns.length<=sizeLine)
 (h:∀h',u6 h' x dx C (fun y=>if y=name then some v else mA y)->Heap.SameBut dx s.heap h'->Q () { s with heap:=h',toks:=s.toks+2 }) :
 wpAny (model prog w) A (setAttr (.ref x) name v) Q E s:=by
 obtain⟨od,J,hl⟩:=I.look;refine PySem.W.set_plain X J hs (PySem.W.osa_open (s:={ s with toks:=s.toks+1 }) (r:=none) X J hp ht fun b=>?_);obtain⟨cd,hc,hd'⟩:=PySem.W.any_some hh;have hx:s.heap.get? x=some ⟨.ref C,some dx,.plain,#[]⟩:=I.obj;refine qa5 (qb2 (qa5 (qa5 (wpAny_loadPart hx (qa5 (PySem.W.Looks.here (s:={ s with toks:=s.toks+1 }) (PySem.W.looks_clsIn X hc) ?_))))));rw[hd'];refine qb2 (a:=some dx) (qa5 (qb2 (qa5 ?_)));refine wpAny_nsSet1 (s:={ s with toks:=s.toks+1 }) I.ns fun h' hn2 hs2=>?_;obtain⟨oD,esD,UQ,pG,wU,wV⟩:=hn2.count (PySem.Within.cons name v hw);refine qa5 (wpAny_lookBehind pG (by rw[wU];exact pastItsLine_dict (qe1 wV (by rw[qe3];omega))) ?_);exact qb2 (h _ ⟨(hs2.2 _ (Ne.symm I.ne)).trans I.obj,hn2,I.ne⟩ hs2)
theorem DU{R:Result->Shared->Prop}{vs:List Value}{kw:List (Str × Value)}(X:K.In s.heap)(hm:PySem.W.makesIn K C=true)
 (hi:W.findIn K (.ref C) "__init__"=some (some (.ref f))) (hf:PySem.W.typeIn K (.ref f)=some (.type "function"))
 (h:codeAny (model prog w) (A.under (.builtin "type.__call__" ⟨.ref C::vs,kw⟩)) (.call (.ref f) ⟨.ref (s.heap.objs.size+1)::vs,kw⟩) (PySem.W.InitBack (s.heap.objs.size+1) R)
   { s with heap:=(s.heap.push PySem.W.emptyDict).push (PySem.W.instObj C s.heap.objs.size) }) :
 codeAny (model prog w) A (.call (.ref C) ⟨vs,kw⟩) R s:=by
 obtain⟨hh,g,d,t,os⟩:=s;exact PySem.W.make_core (PySem.W.makes_of X hm) (PySem.W.looks_findIn X hi) (fun self=>PySem.W.bind_fn X self hf) (.inl rfl) h
end
noncomputable def putF(f:Str)(v:V):List (Str × V)->List (Str × V)
 | []=>[(f,v)]
 | (g,x)::r=>if g=f then(g,v)::r else(g,x)::putF f v r
theorem P8(f g:Str)(v:V):∀fs:List (Str × V),(putF f v fs).lookup g=if g=f then some v else fs.lookup g
 | []=>by
   show List.lookup g [(f,v)]=_;by_cases h:g=f
   . have hb:(g==f)=true:=qq8.mpr h;simp only[List.lookup,hb,if_pos h]
   . have hb:(g==f)=false:=qj4.mpr h;simp only[List.lookup,hb,if_neg h]
 | (k,x)::r=>by
   have ih:=P8 f g v r;rw[show putF f v ((k,x)::r)=(if k=f then(k,v)::r else(k,x)::putF f v r) from rfl];by_cases hk:k=f
   . rw[if_pos hk];by_cases h:g=k
     . have hb:(g==k)=true:=qq8.mpr h;simp only[List.lookup,hb,if_pos (h.trans hk)]
     . have hb:(g==k)=false:=qj4.mpr h;simp only[List.lookup,hb,if_neg (fun e:g=f=>h (e.trans hk.symm))]
   . rw[if_neg hk];by_cases h:g=k
     . have hb:(g==k)=true:=qq8.mpr h;simp only[List.lookup,hb,if_neg (fun e:g=f=>hk (h.symm.trans e))]
     . have hb:(g==k)=false:=qj4.mpr h;simp only[List.lookup,hb];exact ih
theorem Ph(f:Str)(v:V):∀fs:List (Str × V),f∈(putF f v fs).map (·.1)/\∀g,g∈fs.map (·.1)->g∈(putF f v fs).map (·.1)
 | []=>⟨by simp[putF],fun g h=>by simp at h⟩
 | (k,x)::r=>by
   obtain⟨i1,i2⟩:=Ph f v r;rw[show putF f v ((k,x)::r)=(if k=f then(k,v)::r else(k,x)::putF f v r) from rfl];by_cases hk:k=f
   . rw[if_pos hk];subst hk;exact⟨by simp,fun g h=>by simpa using h⟩
   . rw[if_neg hk];refine⟨?_,fun g h=>?_⟩
     . rw[qf0];exact qc1 _ i1
     . rw[qf0]at h ⊢;rcases qb7.mp h with e | e
       . exact qb7.mpr (.inl e)
       . exact qc1 _ (i2 g e)
theorem P9(f:Str)(v:V):∀fs:List (Str × V),(putF f v fs).length<=fs.length+1
 | []=>by simp[putF]
 | (k,x)::r=>by
   have ih:=P9 f v r;rw[show putF f v ((k,x)::r)=(if k=f then(k,v)::r else(k,x)::putF f v r) from rfl];by_cases hk:k=f
   . rw[if_pos hk,qe3,qe3];omega
   . rw[if_neg hk,qe3,qe3];omega
theorem Lo.some_of{v:V}{o:Option Value}(r:Lo (some v) o):∃u,o=some u/\RelV v u:=by
 cases o with
 | none=>exact(show False from r).elim
 | some u=>exact⟨u,rfl,r⟩
theorem Lo.none_of{o:Option Value}(r:Lo none o):o=none:=by
 cases o with
 | none=>rfl
 | some u=>exact(show False from r).elim
theorem bN{v:V}{u:Value}(r:RelV v u):PySem.W.handedIn u=true:=by
 cases v with
 | non=>cases (show u=Value.none from r);rfl
 | bl b=>cases (show u=Value.bool b from r);rfl
 | int i=>obtain⟨t,e⟩:=(show ∃t,u=Value.int i t from r);cases e;rfl
 | str x=>obtain⟨t,e⟩:=(show ∃t,u=Value.str x t from r);cases e;rfl
 | byt b=>obtain⟨t,e⟩:=(show ∃t,u=Value.bytes b t from r);cases e;rfl
 | flt b=>obtain⟨t,e⟩:=(show ∃t,u=Value.float b t from r);cases e;rfl
 | ref a=>cases (show u=Value.ref a from r);rfl
 | ty n=>cases (show u=Value.type n from r);rfl
section
variable{P:Program}{w:World}{H H':Hp}{h h':Heap}{a C dx:Addr}{fs fs':List (Str × V)}
theorem Ww(hok:Mo P w H h)(e:H a=some (.ins C dx fs)):∃mA,u6 h a dx C mA/\(∀f,Lo (fs.lookup f) (mA f))/\PySem.Within mA (fs.map (·.1))/\fs.length<=1000/\H dx=some (.own a):=by
 obtain⟨d,z,ne,ob,mA,n,r,q⟩:=(show ObjOk P w H h a (.ins C dx fs) from hok a _ e)
 exact⟨mA,⟨ob,n,ne⟩,r,q,z,d⟩
end
structure Cls(K:W.Frag)(C:Addr):Prop where
 pg:PySem.W.plainGet K C Str.empty=true
 hd:PySem.W.hasDictIn K C=true
 po:PySem.W.plainOver K C=true
 sa:W.findIn K (.ref C) "__setattr__"=some (some (.builtin "object.__setattr__"))
theorem Cls.get{K:W.Frag}{C:Addr}(c:Cls K C)(f:Str):PySem.W.plainGet K C f=true:=c.pg
noncomputable def NoAttr(K:W.Frag)(C:Addr)(f:Str):Prop:=W.findIn K (.ref C) f=some none
theorem NoAttr.taker{K:W.Frag}{C:Addr}{f:Str}(n:NoAttr K C f):PySem.W.takerIn K C f=some none:=by
 unfold PySem.W.takerIn;rw[show W.findIn K (.ref C) f=some none from n];rfl
structure iD(K:W.Frag)(C:Addr)(m:Str)(f:Addr):Prop where
 at_:W.findIn K (.ref C) m=some (some (.ref f))
 fn:W.isFn K (.ref f)=true
 kp:W.keepIn K (.ref f)=true
section
variable{X:Cx}{Ae:Ba}{σ:St}{H:Hp}{s:Shared}{a C dx:Addr}{fs:List (Str × V)}{f:Str}{v:V}{A:Around}{E:Value->Shared->Prop}
theorem m3{b:Bool}{Q:Value->Shared->Prop}(I:Bd X Ae σ H s)(e:H a=some (.ins C dx fs))(c:Cls X.K C)(n:NoAttr X.K C f)(l:fs.lookup f=some v)
 (h:∀u s',Bd X Ae σ H s'->RelV v u->Q u s'):wpAny (model X.prog X.w) A (getAttr (.ref a) f b) Q E s:=by
 obtain⟨mA,O,r,_,_,_⟩:=Ww I.hok e;obtain⟨u,hu,ru⟩:=Lo.some_of (v:=v) (o:=mA f) (by rw[←l];exact r f);exact HR I.kIn O (c.get f) c.hd n hu (bN ru) (h u _ (I.tok _) ru)
theorem Sr{m:Str}{g:Addr}{pl:Sem Bool}{Q:Value × List Value->Shared->Prop}(I:Bd X Ae σ H s)(e:H a=some (.ins C dx fs))(c:Cls X.K C)(k:iD X.K C m g)(l:fs.lookup m=none)
 (h:Q (.ref g,[.ref a]) s):wpAny (model X.prog X.w) A (getMethod (.ref a) m pl) Q E s:=by
 obtain⟨mA,O,r,_,_,_⟩:=Ww I.hok e;have hn:mA m=none:=Lo.none_of (by rw[←l];exact r m);exact eN I.kIn O (c.get m) k.at_ k.fn hn h
theorem b4{y:V}{u:Value}{Q:Unit->Shared->Prop}(I:Bd X Ae σ H s)(e:H a=some (.ins C dx fs))(c:Cls X.K C)(n:NoAttr X.K C f)(hl:fs.length<1000)(ry:RelV y u)
 (h:∀s',Bd X Ae σ (upd H a (.ins C dx (putF f y fs))) s'->Q () s'):wpAny (model X.prog X.w) A (setAttr (.ref a) f u) Q E s:=by
 obtain⟨mA,O,r,wi,_,ho⟩:=Ww I.hok e;have hz:(fs.map (·.1)).length<=sizeLine:=by rw[qa1,sizeLine_eq];omega
 refine fY I.kIn O c.sa c.po n.taker c.hd wi hz fun h' O' sb=>h _ ?_;have hd:∃o,h'.get? dx=some o:=let ⟨o,_,_,e',_⟩:=O'.ns;⟨o,e'⟩
 refine I.write (x:=a) (e:=dx) (by rw[e];exact True.intro) (.inr ho) (fun b q hb z=>(sb.2 b hb).trans z) hd ?_;refine⟨by rw[A8 O.ne];exact ho,?_,O.ne,O'.obj,_,O'.ns,fun g=>?_,fun g hg=>?_⟩
 . have:=P9 f y fs;omega
 . show Lo ((putF f y fs).lookup g) (if g=f then some u else mA g);rw[P8];by_cases q:g=f
   . rw[if_pos q,if_pos q];exact ry
   . rw[if_neg q,if_neg q];exact r g
 . by_cases q:g=f
   . rw[q];exact(Ph f y fs).1
   . refine(Ph f y fs).2 g (wi g fun z=>hg ?_);show(if g=f then some u else mA g)=none;rw[if_neg q];exact z
theorem Bd.made(I:Bd X Ae σ H s):Bd X Ae σ (upd (upd H s.heap.objs.size (.own (s.heap.objs.size+1))) (s.heap.objs.size+1) (.ins C s.heap.objs.size []))
 { s with heap:=(s.heap.push PySem.W.emptyDict).push (PySem.W.instObj C s.heap.objs.size) }:=by
 have e1:(s.heap.push PySem.W.emptyDict).get? s.heap.objs.size=some PySem.W.emptyDict:=qc0 s.heap rfl
 have e2:((s.heap.push PySem.W.emptyDict).push (PySem.W.instObj C s.heap.objs.size)).get? (s.heap.objs.size+1)=some (PySem.W.instObj C s.heap.objs.size):=by
  have:=qc0 (s.heap.push PySem.W.emptyDict) (o:=PySem.W.instObj C s.heap.objs.size) rfl
  rwa [qh8]at this
 have e3:(s.heap.push PySem.W.emptyDict).Ns s.heap.objs.size (fun _=>none):=⟨PySem.W.emptyDict,#[],_,e1,rfl,(fun e he=>absurd he (by simp)),fun _=>rfl⟩
 have I1:=I.laid (a:=s.heap.objs.size) (o:=.own (s.heap.objs.size+1)) (h':=s.heap.push PySem.W.emptyDict) (t':=s.toks) (fun b u q=>qa7 _ q) (qa9 _) ⟨_,e1⟩;refine I1.laid (a:=s.heap.objs.size+1) (o:=.ins C s.heap.objs.size []) (t':=s.toks) (fun b u q=>qa7 _ q) (Nat.le_of_eq (qh8 _ _)) ?_;have ne:s.heap.objs.size≠s.heap.objs.size+1:=qc7 (Nat.lt_succ_self _);refine⟨by rw[A8 ne,Ab],qb3 _,ne,e2,fun _=>none,(Heap.Ns1.of_empty e3).at fun o q=>qa7 _ q,fun _=>True.intro,fun y hy=>absurd rfl hy⟩
theorem iB{prog:Program}{w:World}{env:Env}{e:Expr}{f:Str}{pos:Pos}{s:Shared}{Q:Value->Shared->Prop}(hb:attributeBase e f env (eval e env)=eval e env)
 (h:wpAny (model prog w) A (eval e env) (fun o s₁=>wpAny (model prog w) A (getAttr o f true) Q E s₁) E s):wpAny (model prog w) A (eval (.Attribute e f pos) env) Q E s :=
 Attribute_any_ h (by rw[arm_eval_Attribute,hb])
end
noncomputable def tFld(K:W.Frag)(ta:TE)(f:Str):TE:=fun σ H Q=>ta σ H fun x H1=>∃a C dx fs v,x=.ref a/\H1 a=some (.ins C dx fs)/\Cls K C/\NoAttr K C f/\fs.lookup f=some v/\Q v H1
noncomputable def MX(K:W.Frag)(ta tv:TE)(f:Str):TS:=fun D σ H=>tv σ H fun y H1=>ta σ H1 fun x H2=>∃a C dx fs,x=.ref a/\H2 a=some (.ins C dx fs)/\Cls K C/\NoAttr K C f/\fs.length<1000 ∧
 D.nx σ (upd H2 a (.ins C dx (putF f y fs)))
section
variable{X:Cx}{o e value:Expr}{f:Str}{pos pos' tpos:Pos}{ta tv:TE}
theorem jR(he:PE X e ta)(hb:attributeBase e f X.env (eval e X.env)=eval e X.env):PE X (.Attribute e f pos) (tFld X.K ta f):=by
 intro Ae s σ H Q I h;refine iB hb (C8 (he Ae s σ H _ I h) fun u s1 _z=>?_);obtain⟨x,H1,I1,rx,a,C,dx,fs,v,ex,ea,c,n,l,q⟩:=_z;subst ex;obtain rfl:u=Value.ref a:=rx;exact m3 I1 ea c n l fun u' s2 I2 ru=>⟨v,H1,I2,ru,q⟩
theorem JO(ha:PE X o ta)(hv:PE X value tv)(hs:swapsWith value (some (.Attribute o f pos')) pos.line X.env=pure false):PS X (.Assign [.Attribute o f pos'] value pos) (MX X.K ta tv f):=by
 intro Ae s σ H D I h;refine plainObj_wpAny_Assign_Attribute (C8 (hv Ae s σ H _ I h) fun u s1 ⟨y,H1,I1,ry,q⟩=>C8 (ha Ae s1 σ H1 _ I1 q) fun ov s2 _z=>?_) hs;obtain⟨x,H2,I2,rx,a,C,dx,fs,ex,ea,c,n,l,q2⟩:=_z;subst ex;obtain rfl:ov=Value.ref a:=rx;exact b4 I2 ea c n l ry fun s3 I3=>⟨σ,_,I3,q2⟩
theorem iO{pl:Sem Bool}{m:Str}{apos:Pos}{args:List Expr}{Ae:Ba}{s:Shared}{σ:St}{H:Hp}{Q:Value->Shared->Prop}{te:TE}(he:PE X e te)(I:Bd X Ae σ H s)
 (h:te σ H fun x H1=>∃a C dx fs g,x=.ref a/\H1 a=some (.ins C dx fs)/\Cls X.K C/\iD X.K C m g/\fs.lookup m=none ∧
   ∀s1,Bd X Ae σ H1 s1->wpAny (model X.prog X.w) X.A (callWith pos (.ref g) [.ref a] (backTo pos (starEach args X.env)) (backToKw pos (keywordEach [] X.env))) Q X.xe s1)
 (ht:eval (.Call (.Attribute e m apos) args [] pos) X.env=(do
   let ov ←eval e X.env
   standAt apos.atName
   let (f,first) ←holding [ov] (getMethod ov m pl)
   callWith pos f first (backTo pos (starEach args X.env)) (backToKw pos (keywordEach [] X.env)))) :
 wpAny (model X.prog X.w) X.A (eval (.Call (.Attribute e m apos) args [] pos) X.env) Q X.xe s:=by
 refine PySem.W.methodCall_KW (pl:=pl) (C8 (he Ae s σ H _ I h) fun u s1 _z=>?_) ht;obtain⟨x,H1,I1,rx,a,C,dx,fs,g,ex,ea,c,k,l,q⟩:=_z;subst ex;obtain rfl:u=Value.ref a:=rx;exact Sr I1 ea c k l (q s1 I1)
end
section
variable{X:Cx}{Ae:Ba}{σ:St}{H:Hp}{s:Shared}{A:Around}{E:Value->Shared->Prop}{Q:Value->Shared->Prop}{c:Value}{b:Bool}
end
structure Fr(k:Nat)(A:Around):Prop where
 hd:A.handled=none
 dp:A.depth+3*k+5<recursionLimit
 un:A.units+16*k+200<cLine
 gd:A.guards=some []
theorem Fr.mono{j k:Nat}{A:Around}(r:Fr k A)(h:j<=k):Fr j A:=⟨r.hd,by have:=r.dp;omega,by have:=r.un;omega,r.gd⟩
theorem Fr.deeper{k:Nat}{A:Around}(r:Fr (k+1) A)(env:Env):Fr k (A.deeper env) :=
 ⟨r.hd,by have:=r.dp;show A.depth+1+3*k+5<_;omega,by have:=r.un;show A.units+3+16*k+200<_;omega,r.gd⟩
theorem j3{A:Around}{C:Addr}{us:List Value}{kw:List (Str × Value)}:(A.under (.builtin "type.__call__" ⟨.ref C::us,kw⟩)).depth=A.depth+1:=by
 first | rfl | simp[Around.under,Code.weight,Code.isCreation,Code.isGuard,Code.isCaller,Code.frames,Code.isFrame,guardIds]
theorem Yy{A:Around}{C:Addr}{us:List Value}{kw:List (Str × Value)}:(A.under (.builtin "type.__call__" ⟨.ref C::us,kw⟩)).guards=A.guards:=by
 first | rfl | simp[Around.under,Code.weight,Code.isCreation,Code.isGuard,Code.isCaller,Code.frames,Code.isFrame,guardIds]
theorem i9{A:Around}{C:Addr}{us:List Value}{kw:List (Str × Value)}:(A.under (.builtin "type.__call__" ⟨.ref C::us,kw⟩)).units=A.units+1:=by
 first | rfl | simp[Around.under,Code.cUnits,Code.frames,Code.isFrame]
theorem Fr.make{k:Nat}{A:Around}(r:Fr (k+1) A)(C:Addr)(us:List Value)(kw:List (Str × Value)):Fr k (A.under (.builtin "type.__call__" ⟨.ref C::us,kw⟩)) :=
 ⟨r.hd,by have:=r.dp;rw[j3];omega,by have:=r.un;rw[i9];omega,by rw[Yy];exact r.gd⟩
theorem Fr.depth{k:Nat}{A:Around}(r:Fr k A):A.depth<recursionLimit:=by have:=r.dp;omega
theorem Fr.units{k:Nat}{A:Around}(r:Fr k A):A.units+64<cLine:=by have:=r.un;omega
theorem Fr.u8{k:Nat}{A:Around}(h:Fr k A):A.units+8<cLine:=by
 have:=h.units;omega
noncomputable def jG:TA:=fun _ H Q=>Q [] H
noncomputable def MU(ta:TE)(tr:TA):TA:=fun σ H Q=>ta σ H fun x H1=>tr σ H1 fun xs H2=>Q (x::xs) H2
section
variable{X:Cx}{e:Expr}{es:List Expr}{te:TE}{t:TA}{pos:Pos}
theorem Ac:PA X [] jG:=fun _ _ _ _ H Q I h=>qo9 ⟨[],H,I,.nil,h⟩
theorem Aa(ha:PE X e te)(hr:PA X es t)(hs:starEach (e::es) X.env=(false,eval e X.env)::starEach es X.env:=by rfl):PA X (e::es) (MU te t):=by
 intro pos Ae s σ H Q I h;rw[hs];show wpAny _ _ (spliced ((false,eval e X.env)::backTo pos (starEach es X.env))) _ _ s;refine qo2 (C8 (ha Ae s σ H _ I h) fun u s1 _z=>?_);obtain⟨x,H1,I1,r1,q1⟩:=_z;exact C8 (hr pos Ae s1 σ H1 _ I1 q1) fun us s2 ⟨xs,H2,I2,r2,q2⟩=>⟨x::xs,H2,I2,.cons r1 r2,q2⟩
noncomputable def MP(t:TA):TE:=fun σ H Q=>t σ H fun xs H1=>xs.length<=sizeLine/\∀p,H1 p=none->Q (.ref p) (upd H1 p (.tup xs))
noncomputable def QB(t:TA):TE:=fun σ H Q=>t σ H fun xs H1=>xs.length<=sizeLine/\∀p,H1 p=none->Q (.ref p) (upd H1 p (.lst xs))
theorem Bs{x1}(h:PA X es t):PE X (.Tuple es x1 pos) (MP t):=by
 intro Ae s σ H Q I hq;refine wpAny_Tuple_spliced (C8 (h pos Ae s σ H _ I hq) fun us s1 ⟨xs,H1,I1,r,z,q⟩=>⟨by rw[←r.length];exact z,?_⟩);have hf:H1 s1.heap.objs.size=none:=I1.hok.fresh (qa9 _);refine⟨.ref s1.heap.objs.size,upd H1 s1.heap.objs.size (.tup xs),I1.laid (t':=s1.toks) (fun b u e=>qa7 _ e) (qa9 _) ?_,rfl,q _ hf⟩;exact⟨z,us,r,⟨_,qc0 _ rfl,rfl,rfl,_,rfl⟩⟩
theorem Cc(h:PA X es t):PE X (.List es pos) (QB t):=by
 intro Ae s σ H Q I hq;refine wpAny_List_spliced (C8 (h pos Ae s σ H _ I hq) fun us s1 ⟨xs,H1,I1,r,z,q⟩=>⟨by rw[←r.length];exact z,?_⟩);have hf:H1 s1.heap.objs.size=none:=I1.hok.fresh (qa9 _);refine⟨.ref s1.heap.objs.size,upd H1 s1.heap.objs.size (.lst xs),I1.laid (t':=s1.toks) (fun b u e=>qa7 _ e) (qa9 _) ?_,rfl,q _ hf⟩;exact⟨z,us,0,r,qc0 _ rfl⟩
end
noncomputable abbrev Sp:=List V->Hp->VK->XK->Prop
noncomputable abbrev FH:=List Env->Hp->Shared->XK->Value->Shared->Prop
structure u7(P:Program)(w:World)(K:W.Frag)(mg:Str->Option Value)(base:Heap)(A:Around)(outer:List Env)(s:Shared)(H:Hp):Prop where
 frames:A.frames=some outer
 mod:Mod K mg base
 bs:∀b o,base.get? b=some o->s.heap.get? b=some o/\H b=none
 bsz:base.objs.size<=s.heap.objs.size
 funs:s.heap.FunFrames base outer
 frf:∀b∈cJ outer,H b=none
 hok:Mo P w H s.heap
 bare:AllBare s.gens
noncomputable def CE(outer:List Env)(P:Program)(w:World)(H:Hp)(s:Shared)(Q:VK)(u:Value)(s':Shared):Prop :=
 ∃v H',s'.os=s.os/\AllBare s'.gens/\Un (cJ outer) [] H H' s.heap s'.heap/\Mo P w H' s'.heap/\RelV v u/\Q v H'
noncomputable def CR(CX:FH)(outer:List Env)(P:Program)(w:World)(H:Hp)(s:Shared)(Q:VK)(E:XK)(r:Result)(s':Shared):Prop :=
 match r with
 | .ok (.ret u)=>CE outer P w H s Q u s'
 | .ok _=>False
 | .error e=>CX outer H s E e s'
structure Bt(P:Program)(w:World)(K:W.Frag)(mg:Str->Option Value)(base:Heap)(CX:FH)(k:Nat)(f:Addr)(fd:FuncData)(ps:List Str)(sp:Sp):Prop where
 len:∀vs H Q E,sp vs H Q E->vs.length=ps.length
 run:∀(A:Around) (outer:List Env) (s:Shared) (H:Hp) (args:Args) (us:List Value) (vs:List V) (Q:VK) (E:XK),Fr k A->u7 P w K mg base A outer s H->BindsTo s fd args (ps.zip us)->Vals vs us->sp vs H Q E →
  codeAny (model P w) A (.call (.ref f) args) (CR CX outer P w H s Q E) s
theorem u7.make{P:Program}{w:World}{K:W.Frag}{mg:Str->Option Value}{base:Heap}{A:Around}{outer:List Env}{s:Shared}{H:Hp}(e:u7 P w K mg base A outer s H)(C:Addr)(us:List Value)(kw:List (Str × Value)) :
 u7 P w K mg base (A.under (.builtin "type.__call__" ⟨.ref C::us,kw⟩)) outer s H:=⟨by first | exact e.frames | (simpa[Around.under,Code.envs,Code.isFrame,pushEnvs]using e.frames),e.mod,e.bs,e.bsz,e.funs,e.frf,e.hok,e.bare⟩
section
variable{X:Cx}{Ae:Ba}{σ:St}{H:Hp}{s s':Shared}
theorem Bd.env0(I:Bd X Ae σ H s):u7 X.prog X.w X.K X.mg X.base X.A X.stack s H :=
 ⟨I.ok.frames,I.ok.mod,I.bs,qe1 I.ok.bsz I.sz,I.stack,I.stkFree,I.hok,I.bare⟩
theorem Bd.after{Q:VK}{u:Value}(I:Bd X Ae σ H s)(h:CE X.stack X.prog X.w H s Q u s'):EP X Ae σ Q u s':=by
 obtain⟨v,H',os,bare,un,hok,r,q⟩:=h;obtain⟨hh,g,d,t,os'⟩:=s';obtain rfl:os'=s.os:=os;exact⟨v,H',I.call (h':=hh) (g':=g) (d':=d) (t':=t) (ch:=[]) un hok bare (fun b z=>absurd z (by simp)),r,q⟩
end
noncomputable def tCall(sp:Sp)(dvs:List V)(E:XK)(t:TA):TE:=fun σ H Q=>t σ H fun vs H1=>sp (vs++dvs) H1 Q E
noncomputable def iH(C:Addr)(m:Str)(sp:Sp)(dvs:List V)(E:XK)(ta:TE)(t:TA):TE:=fun σ H Q=>ta σ H fun x H1=>∃a dx fs,x=.ref a/\H1 a=some (.ins C dx fs)/\fs.lookup m=none ∧
 t σ H1 fun vs H2=>sp (x::(vs++dvs)) H2 Q E
noncomputable def iI(C:Addr)(sp:Sp)(dvs:List V)(E:XK)(t:TA):TE:=fun σ H Q=>t σ H fun vs H1=>∀x dx,H1 x=none->H1 dx=none->dx≠x →
 sp (.ref x::(vs++dvs)) (upd (upd H1 dx (.own x)) x (.ins C dx [])) (fun v H2=>v=.non/\Q (.ref x) H2) E
noncomputable def Lp(K:W.Frag)(fd:FuncData)(ps:List Str)(ds:List Value):Prop :=
 ∀(s:Shared) (us:List Value),K.In s.heap->(us++ds).length=ps.length->BindsTo s fd ⟨us,[]⟩ (ps.zip (us++ds))
theorem Lp.all{K:W.Frag}{fd:FuncData}{ps:List Str}(h:∀us:List Value,us.length=ps.length->bindArgs fd ⟨us,[]⟩=pure (ps.zip us)):Lp K fd ps []:=fun s us _ hl=>by
 rw[qh7]at hl ⊢;exact .of_eq (h us hl)
noncomputable def Pw(CX:FH)(X:Cx)(E:XK):Prop:=∀(Ae:Ba) (σ:St) (H:Hp) (s:Shared) (e:Value) (s':Shared),Bd X Ae σ H s->CX X.stack H s E e s'->X.xe e s'
section
variable{X:Cx}{CX:FH}{k:Nat}{f C:Addr}{fd:FuncData}{ps:List Str}{sp:Sp}{dvs:List V}{ds:List Value}{E:XK}{x m:Str}{p pos apos:Pos}{e o:Expr}{es:List Expr}{ta:TE}{t:TA}
theorem cV{Ae:Ba}{σ:St}{H:Hp}{s:Shared}{Q:VK}{us:List Value}{vs:List V}(F:Bt X.prog X.w X.K X.mg X.base CX k f fd ps sp)(hr:Fr k X.A)(hb:Lp X.K fd ps ds)(hd:Vals dvs ds)(hx:Pw CX X E)
 (I:Bd X Ae σ H s) (r:Vals vs us) (h:sp (vs++dvs) H Q E):wpAny (model X.prog X.w) X.A (call (.ref f) us) (EP X Ae σ Q) X.xe s:=by
 have r2:Vals (vs++dvs) (us++ds):=r.append hd;have hl:(us++ds).length=ps.length:=by rw[←r2.length];exact F.len _ _ _ _ h
 refine wpAny_call (codeAny_mono (F.run X.A X.stack s H ⟨us,[]⟩ (us++ds) (vs++dvs) Q E hr I.env0 (hb s us I.kIn hl) r2 h) fun r s' hq=>?_);cases r with
 | error e=>exact hx Ae σ H s e s' I hq
 | ok fl =>
   cases fl with
   | ret u=>exact I.after hq
   | next=>exact False.elim hq
   | brk=>exact False.elim hq
   | cont=>exact False.elim hq
theorem gJ(F:Bt X.prog X.w X.K X.mg X.base CX k f fd ps sp)(hr:Fr k X.A)(hg:Gl X x)(hm:X.mg x=some (.ref f))(hk:W.keepIn X.K (.ref f)=true)(hb:Lp X.K fd ps ds)(hd:Vals dvs ds)(hx:Pw CX X E)
 (ha:PA X (e::es) t) (hdb:(x==("__debug__":Str))=false:=by decide) (he:starEach (e::es) X.env=(false,eval e X.env)::starEach es X.env:=by rfl) (hpl:(backTo pos (starEach es X.env)).any (·.1)=false:=by rfl) :
 PE X (.Call (.Name x p) (e::es) [] pos) (tCall sp dvs E t):=by
 intro Ae s σ H Q I h;refine qn8 (Ws I hg hm ?_ hdb);refine PySem.W.callWith_K (h₀:=X.base) I.ok.mod.kin hk (C8 (ha pos Ae s σ H _ I h) fun us s1 ⟨vs,H1,I1,r,q⟩=>⟨I1.kIn,?_⟩) he hpl;exact cV F hr hb hd hx I1 r q
theorem gI{pl:Sem Bool}(he:PE X o ta)(c:Cls X.K C)(hm:iD X.K C m f)(F:Bt X.prog X.w X.K X.mg X.base CX k f fd ps sp)(hr:Fr k X.A)(hb:Lp X.K fd ps ds)(hd:Vals dvs ds)(hx:Pw CX X E)(ha:PA X (e::es) t)
 (hst:starEach (e::es) X.env=(false,eval e X.env)::starEach es X.env:=by rfl) (hpl:(backTo pos (starEach es X.env)).any (·.1)=false:=by rfl)
 (ht:eval (.Call (.Attribute o m apos) (e::es) [] pos) X.env=(do
   let ov ←eval o X.env
   standAt apos.atName
   let (f,first) ←holding [ov] (getMethod ov m pl)
   callWith pos f first (backTo pos (starEach (e::es) X.env)) (backToKw pos (keywordEach [] X.env))):=by rfl) :
 PE X (.Call (.Attribute o m apos) (e::es) [] pos) (iH C m sp dvs E ta t):=by
 intro Ae s σ H Q I h;refine PySem.W.methodCall_KW (pl:=pl) (C8 (he Ae s σ H _ I h) fun u s1 _z=>?_) ht;obtain⟨x,H1,I1,rx,a,dx,fs,ex,ea,l,q⟩:=_z;subst ex;obtain rfl:u=Value.ref a:=rx;refine Sr I1 ea c hm l ?_;refine PySem.W.callWith_K (first:=[.ref a]) (h₀:=X.base) I.ok.mod.kin hm.kp (C8 (ha pos Ae s1 σ H1 _ I1 q) fun us s2 ⟨vs,H2,I2,r,q2⟩=>⟨I2.kIn,?_⟩) hst hpl;exact cV (us:=.ref a::us) (vs:=.ref a::vs) F hr hb hd hx I2 (.cons rfl r) q2
structure Mk(K:W.Frag)(C f:Addr):Prop where
 makes:PySem.W.makesIn K C=true
 init:W.findIn K (.ref C) "__init__"=some (some (.ref f))
 fn:W.isFn K (.ref f)=true
 kp:W.keepIn K (.ref C)=true
theorem CU{Ae:Ba}{σ:St}{H:Hp}{s:Shared}{Q:VK}{us:List Value}{vs:List V}(M:Mk X.K C f)(F:Bt X.prog X.w X.K X.mg X.base CX k f fd ps sp)(hr:Fr (k+1) X.A)(hb:Lp X.K fd ps ds)(hd:Vals dvs ds)
 (hx:Pw CX X E) (I:Bd X Ae σ H s) (r:Vals vs us)
 (h:∀x dx,H x=none->H dx=none->dx≠x->sp (.ref x::(vs++dvs)) (upd (upd H dx (.own x)) x (.ins C dx [])) (fun v H2=>v=.non/\Q (.ref x) H2) E) :
 wpAny (model X.prog X.w) X.A (call (.ref C) us) (EP X Ae σ Q) X.xe s:=by
 have hq:=h (s.heap.objs.size+1) s.heap.objs.size (I.hok.fresh (qp4 _)) (I.hok.fresh (qa9 _)) (qc7 (Nat.lt_succ_self _));have I2:=Bd.made (C:=C) I;have r2:Vals (V.ref (s.heap.objs.size+1)::(vs++dvs)) (Value.ref (s.heap.objs.size+1)::(us++ds)):=.cons rfl (r.append hd)
 have hl:(Value.ref (s.heap.objs.size+1)::us++ds).length=ps.length:=by
  have e:=r2.length;rw[F.len _ _ _ _ hq]at e;exact e.symm
 refine wpAny_call (DU (f:=f) I.kIn M.makes M.init (qq8.mp M.fn) (codeAny_mono (F.run _ X.stack _ _ ⟨Value.ref (s.heap.objs.size+1)::us,[]⟩ (Value.ref (s.heap.objs.size+1)::(us++ds)) _ _ E (hr.make C us [])
  (I2.env0.make C us []) (hb _ (Value.ref (s.heap.objs.size+1)::us) I2.kIn hl) r2 hq) fun r s' hq'=>?_))
 cases r with
 | error e=>exact hx Ae σ _ _ e s' I2 hq'
 | ok fl =>
   cases fl with
   | ret u =>
     obtain⟨v,H',I3,rv,ev,q3⟩:=I2.after hq';subst ev;exact⟨rv,⟨V.ref (s.heap.objs.size+1),H',I3,rfl,q3⟩⟩
   | next=>exact False.elim hq'
   | brk=>exact False.elim hq'
   | cont=>exact False.elim hq'
theorem dG(M:Mk X.K C f)(F:Bt X.prog X.w X.K X.mg X.base CX k f fd ps sp)(hr:Fr (k+1) X.A)(hg:Gl X x)(hm:X.mg x=some (.ref C))(hb:Lp X.K fd ps ds)(hd:Vals dvs ds)(hx:Pw CX X E)
 (hdb:(x==("__debug__":Str))=false:=by decide):PE X (.Call (.Name x p) [] [] pos) (iI C sp dvs E jG):=by
 intro Ae s σ H Q I h;refine qn8 (Ws I hg hm ?_ hdb);exact PySem.W.callWith_K0 I.kIn M.kp (CU (us:=[]) M F hr hb hd hx I .nil h)
end
section
variable{X:Cx}{CX:FH}{k:Nat}{f C:Addr}{fd:FuncData}{ps ks:List Str}{sp:Sp}{E:XK}{x m:Str}{p pos apos kpos:Pos}{e o:Expr}{es:List Expr}{kws:List Keyword}{te ta:TE}{t tk:TA}{nm:Option Str}
variable{g:List Value->List Value->List Value}{gV:List V->List V->List V}
end
structure FnScope(N P:List Str)(sc:Scope):Prop where
 kind:sc.kind=.function
 co:sc.isCoroutine=false
 gen:sc.isGenerator=false
 nd:N.Nodup
 pre:N.take P.length=P
 par:∀x∈P,sc.names.lookup x=some .local\/sc.names.lookup x=some .cell
 nofree:∀y∈sc.names,y.2≠.free
theorem Vq{kindOf:Str->Option NameKind}{x:Str}:∀{binds:List (Str × Value)}{m:Str->Option Value},(∀v,(x,v) ∉ binds)->bindL kindOf binds m x=m x
 | [],_,_=>rfl
 | (n,v)::r,m,h=>by
   unfold bindL;rw[Vq fun w hw=>h w (qc1 _ hw)];split
   . have:x≠n:=by rintro rfl;exact h v qd9
     simp[this]
   . rfl
theorem Bb{N P:List Str}{sc:Scope}(h1:sc.kind=.function:=by exact rfl)(h2:sc.isCoroutine=false:=by exact rfl)(h3:sc.isGenerator=false:=by exact rfl)(h4:N.Nodup:=by decide +kernel)(h5:N.take P.length=P:=by exact rfl)
 (h6:∀x∈P,sc.names.lookup x=some .local\/sc.names.lookup x=some .cell:=by decide +kernel) (h7:∀y∈sc.names,y.2≠.free:=by decide +kernel):FnScope N P sc:=⟨h1,h2,h3,h4,h5,h6,h7⟩
theorem Vs{kindOf:Str->Option NameKind}{x:Str}:∀{binds:List (Str × Value)}{m:Str->Option Value},(∀v,(x,v) ∉ binds)->bindC kindOf binds m x=m x
 | [],_,_=>rfl
 | (n,v)::r,m,h=>by
   unfold bindC;rw[Vs fun w hw=>h w (qc1 _ hw)];split
   . rfl
   . have:x≠n:=by rintro rfl;exact h v qd9
     simp[this]
theorem Vr{kindOf:Str->Option NameKind}{x:Str}{v:Value}:∀{P:List Str}{vs:List Value}{i:Nat}{m:Str->Option Value},P.Nodup->P[i]?=some x->vs[i]?=some v->kindOf x=some .local →
 bindL kindOf (P.zip vs) m x=some v
 | [],_,_,_,_,h,_,_=>by simp at h
 | _::_,[],_,_,_,_,h,_=>by simp at h
 | p::P,w::vs,0,m,nd,h1,h2,hk=>by
   simp at h1 h2;subst h1;subst h2;show bindL kindOf ((p,w)::P.zip vs) m p=_;unfold bindL;rw[Vq fun v hv=>(qm5.mp nd).1 (qg2 hv).1,if_pos hk];simp
 | p::P,w::vs,i+1,m,nd,h1,h2,hk=>by
   show bindL kindOf ((p,w)::P.zip vs) m x=_;unfold bindL;exact Vr (i:=i) (qm5.mp nd).2 (by simpa using h1) (by simpa using h2) hk
theorem Vt{kindOf:Str->Option NameKind}{x:Str}{v:Value}:∀{P:List Str}{vs:List Value}{i:Nat}{m:Str->Option Value},P.Nodup->P[i]?=some x->vs[i]?=some v->kindOf x≠some .local →
 bindC kindOf (P.zip vs) m x=some v
 | [],_,_,_,_,h,_,_=>by simp at h
 | _::_,[],_,_,_,_,h,_=>by simp at h
 | p::P,w::vs,0,m,nd,h1,h2,hk=>by
   simp at h1 h2;subst h1;subst h2;show bindC kindOf ((p,w)::P.zip vs) m p=_;unfold bindC;rw[Vs fun v hv=>(qm5.mp nd).1 (qg2 hv).1,if_neg hk];simp
 | p::P,w::vs,i+1,m,nd,h1,h2,hk=>by
   show bindC kindOf ((p,w)::P.zip vs) m x=_;unfold bindC;exact Vt (i:=i) (qm5.mp nd).2 (by simpa using h1) (by simpa using h2) hk
noncomputable def start(N:List Str)(vs:List V):St:=vs.map some++List.replicate (N.length-vs.length) none
noncomputable def BZ(CX:FH)(P:Program)(w:World)(K:W.Frag)(mg:Str->Option Value)(base:Heap)(N:List Str)(qual:Str)(scope:Scope)(f:Addr)(cd:Value)(A:Around)(outer:List Env)(s:Shared)(H:Hp)(E:XK):Cx where
 prog:=P
 w:=w
 K:=K
 mg:=mg
 base:=base
 A:=A.deeper (envOfC qual scope s.heap.objs.size f cd)
 N:=N
 s₀:=s
 H₀:=H
 env:=envOfC qual scope s.heap.objs.size f cd
 outer:=outer
 stack:=envOfC qual scope s.heap.objs.size f cd::outer
 ex:=[]
 calm:=true
 fn:=fun _=>true
 pn:=[]
 xe:=fun e s'=>wpAny (model P w) (A.deeper (envOfC qual scope s.heap.objs.size f cd)) (leaving (envOfC qual scope s.heap.objs.size f cd) e) (fun _ s''=>CX outer H s E e s'') (fun e' s''=>CX outer H s E e' s'') s'
theorem Zp{sc:Scope}{n:Nat}{x:Str}(h:sc.names.lookup x=some .cell):∃c,(cellsFrom n sc.names []).lookup x=some c:=by
 have q:=PySem.W.cellsFrom_some sc.names n [] (.inl h);exact Option.isSome_iff_exists.mp q
theorem BK{CX:FH}{P:Program}{w:World}{K:W.Frag}{mg:Str->Option Value}{base:Heap}{N ps:List Str}{qual:Str}{scope:Scope}{f:Addr}{cd:Value}{A:Around}{outer:List Env}{s s1:Shared}{H:Hp}{E:XK}{us:List Value}{vs:List V}
 (S:FnScope N ps scope) (hd:A.handled=none) (e0:u7 P w K mg base A outer s H) (hl:vs.length=ps.length) (r:Vals vs us)
 (x:InCallC s s.heap.objs.size (bindL (envOfC qual scope s.heap.objs.size f cd).kindOf (ps.zip us) fun _=>none) (cellsFrom (s.heap.objs.size+1) scope.names []) (bindC (envOfC qual scope s.heap.objs.size f cd).kindOf (ps.zip us) fun _=>none) s1) :
 Bd (BZ CX P w K mg base N qual scope f cd A outer s H E) [] (start N vs) H s1:=by
 have hpl:ps.length<=N.length:=by have:=congrArg List.length S.pre;rw[qb5]at this;omega
 obtain⟨h1,tk,rfl,hk⟩:=x.done;have nO:∀b:Addr,b ∉ (BZ CX P w K mg base N qual scope f cd A outer s H E).ex:=fun b z=>absurd (show b∈([]:List Addr) from z) (by simp)
 refine⟨⟨e0.mod,S.kind,rfl,rfl,qa9 _,fun y z c h1 h2=>?_,fun y hy=>?_,fun y c _ h=>?_,fun _=>hd,Around.frames_deeper e0.frames,.inr ⟨rfl,rfl⟩,fun b z=>absurd z (nO b),e0.bs,e0.bsz,fun b _ _=>nO b,fun b z=>absurd z (nO b),e0.funs,e0.frf⟩,
  rfl,e0.bare,Un.kept hk,⟨_,x.toInCall.ns,fun i y v h1 h2 h3=>?_⟩,fun y c h=>⟨_,x.cell y c h⟩,e0.hok.fresh (qa9 _),fun y c h=>?_,fun p hp=>absurd (show p∈([]:Ba) from hp) (by simp),e0.hok.kept hk,?_⟩
 . exact name_of_addr x.apart (ql3 h1) (ql3 h2)
 . have hy:scope.names.lookup y=some .cell\/scope.names.lookup y=some .free:=hy;rcases hy with hy | hy
   . exact Zp hy
   . exact absurd rfl (S.nofree _ (ql3 hy))
 . exact qk4 (x.above y c (ql3 h))
 . have hi:i<vs.length:=by
    unfold start at h2;by_cases hi:i<vs.length
    . exact hi
    . rw[qk9 (by simpa using hi)]at h2;rw[List.getElem?_replicate]at h2;split at h2<;>cases h2
   have ha:vs[i]?=some v:=by
    unfold start at h2;rw[qf8 (by simpa using hi),qa3]at h2;cases e:vs[i]? with
    | none=>rw[e]at h2;cases h2
    | some a=>rw[e]at h2;cases h2;rfl
   obtain⟨u,hu,rv⟩:=r.get ha
   have hp:ps[i]?=some y:=by
    rw[←S.pre,qj1 (by omega)];exact h1
   have TX:ps.Nodup:=by rw[←S.pre];exact S.nd.sublist (List.take_sublist _ _)
   refine⟨u,rv,?_⟩;rcases S.par y (qa8 hp) with k | k
   . exact .inl ⟨k,Vr TX hp hu k⟩
   . obtain⟨c,e⟩:=Zp (n:=s.heap.objs.size+1) k;refine .inr ⟨.inl k,c,e,?_⟩;have q:=x.cell y c e;rw[Vt TX hp hu (by show scope.names.lookup y≠_;rw[k];decide)]at q;exact q
 . exact e0.hok.fresh (qk4 (x.above y c (ql3 h)))
 . unfold start;show _=N.length;rw[qb8,qa1,qi0];omega
theorem oK{CX:FH}{P:Program}{w:World}{K:W.Frag}{mg:Str->Option Value}{base:Heap}{k:Nat}{f:Addr}{name qual:Str}{params:Arguments}{body:List Stmt}{scope:Scope}{dV kV doc pm Da ct oc:Value}{an od:OAddr}
 {osl:Vx}{N ps:List Str}{sp:Sp} (lk:K.lookup f=some ⟨oc,od,.func (W.fnOf name qual params body scope dV kV doc pm an Da ct),osl⟩) (hcd:W.codeIn K Da qual=true) (S:FnScope N ps scope)
 (len:∀vs H Q E,sp vs H Q E->vs.length=ps.length)
 (hbody:∀(A:Around) (outer:List Env) (s:Shared) (H:Hp) (vs:List V) (Q:VK) (E:XK),Fr k (A.deeper (envOfC qual scope s.heap.objs.size f Da))->sp vs H Q E →
   ∃t,CF (BZ CX P w K mg base N qual scope f Da A outer s H E) body t/\t { nx:=fun _ H'=>Q .non H',rt:=Q } (start N vs) H) :
 Bt P w K mg base CX (k+1) f (W.fnOf name qual params body scope dV kV doc pm an Da ct) ps sp:=by
 refine⟨len,fun A outer s H args us vs Q E hr e0 hb r Zu=>?_⟩;have hl:=len _ _ _ _ Zu;have KX:K.In s.heap:=e0.mod.kin.keeps fun b o e=>(e0.bs b o e).1;have lim:s.heap.NoLimit:=e0.mod.nolimit.keeps fun b o e=>(e0.bs b o e).1
 have hkind:∀y∈ps.zip us,scope.names.lookup y.1=some .local\/(scope.names.lookup y.1=some .cell/\((cellsFrom (s.heap.objs.size+1) scope.names []).lookup y.1).isSome=true):=fun⟨n,v⟩ hy=>by
  rcases S.par n (qg2 hy).1 with q | q
  . exact .inl q
  . exact .inr ⟨q,PySem.W.cellsFrom_some _ _ _ (.inl q)⟩
 refine codeAny_call_function hr.depth (KX _ _ lk) rfl S.co S.gen rfl (PySem.W.codeRec_of KX hcd) (hb _ _ _ _ ?_);refine wpAny_newFunctionEnv_cells S.kind hkind fun env he s1 x=>?_;subst he;refine⟨lim.keeps x.toInCall.keep,codeAny_func ?_⟩;obtain⟨t,ht,hq⟩:=hbody A outer s H vs Q E (hr.deeper _) Zu;have I:Bd (BZ CX P w K mg base N qual scope f Da A outer s H E) [] (start N vs) H s1:=BK S hr.hd e0 hl r x;refine qi7 (ht [] s1 (start N vs) H _ I hq) (fun fl s' hs=>?_) fun e s' hs=>hs
 have fin:∀{σ':St}{H':Hp}{v:V}{u:Value},Bd (BZ CX P w K mg base N qual scope f Da A outer s H E) [] σ' H' s'->RelV v u->Q v H'->CE outer P w H s Q u s' :=
  fun {σ' H' v u} J rv q=>⟨v,H',J.os,J.bare,J.base,J.hok,rv,q⟩
 cases fl with
 | ret u =>
   obtain⟨v,σ',H',J,rv,q⟩:=hs;exact fin J rv q
 | next =>
   obtain⟨σ',H',J,q⟩:=hs;exact fin (v:=V.non) (u:=Value.none) J rfl q
 | brk =>
   obtain⟨_,_,_,q⟩:=hs;exact False.elim q
 | cont =>
   obtain⟨_,_,_,q⟩:=hs;exact False.elim q
section
variable{X:Cx}{x:Str}{p pos:Pos}{e:Expr}{es:List Expr}{t:TA}{id T:String}{r:List V->Hp->VK->Prop}
noncomputable def tH(r:List V->Hp->VK->Prop)(t:TA):TE:=fun σ H Q=>t σ H fun vs H1=>r vs H1 Q
theorem Ao(hc:E9 X (.builtin id) r)(hm:X.mg x=none)(hv:bootBuiltins x=some (.builtin id))(ha:PA X (e::es) t)(hg:Gl X x:=by rfl)(hn:x≠"__name__":=by decide)(hdb:(x==("__debug__":Str))=false:=by decide)
 (he:starEach (e::es) X.env=(false,eval e X.env)::starEach es X.env:=by rfl) (hpl:(backTo pos (starEach es X.env)).any (·.1)=false:=by rfl):PE X (.Call (.Name x p) (e::es) [] pos) (tH r t):=by
 intro Ae s σ H Q I h;refine qn8 (Iw I hg hm hv ?_ hn hdb);exact PyProof.Rows.callWith_builtin1 (C8 (ha pos Ae s σ H _ I h) fun us s1 ⟨vs,H1,I1,r1,q1⟩=>hc Ae s1 σ H1 vs us Q I1 r1 q1) he hpl
theorem Cg(hc:E9 X (.type T) r)(hg:Gl X x)(hm:X.mg x=none)(hv:bootBuiltins x=some (.type T))(ha:PA X (e::es) t)(hn:x≠"__name__":=by decide)(hdb:(x==("__debug__":Str))=false:=by decide)
 (he:starEach (e::es) X.env=(false,eval e X.env)::starEach es X.env:=by rfl) (hpl:(backTo pos (starEach es X.env)).any (·.1)=false:=by rfl):PE X (.Call (.Name x p) (e::es) [] pos) (tH r t):=by
 intro Ae s σ H Q I h;refine qn8 (Iw I hg hm hv ?_ hn hdb);exact qf4 (C8 (ha pos Ae s σ H _ I h) fun us s1 ⟨vs,H1,I1,r1,q1⟩=>hc Ae s1 σ H1 vs us Q I1 r1 q1) he hpl
end
end L2
namespace HT
open PySem PyProof.Rows
section
open PySem.SeqAt
open PySem.AutoSeq1 (wpAny_loadPart')
open PySem.MeetsSeq PySem.MeetsSeq2 PySem.MeetsSeq3
end
section
variable{prog:Program}{w:World}{A:Around}{E:Value->Shared->Prop}{s:Shared}
theorem cat_tup{t b:Addr}{vs ws:List Value}{Q:Value->Shared->Prop}(ht:IsTup s.heap t vs.toArray)(hb:IsTup s.heap b ws.toArray)(hv:vs≠[])
 (h1:ws=[]->Q (.ref t) s) (h2:ws≠[]->Q (.ref s.heap.objs.size) { s with heap:=s.heap.push { cls:=.type "tuple",data:=.seq (vs++ws).toArray } })
 (hsz:vs.length+ws.length<=sizeLine):wpAny (model prog w) A (binaryOp .Add (.ref t) (.ref b)) Q E s:=by
 obtain⟨⟨cls,dd,data,sl⟩,ho,hc,n,hd⟩:=id ht;obtain⟨⟨OR,dd2,data2,sl2⟩,ho2,hc2,n2,hd2⟩:=id hb;simp only at hc hd hc2 hd2;subst hc hd hc2 hd2;have e:vs.toArray++ws.toArray=(vs++ws).toArray:=by simp
 by_cases hw:ws=[]
 . exact concat_meets ⟨_,ho,rfl⟩ ⟨_,ho2,rfl⟩ noFill_tuple_add seq_tuple_add qo5 qn4 (qn1 _ _)
    (tuple_addW1 t b vs.toArray ws.toArray n n2 dd dd2 sl sl2 (by simpa using hv) (by simp[hw])) ⟨ho,ho2,h1 hw⟩
 . refine concat_meets ⟨_,ho,rfl⟩ ⟨_,ho2,rfl⟩ noFill_tuple_add seq_tuple_add qo5 qn4 (qn1 _ _)
    (tuple_addW2 t b vs.toArray ws.toArray n n2 dd dd2 sl sl2 (by simpa using hv) (by simpa using hw) (by rw[qc4,qc4];exact hsz)) ⟨ho,ho2,?_⟩
   rw[e];exact h2 hw
noncomputable def sIx(n d:Nat):Option Int->Nat
 | none=>d
 | some v=>if v<0 then(v+(n:Int)).toNat else min v.toNat n
theorem sIx_none(n d:Nat):sIx n d none=d:=rfl
theorem sIx_nat(n d k:Nat):sIx n d (some (k:Int))=min k n:=by
 show(if (k:Int)<0 then((k:Int)+(n:Int)).toNat else min (k:Int).toNat n)=min k n;rw[if_neg (by omega),qb9]
theorem jL(n d:Nat)(hd:d<=n)(o:Option Int):sIx n d o<=n:=by
 cases o with
 | none=>exact hd
 | some v =>
   show(if v<0 then(v+(n:Int)).toNat else min v.toNat n)<=n;by_cases hv:v<0
   . rw[if_pos hv];omega
   . rw[if_neg hv];exact Nat.min_le_right _ _
theorem aL(v:Int)(n d:Nat):(if v<0 then max (v+(n:Int)) 0 else min v (n:Int))=((sIx n d (some v):Nat):Int):=by
 show(if v<0 then max (v+(n:Int)) 0 else min v (n:Int))=(((if v<0 then(v+(n:Int)).toNat else min v.toNat n):Nat):Int)
 by_cases hv:v<0
 . simp only[if_pos hv];omega
 . simp only[if_neg hv];omega
theorem u5(lo hi:Option Int)(n:Nat):Builtin.Slice.sliceAdjust lo hi 1 (n:Int)=(((sIx n 0 lo:Nat):Int),((sIx n n hi:Nat):Int)):=by
 have h1:¬((1:Int)<0):=O9m
 unfold Builtin.Slice.sliceAdjust;simp only[h1,if_false];refine Prod.ext ?_ ?_
 . cases lo with
   | none=>rfl
   | some v=>exact aL v n 0
 . cases hi with
   | none=>rfl
   | some v=>exact aL v n n
theorem d8(i j:Nat):Builtin.Slice.slicePlaces (i:Int) (j:Int) 1=j-i:=by
 unfold Builtin.Slice.slicePlaces;have h1:(1:Int) > 0:=O9m
 simp only[h1,if_true,Int.ediv_one];split<;>omega
theorem Rf{v:Value}{o:Option Int}{Q:Option Int->Shared->Prop}(p:IsPart v o)(h:Q o s):wpAny (model prog w) A (Builtin.Slice.slicePartIndex v) Q E s:=by
 cases p with
 | none=>exact slicePart_none h
 | int i t=>exact slicePart_int h
theorem Oz{sl:Addr}{vl vu:Value}{lo hi:Option Int}{n:Nat}{Q:Int × Int × Nat->Shared->Prop}(hs:s.heap.IsSliceOf sl vl vu .none)(pl:IsPart vl lo)(pu:IsPart vu hi)
 (h:Q (((sIx n 0 lo:Nat):Int),1,sIx n n hi-sIx n 0 lo) s):wpAny (model prog w) A (Builtin.Slice.sliceApplied (.ref sl) (pure (n:Int))) Q E s:=by
 obtain⟨os,hos,hcs,hds⟩:=id hs;unfold Builtin.Slice.sliceApplied Builtin.Slice.sliceFields;refine qa5 (qa5 (qf6 hos hds (x:=vl) rfl (qa5 (qf6 hos hds (x:=vu) rfl (qa5 (qf6 hos hds (x:=.none) rfl (qb2 ?_)))))));refine qa5 (slicePart_none ?_);show wpAny _ _ (if ((1:Int)==0)=true then _ else _) _ _ s;rw[if_neg (by decide)];refine qa5 (Rf pl (qa5 (Rf pu (qa5 (qb2 ?_)))));show wpAny _ _ (match Builtin.Slice.sliceAdjust lo hi 1 (n:Int) with | (lo,hi)=>pure (lo,(1:Int),Builtin.Slice.slicePlaces lo hi 1)) _ _ s;rw[u5 lo hi n];show wpAny _ _ (pure (((sIx n 0 lo:Nat):Int),(1:Int),Builtin.Slice.slicePlaces ((sIx n 0 lo:Nat):Int) ((sIx n n hi:Nat):Int) 1)) _ _ s;rw[d8];exact qb2 h
theorem DC(xs:Array Value)(i k:Nat):((List.range k).filterMap fun(m:Nat)=>xs[((i:Int)+(m:Int)*1).toNat]?).toArray=((xs.toList.drop i).take k).toArray:=by
 have e:(fun(m:Nat)=>xs[((i:Int)+(m:Int)*1).toNat]?)=fun m=>xs[i+m]?:=by
  funext m
  have:((i:Int)+(m:Int)*1).toNat=i+m:=O9m
  rw[this]
 rw[e];have:=pick_run xs i k;rw[List.filterMap_map]at this;have e2:((fun x=>xs[x]?) ∘ fun x=>i+x)=fun m=>xs[i+m]?:=rfl;rw[e2]at this;rw[this]
theorem getItem_tuple_cut{t sl:Addr}{items:Array Value}{vl vu:Value}{lo hi:Option Int}{Q:Value->Shared->Prop}(ht:IsTup s.heap t items)(hs:s.heap.IsSliceOf sl vl vu .none)(pl:IsPart vl lo)(pu:IsPart vu hi)
 (hw:¬(sIx items.size 0 lo=0/\sIx items.size items.size hi=items.size))
 (h:Q (.ref s.heap.objs.size) { s with heap:=s.heap.push { cls:=.type "tuple",data:=.seq ((items.toList.drop (sIx items.size 0 lo)).take (sIx items.size items.size hi-sIx items.size 0 lo)).toArray } })
 (hsz:items.size<=sizeLine):wpAny (model prog w) A (getItem (.ref t) (.ref sl)) Q E s:=by
 have aC:sizeOk (.seq ((items.toList.drop (sIx items.size 0 lo)).take (sIx items.size items.size hi-sIx items.size 0 lo)).toArray):=by
  show((items.toList.drop (sIx items.size 0 lo)).take (sIx items.size items.size hi-sIx items.size 0 lo)).toArray.size<=sizeLine;rw[qc4,qb5,qh4,qm7];omega
 have hj:sIx items.size items.size hi<=items.size:=jL _ _ (qa9 _) hi;obtain⟨os,hos,hcs,hds⟩:=id hs;have wW:s.TypeIs (.ref sl) "slice":=⟨os,hos,hcs⟩
 unfold getItem
 try with_reducible refine qi8 ?_
 first | refine qa5 (qb2 ?_) | skip
 refine qa5 (wpAny_sequenceKey ht.typeIs (by decide) ?_)
 refine qa5 (wpAny_callSpecial?_slot (name:=Str.ofString "__getitem__") ht.typeIs qq9
  (qk2 qq9 ht.typeIs entry_tuple_getitem ?_ (args_tuple_getitem _ _)))
 show wpAny _ _ (Builtin.Tuple.tupleItemsOf (.ref t)>>=_) _ _ s;refine qa5 (tupleItemsOf_ ht ?_);refine qa5 (wpAny_typeOf wW ?_);rw[if_pos (by decide)];refine qa5 (Oz hs pl pu ?_)
 have hno:¬((((sIx items.size 0 lo:Nat):Int)==0&&(1:Int)==1&&(sIx items.size items.size hi-sIx items.size 0 lo)==items.size)=true):=by
  intro q;rw[qc9,qc9]at q;have q1:((sIx items.size 0 lo:Nat):Int)=0:=eq_of_beq q.1.1;have q2:sIx items.size items.size hi-sIx items.size 0 lo=items.size:=eq_of_beq q.2;exact hw ⟨O9m,O9m⟩
 show wpAny _ _ (if (((sIx items.size 0 lo:Nat):Int)==0&&(1:Int)==1&&(sIx items.size items.size hi-sIx items.size 0 lo)==items.size)=true then _ else _) _ _ s;rw[if_neg hno,DC]
 first
  | exact qa5 (m:=Builtin.Tuple.tupleExact _) (qj6 (qb2 ⟨_,rfl,qb2 h⟩) aC)
  | exact qa5 (m:=Builtin.Tuple.tupleExact _) (qj6 (qa5 (qb2 (qb2 ⟨_,rfl,qb2 h⟩))) aC)
  | exact qa5 (qa5 (m:=Builtin.Tuple.tupleExact _) (qj6 (qb2 (qb2 ⟨_,rfl,qb2 h⟩)) aC))
  | exact qa5 (qa5 (m:=Builtin.Tuple.tupleExact _) (qj6 (qb2 ⟨_,rfl,qb2 h⟩) aC))
end
end HT
namespace L2
open PySem PySem.Spec PyProof.Rows
noncomputable abbrev TO:=St->Hp->(Option Int->Hp->Prop)->Prop
noncomputable def PO(X:Cx)(e:Option Expr)(t:TO):Prop :=
 ∀(Ae:Ba) (s:Shared) (σ:St) (H:Hp) (Q:Option Int->Hp->Prop),Bd X Ae σ H s->t σ H Q →
   wpAny (model X.prog X.w) X.A (evalPart e X.env) (fun u s'=>∃o H',Bd X Ae σ H' s'/\IsPart u o/\Q o H') X.xe s
noncomputable def FQ:TO:=fun _ H Q=>Q none H
noncomputable def MQ(t:TE):TO:=fun σ H Q=>t σ H fun x H1=>∃i,x=.int i/\Q (some i) H1
section
variable{X:Cx}{e:Expr}{te:TE}{lo hi:Option Expr}{tl th:TO}{pos p2:Pos}
theorem Ej:PO X none FQ:=by
 intro Ae s σ H Q I h;rw[evalPart_none];exact qb2 ⟨none,H,I,.none,h⟩
theorem Cw(h:PE X e te):PO X (some e) (MQ te):=by
 intro Ae s σ H Q I hw;rw[evalPart_some];refine C8 (h Ae s σ H _ I hw) fun u s1 _z=>?_;obtain⟨x,H1,I1,r1,q1⟩:=_z;obtain⟨i,rfl,q⟩:=q1;obtain⟨t,rfl⟩:=r1;exact⟨some i,H1,I1,.int i t,q⟩
noncomputable def LO(X:Cx)(r:V->Option Int->Option Int->Hp->VK->Prop):Prop :=
 ∀(Ae:Ba) (s:Shared) (σ:St) (H:Hp) (x:V) (v vl vu:Value) (lo hi:Option Int) (sl:Addr) (Q:VK),Bd X Ae σ H s->RelV x v->s.heap.IsSliceOf sl vl vu .none->IsPart vl lo->IsPart vu hi->r x lo hi H Q →
   ∃T id,typeLookup (.type T) "__getitem__"=pure (some (.builtin id))/\s.TypeIs v T/\wpAny (model X.prog X.w) X.A (getItem v (.ref sl)) (EP X Ae σ Q) X.xe s
noncomputable def VC(r:V->Option Int->Option Int->Hp->VK->Prop)(te:TE)(tl th:TO):TE:=fun σ H Q=>te σ H fun x H1=>tl σ H1 fun l H2=>th σ H2 fun u H3=>r x l u H3 Q
theorem Ct{r:V->Option Int->Option Int->Hp->VK->Prop}(hr:LO X r)(he:PE X e te)(hl:PO X lo tl)(hu:PO X hi th):PE X (.Subscript e (.Slice lo hi none p2) pos) (VC r te tl th):=by
 intro Ae s σ H Q I h;refine Subscript_ (C8 (he Ae s σ H _ I h) fun v s1 _z=>?_);obtain⟨x,H1,I1,r1,q1⟩:=_z;refine wpAny_Slice (C8 (hl Ae s1 σ H1 _ I1 q1) fun vl s2 ⟨l,H2,I2,pl,q2⟩=>C8 (hu Ae s2 σ H2 _ I2 q2) fun vu s3 _z=>?_);obtain⟨u,H3,I3,pu,q3⟩:=_z;rw[evalPart_none];refine qb2 ?_;have I4:Bd X Ae σ H3 { s3 with heap:=s3.heap.push { cls:=.type "slice",data:=.fields #[vl,vu,.none] } }:=I3.kept (t':=s3.toks) fun b ob q=>qa7 _ q;obtain⟨T,id,hT,ht,hg⟩:=hr Ae { s3 with heap:=s3.heap.push { cls:=.type "slice",data:=.fields #[vl,vu,.none] } } σ H3 x v vl vu l u s3.heap.objs.size Q I4 r1 (Heap.IsSliceOf.new ..) pl pu q3;show wpAny (model X.prog X.w) X.A (subscriptTail e (.Slice lo hi none p2) v (.ref s3.heap.objs.size)) (EP X Ae σ Q) X.xe { s3 with heap:=s3.heap.push { cls:=.type "slice",data:=.fields #[vl,vu,.none] } };exact tail_any (ops:=[.ref s3.heap.objs.size,v]) ht hT hg (by with_unfolding_all rfl)
noncomputable def cutV(xs:List V)(lo hi:Option Int):List V:=(xs.drop (HT.sIx xs.length 0 lo)).take (HT.sIx xs.length xs.length hi-HT.sIx xs.length 0 lo)
theorem Qe(xs:List V)(lo hi:Option Int):(cutV xs lo hi).length<=xs.length:=by
 unfold cutV;rw[qb5,qh4];omega
noncomputable def qK(K:W.Frag):V->Option Int->Option Int->Hp->VK->Prop:=fun x lo hi H Q=>∃a xs,x=.ref a/\Dv K H a xs ∧
 ¬(HT.sIx xs.length 0 lo=0/\HT.sIx xs.length xs.length hi=xs.length)/\∀p,H p=none->Q (.ref p) (upd H p (.tup (cutV xs lo hi)))
theorem jK:LO X (qK X.K):=by
 intro Ae s σ H x v vl vu lo hi sl Q I rx hs pl pu h;obtain⟨a,xs,rfl,hx,hw,q⟩:=h;cases rx;obtain⟨its,r,ht,hz⟩:=I.tuple hx;have hlen:its.toArray.size=xs.length:=by rw[qc4];exact r.length.symm
 refine⟨"tuple",_,qq9.lookup,ht.typeIs,?_⟩;refine HT.getItem_tuple_cut ht hs pl pu (by rw[hlen];exact hw) ?_ (by rw[hlen];exact hz);rw[hlen];refine⟨.ref s.heap.objs.size,_,I.laid (t':=s.toks) (o:=.tup (cutV xs lo hi)) (fun b ob q=>qa7 _ q) (qa9 _) ?_,rfl,q _ (I.hok.fresh (qa9 _))⟩;exact⟨qe1 (Qe xs lo hi) hz,_,(r.drop (HT.sIx xs.length 0 lo)).take (HT.sIx xs.length xs.length hi-HT.sIx xs.length 0 lo),I0.new _ _⟩
noncomputable def NG(K:W.Frag):R2:=fun x y H Q=>∃a b xs ys,x=.ref a/\y=.ref b/\Dv K H a xs/\Dv K H b ys/\xs≠[]/\xs.length+ys.length<=sizeLine ∧
 (ys=[]->Q (.ref a) H)/\(ys≠[]->∀p,H p=none->Q (.ref p) (upd H p (.tup (xs++ys))))
theorem Vals.nil_iff{xs:List V}{us:List Value}(r:Vals xs us):us=[]↔xs=[]:=by
 cases r with
 | nil=>simp
 | cons _ _=>simp
theorem gM:OpR X (binaryOp .Add) (NG X.K):=by
 intro Ae s σ H x y v u Q I rx ry h;obtain⟨a,b,xs,ys,rfl,rfl,ha,hb,hx,hz,q1,q2⟩:=h;cases rx;cases ry;obtain⟨its,r1,p1,_⟩:=I.tuple ha;obtain⟨its2,r2,p2,_⟩:=I.tuple hb;refine HT.cat_tup p1 p2 (fun z=>hx (r1.nil_iff.mp z)) (fun z=>⟨.ref a,H,I,rfl,q1 (r2.nil_iff.mp z)⟩) (fun z=>?_) (by rw[←r1.length,←r2.length];exact hz);refine⟨.ref s.heap.objs.size,_,I.laid (t':=s.toks) (o:=.tup (xs++ys)) (fun b ob q=>qa7 _ q) (qa9 _) ?_,rfl,q2 (fun w=>z (r2.nil_iff.mpr w)) _ (I.hok.fresh (qa9 _))⟩;exact⟨by rw[qb8];exact hz,_,r1.append r2,I0.new _ _⟩
end
noncomputable def HA(n:Nat)(i:Int):Option Nat:=if 0<=i then(if i<n then some i.toNat else none) else if -(n:Int)<=i then some (i+n).toNat else none
noncomputable def Io{α:Type}(xs:List α)(i:Int):Option α:=(HA xs.length i).bind fun j=>xs[j]?
theorem aB{n:Nat}{i:Int}{j:Nat}(h:HA n i=some j):seqIndex? i n=some j/\j<n/\-(n:Int)<=i/\i<n:=by
 unfold HA at h;by_cases h0:0<=i
 . rw[if_pos h0]at h;by_cases h1:i<n
   . rw[if_pos h1]at h;have e:i.toNat=j:=qb6 h;exact⟨by rw[seqIndex_of h0 h1,e],O9m,O9m,h1⟩
   . rw[if_neg h1]at h;cases h
 . rw[if_neg h0]at h;by_cases h1:-(n:Int)<=i
   . rw[if_pos h1]at h;have e:(i+n).toNat=j:=qb6 h;exact⟨by rw[seqIndex_neg (by omega) h1,e],O9m,h1,O9m⟩
   . rw[if_neg h1]at h;cases h
theorem Xq{α:Type}{xs:List α}{i:Int}{v:α}(h:Io xs i=some v):∃j,seqIndex? i xs.length=some j/\xs[j]?=some v/\j<xs.length/\-(xs.length:Int)<=i/\i<xs.length:=by
 unfold Io at h;cases e:HA xs.length i with
 | none=>rw[e]at h;cases h
 | some j =>
   rw[e]at h;obtain⟨h1,h2,h3,h4⟩:=aB e;exact⟨j,h1,h,h2,h3,h4⟩
theorem Ca{α:Type}{xs:List α}{j:Nat}{v:α}(h:xs[j]?=some v):Io xs (j:Int)=some v:=by
 have hj:j<xs.length:=(qa2.mp h).1
 have e:HA xs.length (j:Int)=some j:=by
  unfold HA;rw[if_pos (by omega),if_pos (by omega)];simp
 unfold Io;rw[e];exact h
noncomputable def aQ(b:Expr):Prop:=∀o i,subscripted b false o i=operate [o,i] (getItem o i)
noncomputable def aR(X:Cx)(r:R2):Prop :=
 ∀(value slice:Expr) (Ae:Ba) (s:Shared) (σ:St) (H:Hp) (x y:V) (v u:Value) (Q:VK),Bd X Ae σ H s->RelV x v->RelV y u->r x y H Q →
   subscripted slice false v u=operate [v,u] (getItem v u)->wpAny (model X.prog X.w) X.A (subscriptTail value slice v u) (EP X Ae σ Q) X.xe s
noncomputable def MtR(X:Cx)(id:String)(r:V->List V->Hp->VK->Prop):Prop :=
 ∀(Ae:Ba) (s:Shared) (σ:St) (H:Hp) (x:V) (xs:List V) (v:Value) (us:List Value) (Q:VK),Bd X Ae σ H s->RelV x v->Vals xs us->r x xs H Q →
   wpAny (model X.prog X.w) X.A (call (.builtin id) (v::us)) (EP X Ae σ Q) X.xe s
section
variable{X:Cx}{a b:Expr}{ta tb:TE}{pos:Pos}
theorem aR.or{r r':R2}(h:aR X r)(h':aR X r'):aR X (fun x y H Q=>r x y H Q\/r' x y H Q):=by
 intro value slice Ae s σ H x y v u Q I rx ry q hs;rcases q with q | q
 . exact h value slice Ae s σ H x y v u Q I rx ry q hs
 . exact h' value slice Ae s σ H x y v u Q I rx ry q hs
theorem Ap{r:R2}(hr:aR X r)(ha:PE X a ta)(hb:PE X b tb)(hs:aQ b):PE X (.Subscript a b pos) (mR r ta tb):=by
 intro Ae s σ H Q I h;exact Subscript_ (LL ha hb I h fun v u s2 x y H2 I2 rx ry q=>hr a b Ae s2 σ H2 x y v u Q I2 rx ry q (hs _ _))
noncomputable def JN(K:W.Frag):R2:=fun x y H Q=>∃p xs i v,x=.ref p/\y=.int i/\SqL K H p xs/\Io xs i=some v/\Q v H
noncomputable def gC(K:W.Frag):R2:=fun x y H Q=>∃p xs i v,x=.ref p/\y=.int i/\Dv K H p xs/\Io xs i=some v/\Q v H
noncomputable def ND:R2:=fun x y H Q=>∃z i c,x=.str z/\y=.int i/\z.length<=sizeLine/\Io z.cps.toList i=some c/\Q (.str ⟨#[c]⟩) H
theorem AA:aR X (JN X.K):=by
 intro value slice Ae s σ H x y v u Q I rx ry h hs;obtain⟨p,xs,i,z,rfl,rfl,hq,he,q⟩:=h;cases rx;obtain⟨t,rfl⟩:=ry;obtain⟨its,r,pl,hz⟩:=I.list hq;obtain⟨j,h1,h2,h3,h4,h5⟩:=Xq he;obtain⟨w,ew,rw'⟩:=r.get h2;have hl:=r.length;have hn:=Pf;have fin:EP X Ae σ Q w s:=⟨z,H,I,rw',q⟩
 by_cases h0:0<=i
 . have hj:i.toNat=j:=by
    rw[seqIndex_of h0 h5]at h1;exact qb6 h1
   exact item_listR pl.isList h0 O9m (by rw[hj];simpa using ew) fin hs
 . have hj:(i+(its.toArray.size:Int)).toNat=j:=by
    rw[seqIndex_neg (by omega) h4]at h1;rw[qc4,←hl];exact qb6 h1
   exact subscriptTail_builtinR (x:=w) pl.isList.typeIs slot_list_getitem.lookup
    (wpAny_getItem_list_neg (Q:=fun r s'=>r=w/\EP X Ae σ Q r s') pl.isList O9m (by rw[qc4]<;>omega) O9m (by rw[hj];simpa using ew) ⟨rfl,fin⟩) hs
theorem DZ:aR X (gC X.K):=by
 intro value slice Ae s σ H x y v u Q I rx ry h hs;obtain⟨p,xs,i,z,rfl,rfl,hq,he,q⟩:=h;cases rx;obtain⟨t,rfl⟩:=ry;obtain⟨its,r,pl,hz⟩:=I.tuple hq;obtain⟨j,h1,h2,h3,h4,h5⟩:=Xq he;obtain⟨w,ew,rw'⟩:=r.get h2;have hl:=r.length;have hn:=Pf;have fin:EP X Ae σ Q w s:=⟨z,H,I,rw',q⟩
 exact subscriptTail_builtinR (x:=w) pl.typeIs slot_tuple_getitem.lookup
  (getItem_tuple (j:=j) (Q:=fun r s'=>r=w/\EP X Ae σ Q r s') pl O9m O9m (by rw[qc4,←hl];exact h1) (by simpa using ew) ⟨rfl,fin⟩) hs
theorem j9:aR X ND:=by
 intro value slice Ae s σ H x y v u Q I rx ry h hs;obtain⟨z,i,c,rfl,rfl,hz,he,q⟩:=h;obtain⟨t,rfl⟩:=rx;obtain⟨t',rfl⟩:=ry;obtain⟨j,h1,h2,h3,h4,h5⟩:=Xq he;have hl:z.cps.toList.length=z.length:=by simp[Str.length]
 rw[hl]at h1 h4 h5;have hn:=Pf
 exact tail_any (typeIs_str s z t) slot_str_getitem.lookup (getItem_str (c:=c) (by
  have e1:decide (i < -(2 ^ 63:Int))=false:=qe5 O9m;have e2:decide (i ≥ 2 ^ 63)=false:=qe5 O9m;rw[e1,e2,qn7]) (by rw[h1];simpa using h2) ⟨.str ⟨#[c]⟩,H,I.tok _,⟨_,rfl⟩,q⟩) hs
noncomputable def tP(K:W.Frag):R2:=fun x y H Q=>JN K x y H Q\/gC K x y H Q\/ND x y H Q
theorem kR:aR X (tP X.K):=AA.or (DZ.or j9)
theorem i8(its:List Value)(n j:Nat)(u:Value):Obj.mapSeq (·.setIfInBounds j u) { cls:=.type "list",data:=.seq its.toArray n }={ cls:=.type "list",data:=.seq (its.set j u).toArray n }:=by
 simp[Obj.mapSeq]
theorem Bd.lst{Ae:Ba}{σ:St}{H:Hp}{s:Shared}{p:Addr}{xs:List V}(I:Bd X Ae σ H s)(h:H p=some (.lst xs)) :
 ∃(its:List Value) (n:Nat),Vals xs its/\s.heap.get? p=some { cls:=.type "list",data:=.seq its.toArray n }/\xs.length<=sizeLine:=by
 obtain⟨z,its,n,r,e⟩:=I.hok p _ h;exact⟨its,n,r,e,z⟩
theorem Bd.lstUpd{Ae:Ba}{σ:St}{H:Hp}{s:Shared}{p:Addr}{xs ys:List V}{its its':List Value}{n n':Nat}{f:Obj->Obj}(I:Bd X Ae σ H s)(h:H p=some (.lst xs))
 (ho:s.heap.get? p=some { cls:=.type "list",data:=.seq its.toArray n }) (hf:f { cls:=.type "list",data:=.seq its.toArray n }={ cls:=.type "list",data:=.seq its'.toArray n' }) (r:Vals ys its') (hz:ys.length<=sizeLine) (t:Nat) :
 Bd X Ae σ (upd H p (.lst ys)) { s with heap:=s.heap.update p f,toks:=t }:=by
 have e:(s.heap.update p f).get? p=some { cls:=.type "list",data:=.seq its'.toArray n' }:=by
  rw[qj3 f ho (by rw[hf]<;>rfl),hf]
 refine I.write (x:=p) (e:=p) (by rw[h];trivial) (.inl rfl) (fun b u hb q=>(qi6 _ _ (Ne.symm hb)).trans q) ⟨_,e⟩ ?_;exact⟨hz,its',n',r,e⟩
noncomputable def NB:V->V->V->Hp->(Hp->Prop)->Prop:=fun o i v H Q=>∃p xs k j,o=.ref p/\i=.int k/\H p=some (.lst xs)/\HA xs.length k=some j/\Q (upd H p (.lst (xs.set j v)))
theorem Yc:oU X NB:=by
 intro Ae s σ H o i v ov iv u Q I ro ri rv h;obtain⟨p,xs,k,j,rfl,rfl,hp,hj,q⟩:=h;cases ro;obtain⟨t,rfl⟩:=ri;obtain⟨its,n,r,ho,hz⟩:=I.lst hp;obtain⟨h1,h2,h3,h4⟩:=aB hj;have hl:=r.length;have hn:=Pf
 have I':Bd X Ae σ (upd H p (.lst (xs.set j v))) { s with heap:=s.heap.update p (Obj.mapSeq (·.setIfInBounds j u)) } :=
  I.lstUpd hp ho (i8 its n j u) (r.set rv j) (by rw[List.length_set];exact hz) s.toks
 by_cases h0:0<=k
 . have hk:k.toNat=j:=by
    rw[seqIndex_of h0 h4]at h1;exact qb6 h1
   exact PySem.W.ki_setAt ho h0 O9m (by rw[qc4,←hl];exact h4) (by rw[hk];exact⟨_,I',q⟩)
 . have hk:(k+(its.toArray.size:Int)).toNat=j:=by
    rw[seqIndex_neg (by omega) h3]at h1;rw[qc4,←hl];exact qb6 h1
   exact PySem.W.ki_setBack ho O9m (by rw[qc4,←hl];exact h3) O9m (by rw[hk];exact⟨_,I',q⟩)
theorem V3(lo hi:Option Int)(n:Nat):(sliceBounds lo hi none n).1=((HT.sIx n 0 lo:Nat):Int)/\(sliceBounds lo hi none n).2.1=((HT.sIx n n hi:Nat):Int)/\(sliceBounds lo hi none n).2.2=1:=by
 refine⟨?_,?_,rfl⟩
 . cases lo with
   | none=>simp[sliceBounds,HT.sIx]
   | some i =>
     simp only[sliceBounds,HT.sIx,Option.getD_none,show(1:Int) > 0 by decide,if_true];by_cases h:i<0
     . simp only[h,if_true]<;>omega
     . simp only[h,if_false]<;>omega
 . cases hi with
   | none=>simp[sliceBounds,HT.sIx]
   | some i =>
     simp only[sliceBounds,HT.sIx,Option.getD_none,show(1:Int) > 0 by decide,if_true];by_cases h:i<0
     . simp only[h,if_true]<;>omega
     . simp only[h,if_false]<;>omega
theorem Tm(its:List Value)(lo hi:Option Int):slicePick its.toArray lo hi none=((its.drop (HT.sIx its.length 0 lo)).take (HT.sIx its.length its.length hi-HT.sIx its.length 0 lo)).toArray:=by
 obtain⟨h1,h2,h3⟩:=V3 lo hi its.toArray.size;unfold slicePick;rw[h1,h2,h3];simp only[sliceRange_one,pick_run,qc4]<;>rfl
noncomputable def nB(K:W.Frag):V->Option Int->Option Int->Hp->VK->Prop:=fun x lo hi H Q=>∃a xs,x=.ref a/\SqL K H a xs/\∀p,H p=none->Q (.ref p) (upd H p (.lst (cutV xs lo hi)))
theorem fX:LO X (nB X.K):=by
 intro Ae s σ H x v vl vu lo hi sl Q I rx hs pl pu h;obtain⟨a,xs,rfl,hx,q⟩:=h;cases rx;obtain⟨its,r,ht,hz⟩:=I.list hx;have hlen:=r.length;refine⟨"list",_,slot_list_getitem.lookup,ht.isList.typeIs,?_⟩;refine wpAny_getItem_list_slice ht.isList hs pl pu .none (by simp) ?_ (by rw[qc4]<;>omega);rw[Tm,←hlen];refine⟨.ref s.heap.objs.size,_,I.laid (t':=s.toks) (o:=.lst (cutV xs lo hi)) (fun b ob q=>qa7 _ q) (qa9 _) ?_,rfl,q _ (I.hok.fresh (qa9 _))⟩;exact⟨qe1 (Qe xs lo hi) hz,_,0,(r.drop (HT.sIx xs.length 0 lo)).take (HT.sIx xs.length xs.length hi-HT.sIx xs.length 0 lo),qc0 _ rfl⟩
theorem Xp:E9 X (.builtin "len") (fun xs H Q=>∃p ys,xs=[.ref p]/\(SqL X.K H p ys\/Dv X.K H p ys)/\Q (.int ys.length) H):=by
 intro Ae s σ H xs us Q I r h;obtain⟨p,ys,rfl,hq,q⟩:=h;obtain⟨u,rfl,rx⟩:=Ma r;cases rx;have hn:=Pf;rcases hq with hq | hq
 . obtain⟨its,r',pl,hz⟩:=I.list hq;have hlen:=r'.length;exact Calls.call_len_list pl.isList (by simp only[qc4]<;>omega) ⟨.int ys.length,H,I.tok _,⟨s.toks+1,by rw[qc4,hlen]⟩,q⟩
 . obtain⟨its,r',pl,hz⟩:=I.tuple hq;have hlen:=r'.length;exact len_tuple pl (by simp only[qc4]<;>omega) ⟨.int ys.length,H,I.tok _,⟨s.toks+1,by rw[qc4,hlen]⟩,q⟩
theorem Kc:E9 X (.builtin "len") (fun xs H Q=>∃z,xs=[.str z]/\z.length<=sizeLine/\Q (.int z.length) H):=by
 intro Ae s σ H xs us Q I r h;obtain⟨z,rfl,hz,q⟩:=h;obtain⟨u,rfl,t,rfl⟩:=Ma r;have hn:=Pf;exact len_str O9m ⟨.int z.length,H,I.tok _,⟨_,rfl⟩,q⟩
theorem Xo:E9 X (.type "list") (fun xs H Q=>∃p ys,xs=[.ref p]/\(SqL X.K H p ys\/Dv X.K H p ys)/\∀l,H l=none->Q (.ref l) (upd H l (.lst ys))):=by
 intro Ae s σ H xs us Q I r h;obtain⟨p,ys,rfl,hq,q⟩:=h;obtain⟨u,rfl,rx⟩:=Ma r;cases rx
 have fin:∀(its:List Value),Vals ys its->ys.length<=sizeLine->∀(h':Heap) (c':Nat),(∀b o',s.heap.get? b=some o'->h'.get? b=some o') →
  h'.get? s.heap.objs.size=some { cls:=.type "list",dict:=none,data:=.seq its.toArray c',slots:=#[] }->EP X Ae σ Q (.ref s.heap.objs.size) { s with heap:=h' }:=fun its r' hz h' c' kp e =>
  ⟨.ref s.heap.objs.size,_,I.laid (t':=s.toks) kp (qa9 _) (show ObjOk X.prog X.w _ h' _ (.lst ys) from⟨hz,its,c',r',e⟩),rfl,q _ (I.hok.fresh (qa9 _))⟩
 rcases hq with hq | hq
 . obtain⟨its,r',pl,hz⟩:=I.list hq;have hlen:=r'.length;obtain⟨o,ho,hc,n,hd⟩:=pl.isList;exact call_list_seq p (.inl rfl) ho hc hd (fun h' c' kp e=>fin its r' hz h' c' kp e) (by simp only[qc4]<;>omega)
 . obtain⟨its,r',pl,hz⟩:=I.tuple hq;have hlen:=r'.length;obtain⟨o,ho,hc,n,hd⟩:=pl;exact call_list_seq p (.inr rfl) ho hc hd (fun h' c' kp e=>fin its r' hz h' c' kp e) (by simp only[qc4]<;>omega)
theorem T5:E9 X (.type "tuple") (fun xs H Q=>∃p ys,xs=[.ref p]/\((SqL X.K H p ys/\∀l,H l=none->Q (.ref l) (upd H l (.tup ys)))\/(Dv X.K H p ys/\Q (.ref p) H))):=by
 intro Ae s σ H xs us Q I r h;obtain⟨p,ys,rfl,h⟩:=h;obtain⟨u,rfl,rx⟩:=Ma r;cases rx;rcases h with⟨hq,q⟩|⟨hq,q⟩
 . obtain⟨its,r',pl,hz⟩:=I.list hq;have hlen:=r'.length;refine call_tuple_list pl.isList (fun h' kp=>?_) (by simp only[qc4]<;>omega);have I1:Bd X Ae σ H { s with heap:=h' }:=I.kept (t':=s.toks) kp
   have I2:Bd X Ae σ (upd H h'.objs.size (.tup ys)) { s with heap:=h'.push { cls:=.type "tuple",data:=.seq its.toArray } } :=
    I1.laid (t':=s.toks) (fun b o e=>qa7 _ e) (qa9 _) (show ObjOk X.prog X.w _ _ _ (.tup ys) from⟨hz,its,r',I0.new _ _⟩)
   exact⟨.ref h'.objs.size,_,I2,rfl,q _ (I1.hok.fresh (qa9 _))⟩
 . obtain⟨its,r',pl,hz⟩:=I.tuple hq;exact call_tuple_same pl ⟨.ref p,H,I,rfl,q⟩
noncomputable def tD(K:W.Frag)(T:String)(x:V)(H:Hp):Prop:=match x with
 | .str _=>T="str"
 | .int _=>T="int"
 | .ref p=>(T="list"/\∃xs,SqL K H p xs)\/(T="tuple"/\∃o,K.lookup p=some o/\o.cls=.type "tuple"/\o.dict=none) ∨
    (T="dict"/\((∃Az,H p=some (.dK Az))\/∃Az,H p=some (.dT Az)))\/(T="set"/\∃S n,H p=some (.set S n))
 | _=>False
theorem JE{Ae:Ba}{σ:St}{H:Hp}{s:Shared}{T:String}{x:V}{v:Value}(I:Bd X Ae σ H s)(r:RelV x v)(ty:tD X.K T x H) :
 s.TypeIs v T/\∀a,v=.ref a->∃ob,s.heap.get? a=some ob/\ob.dict=none:=by
 cases x with
 | str z =>
   obtain⟨t,rfl⟩:=r;cases (show T="str" from ty);exact⟨typeIs_str s z t,fun _ e=>nomatch e⟩
 | int i =>
   obtain⟨t,rfl⟩:=r;cases (show T="int" from ty);exact⟨typeIs_int s i t,fun _ e=>nomatch e⟩
 | ref p =>
   cases r;rcases ty with⟨rfl,xs,hq⟩|⟨rfl,o,hk,hc,hd⟩|⟨rfl,hk⟩|⟨rfl,S,n,hk⟩
   . obtain⟨its,_,pl,_⟩:=I.list hq;refine⟨pl.isList.typeIs,fun a e=>?_⟩;cases e;obtain⟨o,n,e,c,hd,_⟩:=pl;exact⟨o,e,hd⟩
   . refine⟨⟨o,I.kIn p o hk,hc⟩,fun a e=>?_⟩;cases e;exact⟨o,I.kIn _ o hk,hd⟩
   . have z:∃o,s.heap.get? p=some o/\o.ExactDict:=by
      rcases hk with⟨Az,hk⟩|⟨Az,hk⟩
      . obtain⟨_,_,_,_,o,_,_,e,ex,_⟩:=I.hok p _ hk;exact⟨o,e,ex⟩
      . obtain⟨_,_,_,_,o,_,_,e,ex,_⟩:=I.hok p _ hk;exact⟨o,e,ex⟩
     obtain⟨o,e,ex⟩:=z;refine⟨⟨o,e,ex.1⟩,fun a e2=>?_⟩;cases e2;exact⟨o,e,ex.2.1⟩
   . obtain⟨o,_,_,_,e,ex,_⟩:=I.hok p _ hk;refine⟨⟨o,e,ex.1⟩,fun a e2=>?_⟩;cases e2;exact⟨o,e,ex.2.1⟩
 | _=>exact False.elim ty
noncomputable def tK(K:W.Frag)(T:String)(r:V->List V->Hp->VK->Prop)(to:TE)(t:TA):TE:=fun σ H Q=>to σ H fun x H1=>tD K T x H1/\t σ H1 fun xs H2=>r x xs H2 Q
variable{o e:Expr}{es:List Expr}{to:TE}{t:TA}{name:Str}{apos cpos:Pos}{T id:String}{r:V->List V->Hp->VK->Prop}
theorem NI(pa:PlainAttrs T)(slot:Slot T name id)(hty:typeOf (.builtin id)=pure (.type "method_descriptor"))(hm:MtR X id r)(ho:PE X o to)(ha:PA X (e::es) t)
 (hbase:attributeBase o name X.env (eval o X.env)=eval o X.env:=by rfl)
 (hfew:((backTo cpos (starEach (e::es) X.env)).all (fun x=>!x.1)&&(backToKw cpos (keywordEach [] X.env)).all (fun x=>x.1.isSome)
   && decide ((e::es).length+([]:List Keyword).length+(if ([]:List Keyword).isEmpty then 0 else 1)<30))=true:=by rfl)
 (hline:(apos.endLine==cpos.line)=true:=by rfl) (hs:starEach (e::es) X.env=(false,eval e X.env)::starEach es X.env:=by rfl) (hplain:(backTo cpos (starEach es X.env)).any (·.1)=false:=by rfl) :
 PE X (.Call (.Attribute o name apos) (e::es) [] cpos) (tK X.K T r to t):=by
 intro Ae s σ H Q I h;refine wpAny_Call_method_late hbase hfew hline rfl (C8 (ho Ae s σ H _ I h) fun v s1 _z=>?_);obtain⟨x,H1,I1,r1,ty,q1⟩:=_z;obtain⟨h1,h2⟩:=JE I1 r1 ty;refine⟨T,id,pa,slot,hty,h1,h2,?_⟩;have hA:=ha cpos Ae s1 σ H1 _ I1 q1;rw[hs]at hA ⊢;refine qp7 (by show(false || (backTo cpos (starEach es X.env)).any (·.1))=false;rw[hplain]<;>rfl) (qr2 ?_);exact C8 hA fun us s2 ⟨vs,H2,I2,r2,q2⟩=>hm Ae s2 σ H2 x vs v us Q I2 r1 r2 q2
end
noncomputable def mD(X:Cx)(id:String)(r:V->List V->Hp->VK->Prop):Prop :=
 ∀(Ae:Ba) (s:Shared) (σ:St) (H:Hp) (x:V) (xs:List V) (v:Value) (us:List Value) (Q:VK),Bd X Ae σ H s->RelV x v->Vals xs us->r x xs H Q →
   wpAny (model X.prog X.w) X.A (call (.builtin id) (v::us)) (EP X Ae σ Q) X.xe s
theorem Vals.one:∀{x:V}{us:List Value},Vals [x] us->∃u,us=[u]/\RelV x u
 | _,_,.cons r .nil=>⟨_,rfl,r⟩
theorem Vals.rep{xs:List V}{us:List Value}(h:Vals xs us):∀k:Nat,Vals (List.replicate k xs).flatten (List.replicate k us).flatten
 | 0=>.nil
 | k+1=>by
   rw[qh6,qh6,qm3,qm3];exact Vals.append h (Vals.rep h k)
theorem Ve(its:List Value):∀(k:Nat) (acc:List Value),
 List.foldl (fun x1 x2=>x1++x2) acc.toArray (List.replicate k its.toArray)=(acc++(List.replicate k its).flatten).toArray
 | 0,acc=>by simp
 | k+1,acc=>by
   have e:acc.toArray++its.toArray=(acc++its).toArray:=by simp
   have e2:(acc++its)++(List.replicate k its).flatten=acc++(List.replicate (k+1) its).flatten:=by
    rw[qh6,qm3,qn2]
   rw[←e2,←Ve its k (acc++its),←e,qh6,List.foldl_cons]
section
variable{X:Cx}{Ae:Ba}{σ:St}{H:Hp}{s:Shared}{l b:Addr}{xs ys zs:List V}
theorem Bd.lset{its its':List Value}{n:Nat}{f:Array Value->Array Value}{t':Nat}(I:Bd X Ae σ H s)(hH:H l=some (.lst xs))
 (e:s.heap.get? l=some { cls:=.type "list",data:=.seq its.toArray n }) (hf:f its.toArray=its'.toArray) (hv:Vals ys its') (hz:ys.length<=sizeLine) :
 Bd X Ae σ (upd H l (.lst ys)) { s with heap:=s.heap.update l (Obj.mapSeq f),toks:=t' }:=by
 have q:=PySem.IsL.update e f;rw[hf]at q;refine I.write (x:=l) (e:=l) (by rw[hH];exact trivial) (.inl rfl) (fun b' u hb hu=>(qi6 s.heap (Obj.mapSeq f) (Ne.symm hb)).trans hu) ⟨_,q⟩ ?_;exact⟨hz,its',_,hv,q⟩
theorem Bd.lnew{its:List Value}{t':Nat}(I:Bd X Ae σ H s)(hv:Vals ys its)(hz:ys.length<=sizeLine) :
 Bd X Ae σ (upd H s.heap.objs.size (.lst ys)) { s with heap:=s.heap.push { cls:=.type "list",data:=.seq its.toArray },toks:=t' } :=
 I.laid (fun _ _ q=>qa7 _ q) (qa9 _) ⟨hz,its,0,hv,qc0 _ rfl⟩
theorem Bd.fresh(I:Bd X Ae σ H s):H s.heap.objs.size=none:=I.hok.fresh (qa9 _)
theorem Bd.lstM(I:Bd X Ae σ H s)(hH:H l=some (.lst xs)):xs.length<=sizeLine/\∃(its:List Value) (n:Nat),Vals xs its/\xs.length=its.length/\s.heap.get? l=some { cls:=.type "list",data:=.seq its.toArray n }:=by
 obtain⟨z,its,n,r,e⟩:=I.hok l _ hH;exact⟨z,its,n,r,r.length,e⟩
theorem Ys{n:Nat}(h:n<=sizeLine):Builtin.List.listTooLong n=false:=by
 unfold Builtin.List.listTooLong;exact qe5 O9m
end
section
variable{X:Cx}
noncomputable def gE:V->List V->Hp->VK->Prop:=fun x vs H Q=>∃l xs y,x=.ref l/\vs=[y]/\H l=some (.lst xs)/\xs.length<sizeLine/\Q .non (upd H l (.lst (xs++[y])))
theorem Ch:mD X "list.append" gE:=by
 intro Ae s σ H x vs v us Q I rx rv h;obtain⟨l,xs,y,rfl,rfl,hH,hz,q⟩:=h;cases rx;obtain⟨u,rfl,ru⟩:=rv.one;obtain⟨z,its,n,r,hl,e⟩:=I.lstM hH;refine call_meets F.slot_list_append ⟨_,e,rfl⟩ F.entry_list_append (F.args_list_append_2 _ _) (PySem.list_append l its.toArray n u (by rw[qc4];omega)) ⟨e,?_⟩;refine⟨.non,_,I.lset (its':=its++[u]) hH e (by simp) (r.append (.cons ru .nil)) ?_,rfl,q⟩;rw[qb8,qk5];omega
noncomputable def gD:V->List V->Hp->VK->Prop:=fun x vs H Q=>∃l b xs zs,x=.ref l/\vs=[.ref b]/\H l=some (.lst xs)/\H b=some (.lst zs)/\xs.length+zs.length<=sizeLine/\Q .non (upd H l (.lst (xs++zs)))
theorem BG:mD X "list.extend" gD:=by
 intro Ae s σ H x vs v us Q I rx rv h;obtain⟨l,b,xs,zs,rfl,rfl,hH,hB,hz,q⟩:=h;cases rx;obtain⟨u,rfl,ru⟩:=rv.one;cases ru;obtain⟨z,its,n,r,hl,e⟩:=I.lstM hH;obtain⟨z2,its2,n2,r2,hl2,e2⟩:=I.lstM hB;have hsz:its.toArray.size+its2.toArray.size<=sizeLine:=by rw[qc4,qc4];omega
 have eG:¬(!its.toArray.isEmpty&&Builtin.List.listTooLong (its.toArray.size+its2.toArray.size))=true:=by
  rw[Ys hsz,Bool.and_false];exact qc2
 refine call_meets F.slot_list_extend ⟨_,e,rfl⟩ F.entry_list_extend (F.args_list_extend_2 _ _)
  (AutoSeq1.list_extend_list_list_0 l its.toArray n b its2.toArray n2 eG (by rw[qc4];omega) O9m) ⟨e,e2,?_⟩
 refine⟨.non,_,I.lset (its':=its++its2) hH e (by simp) (r.append r2) ?_,rfl,q⟩;rw[qb8];omega
noncomputable def qL:R2:=fun x y H Q=>∃l k xs,x=.ref l/\y=.int k/\H l=some (.lst xs)/\-(2 ^ 63)<=k/\k<2 ^ 63/\xs.length*k.toNat<=sizeLine ∧
 ∀p,H p=none->Q (.ref p) (upd H p (.lst (List.replicate k.toNat xs).flatten))
theorem GW{α:Type}(xs:List α)(k:Nat):(List.replicate k xs).flatten.length=k*xs.length:=by
 induction k with
 | zero=>simp
 | succ k ih=>rw[qh6,qm3,qb8,ih,Nat.succ_mul,Nat.add_comm]
theorem jS:OpR X (binaryOp .Mult) qL:=by
 intro Ae s σ H x y v u Q I rx ry h;obtain⟨l,k,xs,rfl,rfl,hH,h1,h2,hz,q⟩:=h;cases rx;obtain⟨t,rfl⟩:=ry;obtain⟨z,its,n,r,hl,e⟩:=I.lstM hH;have hlen:its.toArray.size*k.toNat<=sizeLine:=by rw[qc4,←hl];exact hz
 have hcap:¬its.toArray.size*k.toNat > (2 ^ 63-1) / 8:=by
  have:(sizeLine:Nat)<=(2 ^ 63-1) / 8:=by decide
  omega
 have hfit:¬(!Builtin.List.listFitsIndex k)=true:=by
  rw[fitsIndex_both h1 h2];exact qc2
 have eG:¬Builtin.List.listTooLong (its.toArray.size*k.toNat)=true:=by
  rw[Ys hlen];exact qc2
 have hnew:List.foldl (fun x1 x2=>x1++x2) #[] (List.replicate (if its.toArray.isEmpty=true then 0 else k.toNat) its.toArray)=(List.replicate k.toNat its).flatten.toArray:=by
  have f0:∀m:Nat,List.foldl (fun x1 x2=>x1++x2) #[] (List.replicate m its.toArray)=(List.replicate m its).flatten.toArray:=fun m=>by
   have:=Ve its m [];rw[List.nil_append]at this;exact this
  rw[f0];cases its with
  | nil=>simp
  | cons a r'=>rw[if_neg (by simp)]
 refine wpAny_binaryOp_repeat_ref (T:="list") (U:="int") (by decide) ⟨_,e,rfl⟩ (fun s'=>typeIs_int s' k t) noFill_list_mul F.fills_int_mul F.slot_int_rmul repeat_list F.slot_int_index.lookup
  (call_meets F.slot_int_rmul (typeIs_int s k t) F.entry_int_rmul (F.args_int_rmul_2 _ _) (int___rmul___int_list k t l its.toArray n)
    ⟨e,rfl,⟨_,e,rfl⟩,call_meets F.slot_list_mul ⟨_,e,rfl⟩ F.entry_list_mul (F.args_list_mul_2 _ _) (AutoListH.list___mul___list_int_3 l its.toArray n k t hfit hcap eG) ⟨e,?_⟩⟩)
 rw[hnew];exact⟨.ref _,_,I.lnew (t':=s.toks) (r.rep k.toNat) (by rw[GW,Nat.mul_comm];exact hz),rfl,q _ I.fresh⟩
end
section
variable{prog:Program}{w:World}{A:Around}{E:Value->Shared->Prop}{s:Shared}
end
section
variable{X:Cx}
end
end L2
namespace Att
open PySem PySem.W PySem.Calls PyProof.Rows
theorem Qp{P:Params}{h:Heap}:∀(ns:List Int) (vs:List Value),WellAll P h vs (ns.map WData.int)->IntsAre vs ns:=by
 intro ns
 induction ns with
 | nil =>
   intro vs w;rw[ql5]at w;cases w;exact .nil
 | cons n ns ih =>
   intro vs w;rw[qf0]at w;cases w with
   | cons a b =>
     cases a;exact .cons _ _ (ih _ b)
theorem AY{l:OpenLaw}{n:Nat}(hn:l.most=some n){P:Params}{h:Heap}{args:List WData}{vals:List Value}
 (hpre:l.row.toRowW.claim.pre args=true) (hwl:WellAll P h vals args) :
 ∃a vs ns,vals=[Value.ref a]/\args=[WData.list (ns.map WData.int)]/\h.get? a=some { cls:=.type "list",data:=.seq vs.toArray }/\IntsAre vs ns/\ns.length<=n:=by
 have hsh:WShape.hasAll [] args [.list .int]=true:=(pre_splitW hpre).1;have hc:l.pre.holds [] { args:=args }=true:=(pre_splitW hpre).2;obtain⟨d,r,rfl,h1,h2⟩:=hasAllW_cons hsh;obtain rfl:=hasAllW_nil h2;obtain⟨xs,rfl,h3⟩:=hasW_list h1;obtain⟨ns,rfl⟩:=items_int h3
 have hlen:ns.length<=n:=by
  unfold OpenLaw.pre at hc
  have h4:(WTm.not (.lt (.lit (.int (n:Int))) (.len (.arg 0)))).holds [] { args:=[.list (ns.map .int)] }=true:=by
   have h4:=(holds_andW hc).1;rw[hn]at h4;exact h4
  have h5:=condW_of h4 (w_not (w_lt w_lit (w_len_list (w_arg rfl))));rw[qa1]at h5;refine Nat.le_of_not_lt fun q=>?_;have q':(n:Int)<((ns.length:Nat):Int):=O9m
  first
   | (rw[qe9 q']at h5;exact absurd h5 (by decide))
   | (simp at h5;omega)
 cases hwl with
 | cons w1 w2 =>
   cases w2;cases w1 with
   | list ho hall=>exact⟨_,_,ns,rfl,rfl,ho,Qp ns _ hall,hlen⟩
theorem bA(l:OpenLaw)(args:List WData):l.row.toRowW.claim.post args (.bool true) args=true :=
 postW_of (r:=l.row.toRowW) (X:=(true==true))
  (show WShape.has [] (.bool true) .bool=true by first | rfl | decide | simp[WShape.has,WShape.arms,WShape.armsAll])
  (show(WTm.eq .res (.lit (.bool true))).value [] { args:=args,res:=some (.bool true),after:=args }=some (.bool (true==true)) from w_eq_bool (w_res rfl) w_lit) rfl
theorem attach_call{l:OpenLaw}{n:Nat}{q:Program}{loose:List Str}{XP:(Str->Option Value)->Heap->Prop}{YP:World->Heap->Prop}{d:DefRec}
 (hn:l.most=some n) (hdf:d.params.defaults=[])
 (call:∀(w:World) (s₀ s₁:Shared) (mg mb:Str->Option Value) (fa:Addr) (o:Obj) (pm cd doc:Value) (a:Addr) (vs:List Value) (ns:List Int),
   Ground q loose [] XP w s₀ mg mb s₁.heap->YP w s₁.heap →
   s₁.heap.get? fa=some o->o.data=.func (docDef d.name d.params d.body d.scope pm cd doc)->s₁.heap.CodeRec cd d.name->mg d.name=some (.ref fa) →
   s₁.heap.get? a=some { cls:=.type "list",data:=.seq vs.toArray }->IntsAre vs ns->ns.length<=n->s₁.gens=#[] →
   codeAny (model l.prog w) callerA (.call (.ref fa) ⟨[.ref a],[]⟩) (fun r s'=>r=.ok (.ret (.bool true))/\OldK s₁.heap s'.heap/\s'.os=s₁.os/\AllBare s'.gens) s₁) :
 WalkO q loose XP YP l.row.toRowW d [] (fun f vs=>PySem.call f vs):=by
 intro w s₀ s₁ mg mb G Y fa o pm cd doc dV kV ho hd hcd hD hmg hg args vals as hpre hlay hrd hwl hlo;obtain rfl:dV=.none:=Dflts.none hD hdf;obtain rfl:kV=.none:=Dflts.noKw hD;obtain⟨a,vs,ns,rfl,rfl,hobj,hints,hlen⟩:=AY hn hpre hwl;refine enter_call (codeAny_mono (call w s₀ s₁ mg mb fa o pm cd doc a vs ns G Y ho (fd_plain hd) hcd hmg hobj hints hlen hg) fun r s' hq=>?_);obtain⟨rfl,h2,h3,h4⟩:=hq;exact⟨.inl ⟨.bool true,.bool true,[],rfl,fun _=>rfl,.bool true,bA l _,fun _=>⟨List.Pairwise.nil,fun _ hm=>(nomatch hm)⟩⟩,h2,h3,h4⟩
section
variable{prog:Program}{w:World}{A:Around}{E:Value->Shared->Prop}{s:Shared}{K:Frag}
end
end Att
namespace L2
open PySem PySem.Spec PyProof.Rows
theorem Ub:∀{vs:List Value}{ns:List Int},IntsAre vs ns->Vals (ns.map V.int) vs
 | _,_,.nil=>.nil
 | _,_,.cons n t h=>.cons ⟨t,rfl⟩ (Ub h)
noncomputable def lQ(H:Hp):Prop:=∀b,H b=none\/∃o xs,H b=some (.frz o (.lst xs))
theorem dW{P:Program}{w:World}{K:W.Frag}{mg mb:Str->Option Value}{CX:FH}{k:Nat}{fa a:Addr}{fd:FuncData}{x:Str}{sp:Sp}{s₁:Shared}{vs:List Value}{ns:List Int}
 (KX:K.In s₁.heap) (hns:s₁.heap.Ns mainGlobals mg) (hb:s₁.heap.Ns builtinsNs mb) (WV:∀x:Str,x≠"__name__"->mb x=bootBuiltins x) (hlim:s₁.heap.NoLimit) (hg:s₁.gens=#[])
 (ha:s₁.heap.get? a=some { cls:=.type "list",data:=.seq vs.toArray }) (hi:IntsAre vs ns) (hl:ns.length<=sizeLine) (hr:Fr k callerA)
 (F:∀base:Heap,K.In base->base.Ns mainGlobals mg->Bt P w K mg base CX k fa fd [x] sp) (hbind:∀(s:Shared) (u:Value),BindsTo s fd ⟨[u],[]⟩ [(x,u)])
 (Zu:∀H:Hp,lQ H->SqL K H a (ns.map V.int)->sp [.ref a] H (fun v _=>v=.bl true) fun _ _ _=>False)
 (SG:∀H e s',CX [] H s₁ (fun _ _ _=>False) e s'->False) :
 codeAny (model P w) callerA (.call (.ref fa) ⟨[.ref a],[]⟩) (fun r s'=>r=.ok (.ret (.bool true))/\OldK s₁.heap s'.heap/\s'.os=s₁.os/\AllBare s'.gens) s₁:=by
 have rv:=Ub hi;have qT:=hi.length
 have core:∀H:Hp,lQ H->SqL K H a (ns.map V.int)->Mo P w H s₁.heap->(∀b,H b≠none->b=a)->(H a≠none->K.lookup a=none) →
  codeAny (model P w) callerA (.call (.ref fa) ⟨[.ref a],[]⟩) (fun r s'=>r=.ok (.ret (.bool true))/\OldK s₁.heap s'.heap/\s'.os=s₁.os/\AllBare s'.gens) s₁:=by
  intro H hO hS hok hA hK;have aM:∀{b:Addr}{o:Obj},s₁.heap.get? b=some o->H b=none->(Wy s₁.heap H).get? b=some o:=fun e n=>EH e n
  have nO:∀{b:Addr}{o:Obj}{es:Array DictEntry}{ep:Nat},s₁.heap.get? b=some o->o.data=.dict es ep->H b=none:=fun {b o es ep} e d=>by
   cases q:H b with
   | none=>rfl
   | some u =>
     have e':b=a:=hA b (by rw[q];simp);subst e';rw[ha]at e;cases e;have d':Data.seq vs.toArray _=Data.dict es ep:=d;cases d'
  have pA:∀{b:Addr}{m:Str->Option Value},s₁.heap.Ns b m->(Wy s₁.heap H).Ns b m:=fun {b m} ⟨o,es,ep,e,d,r⟩=>⟨o,es,ep,aM e (nO e d),d,r⟩
  have uL:K.In (Wy s₁.heap H):=fun b o e=>aM (KX b o e) (by
   cases q:H b with
   | none=>rfl
   | some u =>
     have e':b=a:=hA b (by rw[q];simp);subst e';rw[hK (by rw[q];simp)]at e;cases e)
  have hM:Mod K mg (Wy s₁.heap H):=⟨uL,pA hns,⟨mb,pA hb,WV⟩,let ⟨mc,h1,h2⟩:=hlim;⟨mc,pA h1,h2⟩⟩
  have e0:u7 P w K mg (Wy s₁.heap H) callerA [] s₁ H:=⟨rfl,hM,fun b o e=>gR e,Nat.le_of_eq (bM _ _),trivial,fun b hb=>absurd (show b∈([]:List Addr) from hb) (by simp),hok,.of_eq hg⟩
  refine codeAny_mono ((F _ uL (pA hns)).run callerA [] s₁ H ⟨[.ref a],[]⟩ [.ref a] [.ref a] _ _ hr e0 (hbind s₁ (.ref a)) (.cons rfl .nil) (Zu H hO hS)) fun r s' h=>?_;cases r with
  | error e=>exact(SG H e s' h).elim
  | ok fl =>
    cases fl with
    | next=>exact False.elim h
    | brk=>exact False.elim h
    | cont=>exact False.elim h
    | ret u =>
      obtain⟨v,H',os,bare,un,rE,r',q⟩:=h;have q':v=.bl true:=q;subst q';obtain rfl:u=Value.bool true:=r';refine⟨rfl,OldK.of_keep fun b o e=>?_,os,bare⟩;cases q:H b with
      | none=>exact un.keep b o e q (by intro z;exact absurd (show b∈([]:List Addr) from z) (by simp)) (by simp)
      | some u =>
        rcases hO b with z|⟨ob,xs,z⟩
        . rw[q]at z;cases z
        . have z2:=un.frzs b ob _ z;obtain⟨e1,_⟩:=hok b _ z;obtain⟨e2,_⟩:=rE b _ z2;rw[e]at e1;cases e1;exact e2
 cases hk:K.lookup a with
 | some o =>
   have e:=KX a o hk;rw[ha]at e;cases e;refine core (fun _=>none) (fun _=>.inl rfl) (.inr ⟨_,vs.toArray,_,hk,rfl,rfl,rfl,by rw[qc4,qT];exact hl,by simpa using rv⟩) (fun b u z=>by have z':(none:Option HO)=some u:=z;cases z') (fun b z=>absurd rfl z) fun z=>absurd rfl z
 | none =>
   refine core (fun b=>if b=a then some (.frz { cls:=.type "list",data:=.seq vs.toArray } (.lst (ns.map V.int))) else none) (fun b=>?_) (.inl (.inr ⟨{ cls:=.type "list",data:=.seq vs.toArray },if_pos rfl⟩)) (fun b u z=>?_) (fun b z=>?_) fun _=>hk
   . by_cases hb:b=a
     . exact .inr ⟨_,_,if_pos hb⟩
     . exact .inl (if_neg hb)
   . by_cases hb:b=a
     . have z':=(if_pos hb).symm.trans z;cases z';subst hb;exact⟨ha,by rw[qa1];exact hl,vs,_,rv,ha⟩
     . have z':=(if_neg hb).symm.trans z;cases z'
   . by_cases hb:b=a
     . exact hb
     . exact absurd (if_neg hb) z
theorem walk_of{l:PySem.W.OpenLaw}{n k:Nat}{q:Program}{loose:List Str}{XP:(Str->Option Value)->Heap->Prop}{YP:World->Heap->Prop}{d:DefRec}{K:Params->PySem.W.Frag}{CX:World->FH}{sp:World->Sp}{x:Str}
 (hn:l.most=some n) (hn2:n<=sizeLine) (hdf:d.params.defaults=[]) (hr:Fr k callerA)
 (hY:∀(w:World) (h:Heap),YP w h->(K w.params).In h)
 (F:∀(w:World) (mg:Str->Option Value) (fa:Addr) (h:Heap),(K w.params).In h->h.Ns mainGlobals mg->mg d.name=some (.ref fa) →
   ∃fd:FuncData,(∀(s:Shared) (u:Value),BindsTo s fd ⟨[u],[]⟩ [(x,u)]) ∧
     ∀base:Heap,(K w.params).In base->base.Ns mainGlobals mg->Bt l.prog w (K w.params) mg base (CX w) k fa fd [x] (sp w))
 (Zu:∀(w:World) (H:Hp) (a:Addr) (ns:List Int),ns.length<=n->lQ H->SqL (K w.params) H a (ns.map V.int)->sp w [.ref a] H (fun v _=>v=.bl true) fun _ _ _=>False)
 (SG:∀(w:World) (H:Hp) (s:Shared) (e:Value) (s':Shared),CX w [] H s (fun _ _ _=>False) e s'->False) :
 PySem.W.WalkO q loose XP YP l.row.toRowW d [] (fun f vs=>PySem.call f vs):=by
 refine Att.attach_call hn hdf fun w s₀ s₁ mg mb fa o pm cd doc a vs ns G Y ho hd hcd hmg hobj hints hlen hg=>?_;have KX:=hY w _ Y;obtain⟨fd,hb,hF⟩:=F w mg fa _ KX G.T.g hmg;exact dW KX G.T.g G.T.b G.T.builtins G.T.nolimit hg hobj hints (qe1 hlen hn2) hr hF hb (fun H hO hS=>Zu w H a ns hlen hO hS) fun H e s'=>SG w H s₁ e s'
noncomputable def Qy(s:Stmt)(j:Nat):Stmt:=match s with
 | .ClassDef _ _ _ body _ _ _ _ _ _ _=>body.getD j (.Pass ⟨0,0,0,0⟩)
 | _=>.Pass ⟨0,0,0,0⟩
noncomputable def Im(s:Stmt):Arguments:=match s with
 | .FunctionDef _ a _ _ _ _ _ _ _ _=>a
 | _=>{ posonlyargs:=[],args:=[],vararg:=none,kwonlyargs:=[],kw_defaults:=[],kwarg:=none,defaults:=[] }
noncomputable def Gs(s:Stmt):List Stmt:=match s with
 | .FunctionDef _ _ b _ _ _ _ _ _ _=>b
 | _=>[]
noncomputable def As(s:Stmt):Scope:=match s with
 | .FunctionDef _ _ _ _ _ _ sc _ _ _=>sc
 | _=>{ kind:=.function,names:=[],isGenerator:=false,isCoroutine:=false }
noncomputable abbrev Dw:FH:=fun _ _ _ _ _ _=>False
noncomputable abbrev E0:XK:=fun _ _ _=>False
theorem dI{X:Cx}:Pw Dw X E0:=fun _ _ _ _ _ _ _ h=>h.elim
structure D5(K:W.Frag)(x qual:Str)(st:Stmt)(f:Addr)(fd:FuncData):Prop where
 ex:∃(oc:Value) (od:OAddr) (kV doc pm:Value) (an:OAddr) (Da ct:Value) (osl:Vx),
  fd=W.fnOf x qual (Im st) (Gs st) (As st) .none kV doc pm an Da ct/\K.lookup f=some ⟨oc,od,.func fd,osl⟩/\W.codeIn K Da qual=true
 kp:W.keepIn K (.ref f)=true
section
variable{P:Program}{w:World}{K:W.Frag}{mg:Str->Option Value}{base:Heap}
theorem D5.ok{x qual:Str}{st:Stmt}{f:Addr}{fd:FuncData}{N ps:List Str}{k:Nat}{sp:Sp}(F:D5 K x qual st f fd)(S:FnScope N ps (As st))(len:∀vs H Q E,sp vs H Q E->vs.length=ps.length)
 (hbody:∀(Da:Value) (A:Around) (outer:List Env) (s:Shared) (H:Hp) (vs:List V) (Q:VK) (E:XK),Fr k (A.deeper (envOfC qual (As st) s.heap.objs.size f Da))->sp vs H Q E →
   ∃t,CF (BZ Dw P w K mg base N qual (As st) f Da A outer s H E).nox (Gs st) t/\t { nx:=fun _ H'=>Q .non H',rt:=Q } (start N vs) H):Bt P w K mg base Dw (k+1) f fd ps sp:=by
 obtain⟨oc,od,kV,doc,pm,an,Da,ct,osl,rfl,lk,hcd⟩:=F.ex;refine oK lk hcd S len fun A outer s H vs Q E hr Zu=>?_;obtain⟨t,h,q⟩:=hbody Da A outer s H vs Q E hr Zu;exact⟨t,h.nox,q⟩
theorem D5.binds{x qual:Str}{st:Stmt}{f:Addr}{fd:FuncData}{ps:List Str}(F:D5 K x qual st f fd)
 (h:∀(kV doc pm:Value) (an:OAddr) (Da ct:Value) (us:List Value),us.length=ps.length->bindArgs (W.fnOf x qual (Im st) (Gs st) (As st) .none kV doc pm an Da ct) ⟨us,[]⟩=pure (ps.zip us)):Lp K fd ps []:=by
 obtain⟨oc,od,kV,doc,pm,an,Da,ct,osl,rfl,lk,hcd⟩:=F.ex;exact .all (h kV doc pm an Da ct)
theorem EN{x qual:Str}{st:Stmt}{f:Addr}{oc:Value}{od an:OAddr}{osl:Vx}{kV doc pm Da ct:Value}(l:K.lookup f=some ⟨oc,od,.func (W.fnOf x qual (Im st) (Gs st) (As st) .none kV doc pm an Da ct),osl⟩)
 (c:W.codeIn K Da qual=true) (k:W.keepIn K (.ref f)=true):D5 K x qual st f (W.fnOf x qual (Im st) (Gs st) (As st) .none kV doc pm an Da ct):=⟨⟨oc,od,kV,doc,pm,an,Da,ct,osl,rfl,l,c⟩,k⟩
end
section
variable{X:Cx}
theorem pv(i:Nat){x:Str}{pos:Pos}(hN:X.N[i]?=some x:=by rfl)(hv:pU X.env.scope x:=by first | exact Or.inl rfl | exact Or.inr (Or.inl rfl) | exact Or.inr (Or.inr rfl))(hd:(x==("__debug__":Str))=false:=by decide)
 (hcd:(x==("__classdict__":Str))=false:=by decide):PE X (.Name x pos) (mP i):=JQ hN hv hd hcd
end
theorem ite2{c A B:Prop}[Decidable c](h1:c->A)(h2:¬c->B):if c then A else B:=by
 by_cases h:c
 . rw[if_pos h];exact h1 h
 . rw[if_neg h];exact h2 h
noncomputable def Same(H H':Hp):Prop:=∀b o,H b=some o->H' b=some o
theorem Same.refl(H:Hp):Same H H:=fun _ _ h=>h
theorem Same.trans{H H1 H2:Hp}(a:Same H H1)(b:Same H1 H2):Same H H2:=fun c o h=>b c o (a c o h)
theorem Same.free{H H':Hp}(e:Same H H'){l:Addr}(h:H' l=Option.none):H l=Option.none:=by
 cases q:H l with
 | none=>rfl
 | some o =>
   rw[e l o q]at h;cases h
theorem Same.seq{K:W.Frag}{H H':Hp}{a:Addr}{xs:List V}(e:Same H H')(h:SqL K H a xs):SqL K H' a xs:=by
 rcases h with(h|⟨o,h⟩) | h
 . exact .inl (.inl (e _ _ h))
 . exact .inl (.inr ⟨o,e _ _ h⟩)
 . exact .inr h
noncomputable def T4(cells:List (Str × Addr)):List (Str × NameKind)->List (Str × Addr)->List (Str × Addr)
 | [],acc=>acc
 | (n,k)::r,acc=>T4 cells r (if (k==NameKind.free)=true then(n,(cells.lookup n).getD 0)::acc else acc)
theorem S3{sc:Scope}{env:Env}(h:∀n,(n,NameKind.free)∈sc.names->∃c,env.cells.lookup n=some c):closureFor sc env=pure (T4 env.cells sc.names []):=by
 have all:∀(l:List (Str × NameKind)) (acc:List (Str × Addr)),(∀n,(n,NameKind.free)∈l->∃c,env.cells.lookup n=some c) →
  (forIn l acc fun(x:Str × NameKind) (cs:List (Str × Addr))=>match x with
    | (name,kind)=>if (kind==NameKind.free)=true then(do let c ←cellOf env name;pure (ForInStep.yield ((name,c)::cs))) else pure (ForInStep.yield cs))=(pure (T4 env.cells l acc):Sem _):=by
  intro l
  induction l with
  | nil=>intro acc _;rfl
  | cons x r ih =>
    intro acc hl;obtain⟨n,k⟩:=x;rw[qm6];by_cases hk:(k==NameKind.free)=true
    . have hk':k=NameKind.free:=by simpa using hk
      subst hk';obtain⟨c,hc⟩:=hl n qd9;have e1:cellOf env n=pure c:=by unfold cellOf;rw[hc]
      simp only[beq_self_eq_true,if_true,e1,pure_bind];rw[ih _ fun m hm=>hl m (qc1 _ hm)];show _=(pure (T4 env.cells r (if (NameKind.free==NameKind.free)=true then(n,(env.cells.lookup n).getD 0)::acc else acc)):Sem _)
      rw[if_pos (by simp),hc];rfl
    . have hk2:(k==NameKind.free)=false:=by simpa using hk
      simp only[hk2,qi5,if_false,pure_bind];rw[ih _ fun m hm=>hl m (qc1 _ hm)];show _=(pure (T4 env.cells r (if (k==NameKind.free)=true then(n,(env.cells.lookup n).getD 0)::acc else acc)):Sem _)
      rw[if_neg hk]
 have:=all sc.names [] h;unfold closureFor;dsimp only;rw[this,pure_bind]
theorem E4{cells:List (Str × Addr)}{x:Str}{c:Addr}:∀{l:List (Str × NameKind)}{acc:List (Str × Addr)},(∀n,(n,NameKind.free)∈l->∃c,cells.lookup n=some c) →
 (acc.lookup x=some c->cells.lookup x=some c)->(T4 cells l acc).lookup x=some c->cells.lookup x=some c
 | [],_,_,ha,h=>ha h
 | (n,k)::r,acc,hl,ha,h=>by
   refine E4 (l:=r) (fun m hm=>hl m (qc1 _ hm)) ?_ h;by_cases hk:(k==NameKind.free)=true
   . rw[if_pos hk];have hk':k=NameKind.free:=by simpa using hk
     subst hk';obtain⟨d,hd⟩:=hl n qd9;intro e;rw[qn9]at e;cases hx:x==n with
     | true =>
       rw[hx]at e;have hxn:x=n:=by simpa using hx
       subst hxn;rw[hd]at e ⊢;exact e
     | false=>rw[hx]at e;exact ha e
   . rw[if_neg hk];exact ha
theorem S4{cells:List (Str × Addr)}{x:Str}:∀{l:List (Str × NameKind)}{acc:List (Str × Addr)},((x,NameKind.free)∈l\/∃c,acc.lookup x=some c)->∃c,(T4 cells l acc).lookup x=some c
 | [],_,h=>by
   rcases h with h | h
   . exact nomatch h
   . exact h
 | (n,k)::r,acc,h=>by
   refine S4 (l:=r) ?_;by_cases hk:(k==NameKind.free)=true
   . rw[if_pos hk];by_cases hx:(x==n)=true
     . exact .inr ⟨(cells.lookup n).getD 0,by rw[qn9,hx]⟩
     . have qY:(x==n)=false:=by simpa using hx
       rcases h with h|⟨c,h⟩
       . rcases qb7.mp h with e | e
         . have e1:x=n:=congrArg Prod.fst e;exact absurd (by simp[e1]) hx
         . exact .inl e
       . exact .inr ⟨c,by rw[qn9,qY];exact h⟩
   . rw[if_neg hk];rcases h with h | h
     . rcases qb7.mp h with e | e
       . have e2:NameKind.free=k:=congrArg Prod.snd e;exact absurd (by simp[←e2]) hk
       . exact .inl e
     . exact .inr h
noncomputable def Ef(X:Cx)(sc:Scope)(N':List Str)(C:Addr)(s₀:Shared)(H₀:Hp)(fp:List Addr):Cx where
 prog:=X.prog
 w:=X.w
 K:=X.K
 mg:=X.mg
 base:=X.base
 A:=X.A
 N:=N'
 s₀:=s₀
 H₀:=H₀
 env:=compEnvC sc (T4 X.env.cells sc.names []) C X.env
 outer:=X.stack
 stack:=X.stack
 ex:=fp
 fn:=fun _=>false
 calm:=X.calm
 pn:=[]
 xe:=fun _ _=>False
noncomputable def t8(cap:List (Option Nat))(σ:St):St:=cap.map fun o=>o.bind fun j=>(σ[j]?).join
structure Qj(X:Cx)(sc:Scope)(N':List Str)(cap:List (Option Nat)):Prop where
 kind:sc.kind=.function
 len:cap.length=N'.length
 nocell:∀x∈sc.names,x.2≠NameKind.cell
 locals:∀x∈sc.names,x.2=NameKind.local->sc.names.lookup x.1=some NameKind.local
 free:∀n,(n,NameKind.free)∈sc.names->X.env.kindOf n=some .cell\/X.env.kindOf n=some .free
 slots:∀(i j:Nat) (x:Str),N'[i]?=some x->cap[i]?=some (some j)->X.N[j]?=some x/\((relabel sc X.env).names.lookup x=some .cell\/(relabel sc X.env).names.lookup x=some .free)/\pU X.env.scope x
section
variable{X:Cx}{sc:Scope}{N':List Str}{cap:List (Option Nat)}{Ae:Ba}{σ:St}{H:Hp}{s:Shared}{C:Addr}{fp:List Addr}
theorem Qj.cells(c:Qj X sc N' cap)(ok:X.Ok):∀n,(n,NameKind.free)∈sc.names->∃c,X.env.cells.lookup n=some c:=fun n hn=>ok.has n (c.free n hn)
theorem Ig{env:Env}{x:Str}{k:NameKind}(hnc:∀x∈sc.names,x.2≠NameKind.cell)(h:(relabel sc env).names.lookup x=some k)(hk:k=.cell\/k=.free):(x,NameKind.free)∈sc.names:=by
 have all:∀(l:List (Str × NameKind)),(∀x∈l,x.2≠NameKind.cell)->(l.map fun(n,k)=>if (k==NameKind.free&&env.scope.kind==.function&&env.kindOf n==some .cell) then(n,NameKind.cell) else(n,k)).lookup x=some k->(x,NameKind.free)∈l:=by
  intro l
  induction l with
  | nil=>intro _ h;exact nomatch h
  | cons p r ih =>
    intro hn h;obtain⟨n,q⟩:=p;rw[qf0,qn9]at h;by_cases hc:(q==NameKind.free&&env.scope.kind==.function&&env.kindOf n==some .cell)=true
    . have hq:q=NameKind.free:=by
       have:=hc;simp only[qc9]at this;simpa using this.1.1
      simp only[hc,if_true]at h;cases hx:x==n with
      | true =>
        have e:x=n:=by simpa using hx
        rw[e,hq];exact qd9
      | false =>
        rw[hx]at h;exact qc1 _ (ih (fun y hy=>hn y (qc1 _ hy)) h)
    . simp only[hc]at h;cases hx:x==n with
      | true =>
        have e:x=n:=by simpa using hx
        simp only[qi5,if_false,hx]at h;have e2:q=k:=by simpa using h
        rcases hk with z | z
        . exact absurd (e2.trans z) (hn (n,q) qd9)
        . rw[e,←z,←e2];exact qd9
      | false =>
        simp only[qi5,if_false,hx]at h;exact qc1 _ (ih (fun y hy=>hn y (qc1 _ hy)) h)
 exact all sc.names hnc h
theorem HX(c:Qj X sc N' cap)(I:Bd X Ae σ H s)(hC:s.heap.objs.size<=C)(hf:∀b∈fp,L8 X Ae H b)(hb:∀b∈fp,b<s.heap.objs.size):(Ef X sc N' C s H fp).Ok where
 mod:=I.ok.mod
 kind:=c.kind
 glob:=I.ok.glob
 blt:=I.ok.blt
 above:=hC
 inj:=fun x y a hx hy=>I.ok.inj x y a (E4 (c.cells I.ok) (fun z=>by simp at z) hx) (E4 (c.cells I.ok) (fun z=>by simp at z) hy)
 has:=fun x hx=>by
  refine S4 (.inl ?_);rcases hx with hx | hx
  . exact Ig c.nocell hx (.inl rfl)
  . exact Ig c.nocell hx (.inr rfl)
 cab:=fun _ _ h=>nomatch h
 hd:=I.ok.hd
 frames:=I.ok.frames
 stk:=.inl rfl
 exf:=fun b hb'=>⟨qc7 (qd0 (hb b hb') hC),fun x a e=>(hf b hb').2.2.2.2.1 x a (E4 (c.cells I.ok) (fun z=>by simp at z) e)⟩
 bs:=I.bs
 bsz:=qe1 I.ok.bsz I.sz
 noex:=fun b o e hb'=>by
  rcases (hf b hb').2.2.2.1 with z | z
  . exact I.ok.noex b o e z
  . exact absurd (qd0 (qb0 e) (qe1 I.ok.bsz z)) (ql8 _)
 exfs:=fun b hb' z=>by
  obtain⟨_,f1,f2,_⟩:=hf b hb';rcases qb7.mp (I.stkSub b z) with e | e
  . exact f1 e
  . exact f2 e
 funs:=I.stack
 frf:=I.stkFree
theorem fE(c:Qj X sc N' cap)(I:Bd X Ae σ H s){D:Addr}{h1:Heap}{t:Nat}(hC:C=s.heap.objs.size+1)(hD:D=s.heap.objs.size)(hf:∀b∈fp,L8 X Ae H b)(hb:∀b∈fp,b<s.heap.objs.size)
 (hn:h1.Ns C fun _=>none) (hl:h1.get? D=some { cls:=.type "list",data:=.seq #[] 0 }) (k:∀b o,s.heap.get? b=some o->h1.get? b=some o) :
 Bd (Ef X sc N' C s H fp) [] (t8 cap σ) (upd H D (.lst [])) { s with heap:=h1,toks:=t }:=by
 have UM:s.heap.objs.size<=C:=by rw[hC];exact qp4 _
 have xD:C≠D:=by rw[hC,hD];exact Nat.succ_ne_self _
 have ok:=HX (C:=C) (fp:=fp) c I UM hf hb;have xA:H D=none:=by rw[hD];exact I.fresh
 have pD:∀x a,(T4 X.env.cells sc.names []).lookup x=some a->X.env.cells.lookup x=some a:=fun x a e=>E4 (c.cells I.ok) (fun z=>by simp at z) e;have uR:∀a v,s.heap.IsCell a v->h1.IsCell a v:=fun a v ⟨o,ho,hd⟩=>⟨o,k a o ho,hd⟩
 have vW:∀a v,s.heap.IsCell a v->a≠D:=fun a v ⟨o,ho,hd⟩=>by rw[hD];exact qc7 (qb0 ho)
 refine⟨ok,rfl,I.bare,Un.laid k (by rw[hD];exact qa9 _) xA,⟨_,hn,fun i x v e1 e2 e3=>?_⟩,fun x a e=>?_,?_,fun x a e=>?_,fun p hp=>absurd hp (by simp[Ef]),?_,?_⟩
 . have OP:cap[i]?.map (fun o=>o.bind fun j=>(σ[j]?).join)=some (some v):=by
    have:=e2;unfold t8 at this;rw[qa3]at this;exact this
   cases hc:cap[i]? with
   | none=>rw[hc]at OP;cases OP
   | some o =>
     rw[hc]at OP;cases o with
     | none=>cases OP
     | some j =>
       have e4:(σ[j]?).join=some v:=by simpa using OP
       obtain⟨q1,TR,q3⟩:=c.slots i j x e1 hc;have q2:(x,NameKind.free)∈sc.names:=TR.elim (fun z=>Ig c.nocell z (.inl rfl)) fun z=>Ig c.nocell z (.inr rfl);obtain⟨m,hm,hl'⟩:=I.loc
       have e5:σ[j]?=some (some v):=by
        cases z:σ[j]? with
        | none=>rw[z]at e4;cases e4
        | some y=>rw[z]at e4;cases y with
          | none=>cases e4
          | some y'=>cases e4;rfl
       obtain⟨u,r,l⟩:=hl' j x v q1 e5 q3;refine⟨u,r,?_⟩;obtain⟨a,ha⟩:=S4 (cells:=X.env.cells) (l:=sc.names) (acc:=[]) (x:=x) (.inl q2);have kd:X.env.kindOf x=some .cell\/X.env.kindOf x=some .free:=c.free x q2;rcases l with⟨hk,_⟩|⟨hk,a',ha',hcell⟩
       . rcases kd with z | z<;>rw[z]at hk<;>cases hk
       . have e6:a'=a:=by
          have:=pD x a ha;rw[ha']at this;exact qb6 this
         refine .inr ⟨TR,a,ha,?_⟩;rw[←e6];exact uR _ _ hcell
 . obtain⟨v,z⟩:=I.cell x a (pD x a e);exact⟨v,uR a v z⟩
 . show upd H D (.lst []) C=none;rw[A8 xD];exact I.hok.fresh UM
 . show upd H D (.lst []) a=none;obtain⟨v,z⟩:=I.cell x a (pD x a e);rw[A8 (vW a v z)];exact I.freeC x a (pD x a e)
 . exact I.hok.laid k (by rw[hD];exact qa9 _) ⟨qb3 _,[],0,.nil,hl⟩
 . show(t8 cap σ).length=N'.length;unfold t8;rw[qa1,c.len]
end
noncomputable def iA(GJ:Scope)(N:List Str)(sc:Scope)(N':List Str)(cap:List (Option Nat)):Bool :=
 decide (sc.kind=.function)&&decide (cap.length=N'.length)&&sc.names.all (fun x=>decide (x.2≠NameKind.cell))&&sc.names.all (fun x=>decide (x.2=NameKind.local->sc.names.lookup x.1=some NameKind.local)) &&
 sc.names.all (fun x=>decide (x.2=NameKind.free->(GJ.names.lookup x.1=some .cell\/GJ.names.lookup x.1=some .free))) &&
 (N'.zip cap).all (fun p=>match p.2 with
   | none=>true
   | some j=>decide (N[j]?=some p.1)&&decide (((sc.names.map fun(n,k)=>if (k==.free&&GJ.kind==.function&&GJ.names.lookup n==some .cell) then(n,NameKind.cell) else(n,k)).lookup p.1=some .cell) ∨
      ((sc.names.map fun(n,k)=>if (k==.free&&GJ.kind==.function&&GJ.names.lookup n==some .cell) then(n,NameKind.cell) else(n,k)).lookup p.1=some .free)) &&
     decide (GJ.names.lookup p.1=some .local\/GJ.names.lookup p.1=some .cell\/GJ.names.lookup p.1=some .free))
theorem AL{X:Cx}{sc:Scope}{N':List Str}{cap:List (Option Nat)}(h:iA X.env.scope X.N sc N' cap=true):Qj X sc N' cap:=by
 unfold iA at h;rw[qc9,qc9,qc9,qc9,qc9,qd2,qd2,qd2,qd2]at h;obtain⟨⟨⟨⟨⟨h1,h2⟩,h3⟩,h4⟩,h5⟩,h6⟩:=h;refine⟨qe4 h1,qe4 h2,fun x hx=>qe4 (h3 x hx),fun x hx=>qe4 (h4 x hx),fun n hn=>qe4 (h5 _ hn) rfl,fun i j x e1 e2=>?_⟩
 have hm:(x,some j)∈N'.zip cap:=by
  have e:(N'.zip cap)[i]?=some (x,some j):=by
   rw[qf7];exact⟨e1,e2⟩
  exact qa8 e
 have h7:=h6 _ hm;dsimp only at h7;rw[qc9,qc9]at h7;obtain⟨⟨h8,h9⟩,h10⟩:=h7;exact⟨qe4 h8,qe4 (p:=(relabel sc X.env).names.lookup x=some .cell\/(relabel sc X.env).names.lookup x=some .free) h9,qe4 (p:=X.env.scope.names.lookup x=some .local\/X.env.scope.names.lookup x=some .cell\/X.env.scope.names.lookup x=some .free) h10⟩
noncomputable def MC(X:Cx)(ifs:List Expr)(t:TT):Prop :=
 ∀(Ae:Ba) (s:Shared) (σ:St) (H:Hp) (Q:Bool->Hp->Prop),Bd X Ae σ H s->t σ H Q →
   wpAny (model X.prog X.w) X.A (forIn ifs true fun c r=>if r=true then do let ok ←isTrue c X.env (eval c X.env);pure (ForInStep.yield ok) else pure (ForInStep.yield r)) (TP X Ae σ Q) X.xe s
noncomputable def aW:TT:=fun _ H Q=>Q true H
theorem Bk{X:Cx}:MC X [] aW:=fun _ _ _ H _ I h=>wpAny_tests_nil ⟨H,I,h⟩
theorem Ih{X:Cx}{c:Expr}{t:TT}(h:PT X c t):MC X [c] t:=fun Ae s σ H Q I hw=>wpAny_tests_one (h Ae s σ H Q I hw)
noncomputable def Qu(J:It)(g:TG)(tc:TT)(te:TE)(D:Addr)(Q:Hp->Prop)(τ:St)(H:Hp):Prop :=
 ∃W:Nat->Nat->List V->St->Hp->Prop,(∃m,W 0 m [] τ H)/\∀i m ys τ H,W i m ys τ H →
   (J.stop i H/\Q H) ∨
   (J.go i H/\∃N:List V->St->Hp->Prop,(∀ys' τ' H',N ys' τ' H'->∃m',m'<m/\W (i+1) m' ys' τ' H') ∧
     ∀x H',J.yld i H x H'->g x τ H' fun τ2 H2=>tc τ2 H2 fun b H3=>if b=true then te τ2 H3 fun y H4=>H4 D=some (.lst ys)/\ys.length<sizeLine/\N (ys++[y]) τ2 (upd H4 D (.lst (ys++[y]))) else N ys τ2 H3)
section
variable{X:Cx}{sc:Scope}{N':List Str}{cap:List (Option Nat)}{tg elt iter:Expr}{ifs:List Expr}{pos:Pos}{g:TG}{tc:TT}{te:TE}
theorem cB{Y:Cx}{J:It}{fp:List Addr}{it D:Addr}{tn:Nat->Heap->Prop}{R:Result->Shared->Prop}{Q:Hp->Prop}{τ:St}{H:Hp}{s:Shared}
 (hx:Y.xe=fun _ _=>False) (hc:Y.calm=true) (hg:PG Y tg g) (ht:MC Y ifs tc) (he:PE Y elt te) (T:Xt Y.prog Y.w Y.K tg J fp it tn) (st:tn 0 s.heap) (hf:∀b∈fp,L8 Y [] H b) (I:Bd Y [] τ H s)
 (h:Qu J g tc te D Q τ H) (hR:∀τ' H' s',Bd Y [] τ' H' s'->Q H'->R (.ok .next) s') :
 codeAny (model Y.prog Y.w) Y.A (.compLoop (.ListComp elt [⟨tg,iter,ifs,0⟩] sc pos) 0 (.ref it) (.ref D) Y.env) R s:=by
 obtain⟨W,⟨m0,w0⟩,turn⟩:=h;have Z5:∀{H':Hp},(∀b∈fp,H' b=none)->∀b∈fp,L8 Y [] H' b:=fun hn b hb=>⟨hn b hb,(hf b hb).2⟩
 have no:∀{P:Prop}{e:Value}{s':Shared},Y.xe e s'->P:=fun z=>by rw[hx]at z;exact z.elim
 refine codeAny_loop rfl (fun n s'=>∃i ys τ' H',Bd Y [] τ' H' s'/\tn i s'.heap/\(∀b∈fp,H' b=none)/\W i n ys τ' H') ?_ m0 ⟨0,[],τ,H,I,st,fun b hb=>(hf b hb).1,w0⟩;rintro n s3 ⟨i,ys,τ3,H3,I3,st3,oJ,w3⟩;show wpAny _ Y.A ((compTurn (.ListComp elt [⟨tg,iter,ifs,0⟩] sc pos) 0 (.ref it) (.ref D) Y.env).onRaise (fun x=>do noteFrame x Y.env;theTreesLotGoes x)) _ _ s3;refine wpAny_noted ?_;rw[compTurn_list];refine qa5 (wpAny_standAt (qa5 ?_));rcases turn i n ys τ3 H3 w3 with⟨stop,qn⟩|⟨go,N,hN,step⟩
 . refine qi7 (T.done Y rfl rfl rfl hc i [] s3 τ3 H3 (fun _ _=>False) I3 (Z5 oJ) st3 stop) (fun r s4 _z=>?_) fun _ _ z=>z.elim;obtain⟨hr,I4⟩:=_z;subst hr;exact qb2 (hR _ _ _ I4 qn)
 . refine qi7 (T.item Y rfl rfl rfl hc i [] s3 τ3 H3 (fun _ _=>False) I3 (Z5 oJ) st3 go) (fun r s4 _z=>?_) fun _ _ z=>z.elim;obtain⟨u,hr,h4⟩:=_z;subst hr;refine qa5 (qi7 h4 (fun _ s5 _z=>?_) fun _ _ z=>z.elim);obtain⟨x,H5,I5,r5,y5,JI,SN⟩:=_z;have SX:=I5.pinned (Z5 SN) (T.obj _ _ JI)
   have again:∀{τ7:St}{H7:Hp}{oX:List V}{s7:Shared},Bd Y ([]++Rw fp s5.heap) τ7 H7 s7->N oX τ7 H7->∃m,m<n/\∃i ys τ' H',Bd Y [] τ' H' s7/\tn i s7.heap/\(∀b∈fp,H' b=none)/\W i m ys τ' H':=fun {τ7 H7 oX s7} I7 n7=>by
    obtain⟨m',hm,w7⟩:=hN oX τ7 H7 n7;refine⟨m',hm,i+1,oX,τ7,H7,I7.unpinned,T.keep _ _ _ JI fun b hb o e=>(I7.pin (b,o) (qf1 _ (qf1 _ (J2 hb e)))).1,fun b hb=>?_,w7⟩;obtain⟨o,e,d⟩:=T.obj _ _ JI b hb;exact(I7.pin (b,o) (qf1 _ (qf1 _ (J2 hb e)))).2.1
   refine qa5 (qi7 (hg _ s5 τ3 H5 x u _ SX r5 (step x H5 y5)) (fun _ s6 _z=>?_) fun _ _ z=>no z);obtain⟨τ6,H6,I6,q6⟩:=_z;refine qa5 (qi7 (ht _ s6 τ6 H6 _ I6 q6) (fun ok s7 _z=>?_) fun _ _ z=>no z);obtain⟨H7,I7,q7⟩:=_z;cases ok with
   | false =>
     have q8:N ys τ6 H7:=by simpa using q7
     exact qb2 ⟨rfl,again I7 q8⟩
   | true =>
     have q8:te τ6 H7 fun y H4=>H4 D=some (.lst ys)/\ys.length<sizeLine/\N (ys++[y]) τ6 (upd H4 D (.lst (ys++[y]))):=by simpa using q7
     refine qa5 (qa5 (qi7 (he _ s7 τ6 H7 _ I7 q8) (fun y s8 _z=>?_) fun _ _ z=>no z));obtain⟨v8,H8,I8,r8,hD,hl,n8⟩:=_z;refine qa5 (qi7 (Ch _ s8 τ6 H8 (.ref D) [v8] (.ref D) [y] (fun _ H9=>N (ys++[v8]) τ6 H9) I8 rfl (.cons r8 .nil) ⟨D,ys,v8,rfl,rfl,hD,hl,n8⟩) (fun _ s9 _z=>?_) fun _ _ z=>no z);obtain⟨_,H9,I9,_,n9⟩:=_z;exact qb2 (qb2 ⟨rfl,again I9 n9⟩)
theorem S2{Ae:Ba}{σ:St}{H:Hp}{s:Shared}{J:It}{fp:List Addr}{it:Addr}{tn:Nat->Heap->Prop}{RR:Value->Addr->Result->Shared->Prop}{Q:Addr->Hp->Prop}{E:Value->Shared->Prop}
 (c:Qj X sc N' cap) (hc:X.calm=true) (hg:∀C s₀ H₀ fp,PG (Ef X sc N' C s₀ H₀ fp) tg g) (ht:∀C s₀ H₀ fp,MC (Ef X sc N' C s₀ H₀ fp) ifs tc) (he:∀C s₀ H₀ fp,PE (Ef X sc N' C s₀ H₀ fp) elt te)
 (I:Bd X Ae σ H s) (T:Xt X.prog X.w X.K tg J fp it tn) (st:tn 0 s.heap) (hf:∀b∈fp,L8 X Ae H b)
 (h:∀D,H D=none->Qu J g tc te D (Q D) (t8 cap σ) (upd H D (.lst [])))
 (hR:∀D C s' H' m',H D=none->s.heap.objs.size<=C->s'.os=s.os->AllBare s'.gens->Un (cJ X.stack) fp H H' s.heap s'.heap->Mo X.prog X.w H' s'.heap->s'.heap.Ns C m'->H' C=none->C ∉ fp->Q D H'->RR (.ref D) C (.ok .next) s') :
 wpAny (model X.prog X.w) X.A (newList []) (fun acc s₃=>wpAny (model X.prog X.w) X.A (newFunctionEnv sc X.env.globals (T4 X.env.cells sc.names []) [] X.env.qual none .none (some X.env)) (fun cenv s₄ =>
  codeAny (model X.prog X.w) X.A (.compStart (.ListComp elt [⟨tg,iter,ifs,0⟩] sc pos) 0 (.ref it) acc { cenv with scope:=relabel sc X.env }) (RR acc cenv.locals) s₄) E s₃) E s:=by
 have hb:∀b∈fp,b<s.heap.objs.size:=fun b hb=>by
  obtain⟨o,e,_⟩:=T.obj _ _ st b hb;exact qb0 e
 refine qj6 (wpAny_newFunctionEnv c.nocell (by intro y hy;simp at hy) (fun h₁ KU HD=>?_) c.kind);dsimp only at KU HD ⊢;generalize PL:s.heap.push { cls:=.type "list",dict:=none,data:=.seq ([]:List Value).toArray }=H2 at KU HD ⊢;have hC:H2.objs.size=s.heap.objs.size+1:=by rw[←PL,qh8]
 have PM:s.heap.objs.size<=H2.objs.size:=by rw[hC];exact qp4 _
 have LX:s.heap.objs.size≠H2.objs.size:=by rw[hC];exact(Nat.succ_ne_self _).symm
 have old:∀b o,s.heap.get? b=some o->h₁.get? b=some o:=fun b o e=>by
  have l1:=qb0 e;exact HD.extBut b o (qc7 (qd0 l1 PM)) (qa7 _ (PL▸qa7 _ e))
 have hl:h₁.get? s.heap.objs.size=some { cls:=.type "list",data:=.seq #[] 0 }:=HD.extBut _ _ LX (qa7 _ (PL▸qc0 _ rfl));have RG:h₁.Ns H2.objs.size fun _=>none:=by simpa using KU
 have I4:Bd (Ef X sc N' H2.objs.size s H fp) [] (t8 cap σ) (upd H s.heap.objs.size (.lst [])) { s with heap:=h₁,toks:=s.toks+([]:List (Str × Value)).length }:=fE c I hC rfl hf hb RG hl old;have hfr:H s.heap.objs.size=none:=I.fresh
 have f4:∀b∈fp,L8 (Ef X sc N' H2.objs.size s H fp) [] (upd H s.heap.objs.size (.lst [])) b:=fun b hb'=>by
  obtain⟨f0,f1,f2,f3,f4,f5⟩:=hf b hb';have lb:=hb b hb';refine⟨by rw[A8 (qc7 lb)];exact f0,(qc7 (qd0 lb PM):b≠H2.objs.size),fun z=>?_,.inl hb',fun x a e=>f4 x a (E4 (c.cells I.ok) (fun z=>by simp at z) e),fun p hp=>absurd hp (by simp[Ef])⟩;rcases qb7.mp (I.stkSub b z) with e | e
  . exact f1 e
  . exact f2 e
 have tL:tn 0 h₁:=T.keep _ _ _ st fun b _ o e=>old b o e
 have loop:∀s₅:Shared,s₅={ s with heap:=h₁,toks:=s.toks+([]:List (Str × Value)).length } →
  codeAny (model X.prog X.w) X.A (.compLoop (.ListComp elt [⟨tg,iter,ifs,0⟩] sc pos) 0 (.ref it) (.ref s.heap.objs.size) (Ef X sc N' H2.objs.size s H fp).env) (RR (.ref s.heap.objs.size) H2.objs.size) s₅:=by
  rintro s₅ rfl;refine cB (Y:=Ef X sc N' H2.objs.size s H fp) (J:=J) (fp:=fp) (tn:=tn) (Q:=Q s.heap.objs.size) rfl hc (hg _ _ _ _) (ht _ _ _ _) (he _ _ _ _) T tL f4 I4 (h _ hfr) fun τ' H' s' I' q'=>?_;obtain⟨m',hn',_⟩:=I'.loc;exact hR _ _ s' H' m' hfr PM I'.os I'.bare I'.base I'.hok hn' I'.free (fun z=>absurd (qd0 (hb _ z) PM) (ql8 _)) q'
 exact codeAny_compStart_list (loop _ rfl) (T.self _ 0 _ _ _ tL (loop _ rfl))
noncomputable def iJ(wi:TI)(cap:List (Option Nat))(g:TG)(tc:TT)(te:TE):TE:=fun σ H Q=>wi σ H fun J H1=>∀D,H1 D=none->Qu J g tc te D (fun H'=>Q (.ref D) H') (t8 cap σ) (upd H1 D (.lst []))
theorem Bd.fpCh{Ae:Ba}{H:Hp}{fp:List Addr}(hf:∀b∈fp,L8 X Ae H b):∀b∈fp,(b∈X.ex\/X.s₀.heap.objs.size<=b)/\b≠X.env.locals/\(∀x c,X.env.cells.lookup x=some c->c≠b)/\∀p∈X.pn++Ae,p.1≠b :=
 fun b hb=>let ⟨_,f1,_,f3,f4,f5⟩:=hf b hb;⟨f3,f1,f4,f5⟩
theorem Bm{wi:TI}(hc:X.calm=true)(hcap:iA X.env.scope X.N sc N' cap=true)(hi:PI X tg iter wi)(hg:∀C s₀ H₀ fp,PG (Ef X sc N' C s₀ H₀ fp) tg g)(ht:∀C s₀ H₀ fp,MC (Ef X sc N' C s₀ H₀ fp) ifs tc)
 (he:∀C s₀ H₀ fp,PE (Ef X sc N' C s₀ H₀ fp) elt te) (hs:∀x,foldedSetIterable iter X.env x=pure x:=by intro _;rfl):PE X (.ListComp elt [⟨tg,iter,ifs,0⟩] sc pos) (iJ wi cap g tc te):=by
 intro Ae s σ H Q I h;have c:Qj X sc N' cap:=AL hcap;rw[eval_ListComp];refine wpAny_comprehension_free (use:=none) rfl hs (S3 (c.cells I.ok)) c.kind c.locals (C8 (hi Ae s σ H _ I h) fun v s1 h1=>C8 h1 fun itv s2 h2=>?_);obtain⟨it,fp,tn,J,H2,e,I2,T,st2,f2,hW⟩:=h2;subst e;refine S2 (RR:=fun acc C=>compPost (model X.prog X.w) X.A X.xe none (EP X Ae σ Q) acc C) (Q:=fun D H'=>Q (.ref D) H') c hc hg ht he I2 T st2 f2 hW ?_;intro D C s' H' m' hD hC hos hbare hun hok hn OD hCf q;refine⟨m',hn,fun h' Xv=>?_⟩;have I3:Bd X Ae σ H' s':=I2.call' hos hun hok hbare (Bd.fpCh f2);have f3:L8 X Ae H' C:=I2.fpOk hC OD;obtain⟨_,k1,_,k3,k4,k5⟩:=f3;have I4:Bd X Ae σ H' { s' with heap:=h' }:=I3.turned (t':=s'.toks) (fun b o hb e=>(Xv.2 b hb).trans e) OD k1 k3 k4 k5;exact⟨.ref D,H',I4,rfl,q⟩
theorem Ff{wi:TI}{i:Nat}{x:Str}{px spos:Pos}(hN:X.N.Nodup)(hi':X.N[i]?=some x)(hx:LQ X.env.scope x)(hc:X.calm=true)(hcap:iA X.env.scope X.N sc N' cap=true)(hi:PI X tg iter wi)
 (hg:∀C s₀ H₀ fp,PG (Ef X sc N' C s₀ H₀ fp) tg g) (ht:∀C s₀ H₀ fp,MC (Ef X sc N' C s₀ H₀ fp) ifs tc) (he:∀C s₀ H₀ fp,PE (Ef X sc N' C s₀ H₀ fp) elt te)
 (hsw:swapsWith (.ListComp elt [⟨tg,iter,ifs,0⟩] sc pos) (some (.Name x px)) spos.line X.env=pure true:=by rfl)
 (hs:∀x,foldedSetIterable iter X.env x=pure x:=by intro _;rfl) (hf:X.fn x=true\/X.env.scope.names.lookup x=some .local:=by first | exact .inl rfl | exact .inr rfl | assumption) :
 PS X (.Assign [.Name x px] (.ListComp elt [⟨tg,iter,ifs,0⟩] sc pos) spos) (fR (iJ wi cap g tc te) (Vd i)):=by
 intro Ae s σ H D I h;have c:Qj X sc N' cap:=AL hcap;rw[exec_Assign_Name_used _ _ _ _ hsw];refine qa5 (wpAny_standAt (qa5 ?_));show wpAny _ X.A (do let _ ←comprehension (.ListComp elt [⟨tg,iter,ifs,0⟩] sc pos) sc X.env _ (newList []) false (eval iter X.env) (some (assign (.Name x px) X.env))) _ _ s
 refine qa5 (C8 (wpAny_comprehension_free (use:=some (assign (.Name x px) X.env)) (Q:=fun _ s'=>SP X Ae D .next s') rfl hs (S3 (c.cells I.ok)) c.kind c.locals
  (C8 (hi Ae s σ H _ I h) fun v s1 h1=>C8 h1 fun itv s2 h2=>?_)) fun _ s' hq=>qb2 (qb2 hq))
 obtain⟨it,fp,tn,J,H2,e,I2,T,st2,f2,hW⟩:=h2;subst e;refine S2 (RR:=fun acc C=>compPost (model X.prog X.w) X.A X.xe (some (assign (.Name x px) X.env)) (fun _ s'=>SP X Ae D .next s') acc C) (Q:=fun A H'=>Vd i (.ref A) σ H' D.nx) c hc hg ht he I2 T st2 f2 hW ?_;intro A C s' H' m' hD hC hos hbare hun hok hn OD hCf q;have I3:Bd X Ae σ H' s':=I2.call' hos hun hok hbare (Bd.fpCh f2);have f3:L8 X Ae H' C:=I2.fpOk hC OD;obtain⟨_,k1,_,k3,k4,k5⟩:=f3;show wpAny _ X.A (assign (.Name x px) X.env (.ref A)) _ _ s';refine wpAny_assign_Name (Uf I3 hN hi' hx (v:=.ref A) rfl (fun s'' XT _z=>?_) hf);obtain⟨a,Xv,ha⟩:=_z
 have XC:C≠a:=by
  rcases ha with z | z
  . rw[z];exact k1
  . exact fun z'=>k4 x a z z'.symm
 refine⟨m',hn.sameBut Xv XC,fun h' rC=>?_⟩;have I4:Bd X Ae (σ.set i (some (.ref A))) H' { s'' with heap:=h' }:=XT.turned (t':=s''.toks) (fun b o hb e=>(rC.2 b hb).trans e) OD k1 k3 k4 k5;exact⟨_,H',I4,q⟩
end
section
variable{g:TG}{tc:TT}{te:TE}{D:Addr}{Q:Hp->Prop}{τ:St}{H:Hp}
theorem Ps{K:W.Frag}{a:Addr}{xs:List V}(Pv:Nat->List V->St->Hp->Prop)(h0:Pv 0 [] τ H)(hl:∀i ys τ H,i<=xs.length->Pv i ys τ H->SqL K H a xs)
 (hs:∀i x ys τ H,xs[i]?=some x->Pv i ys τ H->g x τ H fun τ2 H2=>tc τ2 H2 fun b H3=>if b=true then te τ2 H3 fun y H4=>H4 D=some (.lst ys)/\ys.length<sizeLine/\Pv (i+1) (ys++[y]) τ2 (upd H4 D (.lst (ys++[y]))) else Pv (i+1) ys τ2 H3)
 (hd:∀ys τ H,Pv xs.length ys τ H->Q H):Qu (LR K a) g tc te D Q τ H:=by
 refine⟨fun i m ys τ H=>m=xs.length-i/\i<=xs.length/\Pv i ys τ H,⟨xs.length,by simp,qb3 _,h0⟩,?_⟩;rintro i m ys τ H ⟨rfl,hi,p⟩;have q:=hl i ys τ H hi p;by_cases hlt:i<xs.length
 . refine .inr ⟨⟨xs,xs[i],q,by simp[hlt]⟩,Pv (i+1),fun ys' τ' H' p'=>⟨xs.length-(i+1),O9m,rfl,hlt,p'⟩,fun x H' y=>?_⟩;obtain⟨e,y⟩:=y;subst e;exact hs i x ys τ _ (y xs q) p
 . have e:i=xs.length:=O9m
   subst e;exact .inl ⟨⟨xs,q,qa9 _⟩,hd ys τ H p⟩
theorem fC{K:W.Frag}{a:Addr}{xs:List V}(Pv:Nat->List V->St->Hp->Prop)(h0:Pv 0 [] τ H)(hl:∀i ys τ H,i<=xs.length->Pv i ys τ H->Dv K H a xs)
 (hs:∀i x ys τ H,xs[i]?=some x->Pv i ys τ H->g x τ H fun τ2 H2=>tc τ2 H2 fun b H3=>if b=true then te τ2 H3 fun y H4=>H4 D=some (.lst ys)/\ys.length<sizeLine/\Pv (i+1) (ys++[y]) τ2 (upd H4 D (.lst (ys++[y]))) else Pv (i+1) ys τ2 H3)
 (hd:∀ys τ H,Pv xs.length ys τ H->Q H):Qu (lR K a) g tc te D Q τ H:=by
 refine⟨fun i m ys τ H=>m=xs.length-i/\i<=xs.length/\Pv i ys τ H,⟨xs.length,by simp,qb3 _,h0⟩,?_⟩;rintro i m ys τ H ⟨rfl,hi,p⟩;have q:=hl i ys τ H hi p;by_cases hlt:i<xs.length
 . refine .inr ⟨⟨xs,xs[i],q,by simp[hlt]⟩,Pv (i+1),fun ys' τ' H' p'=>⟨xs.length-(i+1),O9m,rfl,hlt,p'⟩,fun x H' y=>?_⟩;obtain⟨e,y⟩:=y;subst e;exact hs i x ys τ _ (y xs q) p
 . have e:i=xs.length:=O9m
   subst e;exact .inl ⟨⟨xs,q,qa9 _⟩,hd ys τ H p⟩
theorem C9{lo:Int}{n:Nat}(Pv:Nat->List V->St->Hp->Prop)(h0:Pv 0 [] τ H)
 (hs:∀i ys τ H,i<n->Pv i ys τ H->g (.int (lo+i)) τ H fun τ2 H2=>tc τ2 H2 fun b H3=>if b=true then te τ2 H3 fun y H4=>H4 D=some (.lst ys)/\ys.length<sizeLine/\Pv (i+1) (ys++[y]) τ2 (upd H4 D (.lst (ys++[y]))) else Pv (i+1) ys τ2 H3)
 (hd:∀ys τ H,Pv n ys τ H->Q H):Qu (jA lo n) g tc te D Q τ H:=by
 refine⟨fun i m ys τ H=>m=n-i/\i<=n/\Pv i ys τ H,⟨n,by simp,qb3 _,h0⟩,?_⟩;rintro i m ys τ H ⟨rfl,hi,p⟩;by_cases hlt:i<n
 . refine .inr ⟨hlt,Pv (i+1),fun ys' τ' H' p'=>⟨n-(i+1),O9m,rfl,hlt,p'⟩,fun x H' y=>?_⟩;obtain⟨e,y⟩:=y;subst e y;exact hs i ys τ _ hlt p
 . have e:i=n:=O9m
   subst e;exact .inl ⟨qa9 _,hd ys τ H p⟩
end
end L2
namespace L2
open PySem PySem.Spec PyProof.Rows PySem.SeqAt
inductive D where
 | non | bl (b:Bool) | int (i:Int) | str (x:Str) | tup (ds:List D) | lst (ds:List D)
mutual
def Rep(K:W.Frag)(H:Hp):V->D->Prop
 | v,.non=>v=.non
 | v,.bl b=>v=.bl b
 | v,.int i=>v=.int i
 | v,.str x=>v=.str x
 | v,.tup ds=>∃a vs,v=.ref a/\Dv K H a vs/\Reps K H vs ds
 | v,.lst ds=>∃a vs,v=.ref a/\SqL K H a vs/\Reps K H vs ds
def Reps(K:W.Frag)(H:Hp):List V->List D->Prop
 | vs,[]=>vs=[]
 | vs,d::ds=>∃v r,vs=v::r/\Rep K H v d/\Reps K H r ds
end
mutual
def KS:D->Bool
 | .lst _=>false
 | .tup ds=>imms ds
 | _=>true
def imms:List D->Bool
 | []=>true
 | d::ds=>KS d&&imms ds
end
mutual
def dep:D->Nat
 | .lst ds=>deps ds+1
 | .tup ds=>deps ds+1
 | _=>0
def deps:List D->Nat
 | []=>0
 | d::ds=>max (dep d) (deps ds)
end
mutual
def eqD:D->D->Bool
 | .non,.non=>true
 | .bl a,.bl b=>a==b
 | .bl a,.int b=>(if a then 1 else 0)==b
 | .int a,.bl b=>a==(if b then 1 else 0)
 | .int a,.int b=>a==b
 | .str a,.str b=>a==b
 | .tup a,.tup b=>eqDs a b
 | .lst a,.lst b=>eqDs a b
 | _,_=>false
def eqDs:List D->List D->Bool
 | [],[]=>true
 | a::r,b::q=>eqD a b&&eqDs r q
 | _,_=>false
end
mutual
theorem Sv(d:D):eqD d d=true:=by
 cases d with
 | non=>rfl
 | bl b=>simp[eqD]
 | int b=>simp[eqD]
 | str b=>simp[eqD]
 | tup ds=>simp only[eqD];exact eqDs_refl ds
 | lst ds=>simp only[eqD];exact eqDs_refl ds
theorem eqDs_refl(ds:List D):eqDs ds ds=true:=by
 cases ds with
 | nil=>rfl
 | cons d r=>simp only[eqDs,qc9];exact⟨Sv d,eqDs_refl r⟩
end
theorem eqDs_len:∀{a b:List D},eqDs a b=true->a.length=b.length
 | [],[],_=>rfl
 | [],_::_,h=>by simp[eqDs]at h
 | _::_,[],h=>by simp[eqDs]at h
 | x::a,y::b,h=>by
   simp only[eqDs,qc9]at h;rw[qe3,qe3,eqDs_len h.2]
theorem Su:∀(a b:List D),a.length=b.length->eqDs a b=(List.range a.length).all fun j=>match a[j]?,b[j]? with | some x,some y=>eqD x y | _,_=>true
 | [],[],_=>by simp[eqDs]
 | [],_::_,h=>by simp at h
 | _::_,[],h=>by simp at h
 | x::a,y::b,h=>by
   have h':a.length=b.length:=by simpa using h
   rw[qe3,List.range_succ_eq_map,List.all_cons,List.all_map];simp only[eqDs,Su a b h']
   congr 1
structure Om(H H':Hp):Prop where
 tup:∀b xs,H b=some (.tup xs)->H' b=some (.tup xs)
 frz:∀b o u,H b=some (.frz o u)->H' b=some (.frz o u)
section
variable{K:W.Frag}{H H' H1 H2:Hp}{a l p:Addr}{xs:List V}{o:HO}
theorem Same.t(x:Same H H'):Om H H':=⟨fun b xs h=>x b _ h,fun b o u h=>x b _ h⟩
theorem Om.lst(h:H l=some (.lst xs)):Om H (upd H l o):=⟨fun b ys e=>by rw[A8 (Yv e h (by intro z;cases z))];exact e,fun b ob u e=>by rw[A8 (Yv e h (by intro z;cases z))];exact e⟩
theorem Same.new(h:H l=none):Same H (upd H l o):=fun b u e=>by rw[A8 (Be e h)];exact e
theorem Same.turn(x:Same H H1)(h:H l=none):Same H (upd H1 l o):=fun b u e=>by rw[A8 (Be e h)];exact x b u e
theorem Dv.t(x:Om H H')(h:Dv K H a xs):Dv K H' a xs:=by
 rcases h with(h|⟨o,h⟩) | h
 . exact .inl (.inl (x.tup _ _ h))
 . exact .inl (.inr ⟨o,x.frz _ _ _ h⟩)
 . exact .inr h
theorem Same.seqT(x:Same H H')(h:Dv K H a xs):Dv K H' a xs:=h.t x.t
mutual
theorem Rep.t(x:Om H H'){v:V}{d:D}(hi:KS d=true)(h:Rep K H v d):Rep K H' v d:=by
 cases d with
 | non=>exact h
 | bl b=>exact h
 | int i=>exact h
 | str x=>exact h
 | tup ds =>
   obtain⟨a,vs,e,q,r⟩:=h;exact⟨a,vs,e,q.t x,Reps.t x (by simpa[KS]using hi) r⟩
 | lst ds=>simp[KS]at hi
theorem Reps.t(x:Om H H'){vs:List V}{ds:List D}(hi:imms ds=true)(h:Reps K H vs ds):Reps K H' vs ds:=by
 cases ds with
 | nil=>exact h
 | cons d r =>
   obtain⟨v,q,e,h1,h2⟩:=h;simp only[imms,qc9]at hi;exact⟨v,q,e,Rep.t x hi.1 h1,Reps.t x hi.2 h2⟩
end
mutual
theorem Rep.same(x:Same H H'){v:V}{d:D}(h:Rep K H v d):Rep K H' v d:=by
 cases d with
 | non=>exact h
 | bl b=>exact h
 | int i=>exact h
 | str x=>exact h
 | tup ds =>
   obtain⟨a,vs,e,q,r⟩:=h;exact⟨a,vs,e,x.seqT q,Reps.same x r⟩
 | lst ds =>
   obtain⟨a,vs,e,q,r⟩:=h;exact⟨a,vs,e,x.seq q,Reps.same x r⟩
theorem Reps.same(x:Same H H'){vs:List V}{ds:List D}(h:Reps K H vs ds):Reps K H' vs ds:=by
 cases ds with
 | nil=>exact h
 | cons d r =>
   obtain⟨v,q,e,h1,h2⟩:=h;exact⟨v,q,e,Rep.same x h1,Reps.same x h2⟩
end
theorem Reps.length:∀{vs:List V}{ds:List D},Reps K H vs ds->vs.length=ds.length
 | vs,[],h=>by cases (show vs=[] from h);rfl
 | vs,d::ds,h=>by
   obtain⟨v,r,rfl,_,h2⟩:=h;rw[qe3,qe3,Reps.length h2]
theorem Reps.get:∀{vs:List V}{ds:List D}{i:Nat}{d:D},Reps K H vs ds->ds[i]?=some d->∃v,vs[i]?=some v/\Rep K H v d
 | vs,[],i,d,h,e=>by simp at e
 | vs,d0::ds,0,d,h,e=>by
   obtain⟨v,r,rfl,h1,_⟩:=h;simp only[qm0,Option.some.injEq]at e;subst e;exact⟨v,by simp,h1⟩
 | vs,d0::ds,i+1,d,h,e=>by
   obtain⟨v,r,rfl,_,h2⟩:=h;obtain⟨u,e1,e2⟩:=Reps.get (i:=i) h2 (by simpa using e);exact⟨u,by simpa using e1,e2⟩
theorem Reps.getV:∀{vs:List V}{ds:List D}{i:Nat}{v:V},Reps K H vs ds->vs[i]?=some v->∃d,ds[i]?=some d/\Rep K H v d:=fun {vs ds i v} h e=>by
 have hl:=h.length;have hi:i<vs.length:=(qa2.mp e).1;obtain⟨d,hd⟩:∃d,ds[i]?=some d:=⟨ds[i]'(O9m),by simp<;>omega⟩
 obtain⟨u,e1,e2⟩:=h.get hd;rw[e]at e1;cases e1;exact⟨d,hd,e2⟩
theorem Reps.append:∀{vs ws:List V}{ds es:List D},Reps K H vs ds->Reps K H ws es->Reps K H (vs++ws) (ds++es)
 | vs,ws,[],es,h,h'=>by cases (show vs=[] from h);exact h'
 | vs,ws,d::ds,es,h,h'=>by
   obtain⟨v,r,rfl,h1,h2⟩:=h;exact⟨v,r++ws,rfl,h1,Reps.append h2 h'⟩
theorem Reps.one{v:V}{d:D}(h:Rep K H v d):Reps K H [v] [d]:=⟨v,[],rfl,h,rfl⟩
theorem Reps.snoc{vs:List V}{ds:List D}{v:V}{d:D}(h:Reps K H vs ds)(h':Rep K H v d):Reps K H (vs++[v]) (ds++[d]):=h.append (.one h')
theorem Reps.take:∀{vs:List V}{ds:List D} (n:Nat),Reps K H vs ds->Reps K H (vs.take n) (ds.take n)
 | vs,ds,0,h=>by simp[Reps]
 | vs,[],n+1,h=>by cases (show vs=[] from h);simp[Reps]
 | vs,d::ds,n+1,h=>by
   obtain⟨v,r,rfl,h1,h2⟩:=h;exact⟨v,r.take n,rfl,h1,Reps.take n h2⟩
noncomputable def Bx(ns:List Int):List D:=ns.map D.int
noncomputable abbrev tI(ns:List Int):D:=.tup (Bx ns)
theorem U7:∀ns:List Int,imms (Bx ns)=true
 | []=>rfl
 | n::ns=>by show(KS (.int n)&&imms (Bx ns))=true;rw[U7 ns];rfl
theorem EB(ns:List Int):KS (tI ns)=true:=U7 ns
theorem Og:∀xs:LLInt,imms (xs.map tI)=true
 | []=>rfl
 | x::xs=>by show(KS (tI x)&&imms (xs.map tI))=true;rw[Og xs,EB];rfl
theorem Vh:∀a b:List Int,eqDs (Bx a) (Bx b)=decide (a=b)
 | [],[]=>by simp[Bx,eqDs]
 | [],_::_=>by simp[Bx,eqDs]
 | _::_,[]=>by simp[Bx,eqDs]
 | x::a,y::b=>by
   show(eqD (.int x) (.int y)&&eqDs (Bx a) (Bx b))=_;rw[Vh a b];simp only[eqD];by_cases e:x=y
   . subst e;by_cases e2:a=b<;>simp[e2]
   . simp[e]
theorem ET(a b:List Int):eqD (tI a) (tI b)=decide (a=b):=by simp only[eqD];exact Vh a b
theorem Dr:∀{vs:List V}{ns:List Int},Reps K H vs (Bx ns)↔vs=ns.map V.int
 | vs,[]=>Iff.rfl
 | vs,n::ns=>by
   constructor
   . rintro ⟨v,r,rfl,h1,h2⟩;have HP:v=.int n:=h1;rw[HP,Dr.mp h2];rfl
   . rintro rfl;exact⟨.int n,ns.map V.int,rfl,rfl,Dr.mpr rfl⟩
end
section
variable{X:Cx}{Ae:Ba}{σ:St}{H:Hp}{s:Shared}
theorem z8(I:Bd X Ae σ H s){a:Addr}{xs ys:List V}(h:Dv X.K H a xs)(h':SqL X.K H a ys):False:=by
 obtain⟨its,r,⟨o,e,c,n,d⟩,_⟩:=I.tuple h;obtain⟨its',r',⟨o',n',e',c',_,d'⟩,_⟩:=I.list h';rw[e]at e';cases e';rw[c]at c';have z:("tuple":String)="list":=by injection c'
 exact absurd z (by decide)
mutual
theorem Rep.inj(I:Bd X Ae σ H s){v:V}{d e:D}(h:Rep X.K H v d)(h':Rep X.K H v e):d=e:=by
 cases d with
 | non=>cases (show v=.non from h);cases e<;>first | rfl | (exfalso;first | (cases (show V.non=_ from h')) | (obtain⟨_,_,z,_⟩:=h';cases z))
 | bl b=>cases (show v=.bl b from h);cases e<;>first | (cases (show V.bl b=_ from h');rfl) | (exfalso;first | (cases (show V.bl b=_ from h')) | (obtain⟨_,_,z,_⟩:=h';cases z))
 | int b=>cases (show v=.int b from h);cases e<;>first | (cases (show V.int b=_ from h');rfl) | (exfalso;first | (cases (show V.int b=_ from h')) | (obtain⟨_,_,z,_⟩:=h';cases z))
 | str b=>cases (show v=.str b from h);cases e<;>first | (cases (show V.str b=_ from h');rfl) | (exfalso;first | (cases (show V.str b=_ from h')) | (obtain⟨_,_,z,_⟩:=h';cases z))
 | tup ds =>
   obtain⟨a,vs,rfl,q,r⟩:=h;cases e with
   | tup es =>
     obtain⟨b,ws,z,q',r'⟩:=h';cases z;have e1:=I.tuple_inj q q';subst e1;rw[Reps.inj I r r']
   | lst es =>
     obtain⟨b,ws,z,q',r'⟩:=h';cases z;exact(z8 I q q').elim
   | non=>cases (show V.ref a=_ from h')
   | bl _=>cases (show V.ref a=_ from h')
   | int _=>cases (show V.ref a=_ from h')
   | str _=>cases (show V.ref a=_ from h')
 | lst ds =>
   obtain⟨a,vs,rfl,q,r⟩:=h;cases e with
   | lst es =>
     obtain⟨b,ws,z,q',r'⟩:=h';cases z;have e1:=I.list_inj q q';subst e1;rw[Reps.inj I r r']
   | tup es =>
     obtain⟨b,ws,z,q',r'⟩:=h';cases z;exact(z8 I q' q).elim
   | non=>cases (show V.ref a=_ from h')
   | bl _=>cases (show V.ref a=_ from h')
   | int _=>cases (show V.ref a=_ from h')
   | str _=>cases (show V.ref a=_ from h')
theorem Reps.inj(I:Bd X Ae σ H s){vs:List V}{ds es:List D}(h:Reps X.K H vs ds)(h':Reps X.K H vs es):ds=es:=by
 cases ds with
 | nil =>
   cases (show vs=[] from h);cases es with
   | nil=>rfl
   | cons e es=>obtain⟨_,_,z,_⟩:=h';cases z
 | cons d ds =>
   obtain⟨v,r,rfl,h1,h2⟩:=h;cases es with
   | nil=>cases (show v::r=[] from h')
   | cons e es =>
     obtain⟨v',r',z,HP,h2'⟩:=h';cases z;rw[Rep.inj I h1 HP,Reps.inj I h2 h2']
end
noncomputable def EqD(X:Cx)(H:Hp)(s:Shared)(d:D):Prop:=∀(A:Around) (x y:V) (u v:Value) (e:D),A.units+dep d<cLine->Rep X.K H x d->Rep X.K H y e->RelV x u->RelV y v->RcAt A s u v (eqD d e)/\EqAt A s u v (eqD d e)
theorem cU(I:Bd X Ae σ H s){ds es:List D}{vs ws:List V}{us us':List Value}{A:Around}(hu:A.units+deps ds<cLine)(r:Reps X.K H vs ds)(r':Reps X.K H ws es)(rv:Vals vs us)(FJ:Vals ws us')
 (ih:∀d∈ds,EqD X H s d) (WT:∀d∈ds,dep d<=deps ds):∀j (h1:j<us.toArray.size) (h2:j<us'.toArray.size),EqAt A s us.toArray[j] us'.toArray[j] (match ds[j]?,es[j]? with | some x,some y=>eqD x y | _,_=>true):=by
 intro j h1 h2;have l1:=r.length;have l2:=r'.length;have l3:=rv.length;have l4:=FJ.length;have HP:j<us.length:=by simpa using h1
 have h2':j<us'.length:=by simpa using h2
 have e1:ds[j]?=some (ds[j]'(O9m)):=by simp<;>omega
 have e2:es[j]?=some (es[j]'(O9m)):=by simp<;>omega
 obtain⟨v,ev,rd⟩:=r.get e1;obtain⟨w,ew,re⟩:=r'.get e2;obtain⟨u,eu,ru⟩:=rv.get ev;obtain⟨u',xN,qI⟩:=FJ.get ew
 have f1:us.toArray[j]=u:=by
  have:us[j]?=some us[j]:=by simp
  rw[eu]at this;have:=(qb6 this).symm;simpa using this
 have f2:us'.toArray[j]=u':=by
  have:us'[j]?=some us'[j]:=by simp
  rw[xN]at this;have:=(qb6 this).symm;simpa using this
 rw[f1,f2,e1,e2];have hm:ds[j]'(O9m)∈ds:=qc8 _;exact(ih _ hm A v w u u' _ (by have:=WT _ hm;omega) rd re ru qI).2
theorem deps_le:∀{ds:List D}{d:D},d∈ds->dep d<=deps ds
 | d0::ds,d,h=>by
   simp only[deps];rcases qb7.mp h with rfl | h
   . omega
   . have:=deps_le h;omega
theorem Uv{a b:List D}(h:¬a.length=b.length):eqDs a b=false:=by
 cases q:eqDs a b with
 | false=>rfl
 | true=>exact absurd (eqDs_len q) h
mutual
theorem m7(I:Bd X Ae σ H s)(d:D):EqD X H s d:=by
 intro A x y u v e hu hx hy rx ry;cases d with
 | non =>
   cases (show x=.non from hx);cases (show u=Value.none from rx);cases e with
   | non=>cases (show y=.non from hy);cases (show v=Value.none from ry);exact⟨.none_none,.same _⟩
   | bl b=>cases (show y=.bl b from hy);cases (show v=Value.bool b from ry);exact⟨.none_bool b,.none_bool b⟩
   | int i=>cases (show y=.int i from hy);obtain⟨t,rfl⟩:=ry;exact⟨.none_int i t,.none_int i t⟩
   | str z=>cases (show y=.str z from hy);obtain⟨t,rfl⟩:=ry;exact⟨.none_str z t,.none_str z t⟩
   | tup es=>obtain⟨a,vs,rfl,q,r⟩:=hy;cases ry;obtain⟨its,_,p,_⟩:=I.tuple q;exact⟨.none_tuple p O9m,.none_tuple p O9m⟩
   | lst es=>obtain⟨a,vs,rfl,q,r⟩:=hy;cases ry;obtain⟨its,_,p,_⟩:=I.list q;exact⟨.none_list p.isList O9m,.none_list p.isList O9m⟩
 | bl c =>
   cases (show x=.bl c from hx);cases (show u=Value.bool c from rx);cases e with
   | non=>cases (show y=.non from hy);cases (show v=Value.none from ry);exact⟨.bool_none c,.bool_none c⟩
   | bl b=>cases (show y=.bl b from hy);cases (show v=Value.bool b from ry);exact⟨.bool_bool c b,.bool_bool c b⟩
   | int i=>cases (show y=.int i from hy);obtain⟨t,rfl⟩:=ry;exact⟨.bool_int c i t,.bool_int c i t⟩
   | str z=>cases (show y=.str z from hy);obtain⟨t,rfl⟩:=ry;exact⟨.bool_str c z t,.bool_str c z t⟩
   | tup es=>obtain⟨a,vs,rfl,q,r⟩:=hy;cases ry;obtain⟨its,_,p,_⟩:=I.tuple q;exact⟨.bool_tuple c p O9m,.bool_tuple c p O9m⟩
   | lst es=>obtain⟨a,vs,rfl,q,r⟩:=hy;cases ry;obtain⟨its,_,p,_⟩:=I.list q;exact⟨.bool_list c p.isList O9m,.bool_list c p.isList O9m⟩
 | int c =>
   cases (show x=.int c from hx);obtain⟨t,rfl⟩:=rx;cases e with
   | non=>cases (show y=.non from hy);cases (show v=Value.none from ry);exact⟨.int_none c t,.int_none c t⟩
   | bl b=>cases (show y=.bl b from hy);cases (show v=Value.bool b from ry);exact⟨.int_bool c t b,.int_bool c t b⟩
   | int i=>cases (show y=.int i from hy);obtain⟨t',rfl⟩:=ry;exact⟨.int_int c t i t',.int_int c t i t'⟩
   | str z=>cases (show y=.str z from hy);obtain⟨t',rfl⟩:=ry;exact⟨.int_str c t z t',.int_str c t z t'⟩
   | tup es=>obtain⟨a,vs,rfl,q,r⟩:=hy;cases ry;obtain⟨its,_,p,_⟩:=I.tuple q;exact⟨.int_tuple c t p O9m,.int_tuple c t p O9m⟩
   | lst es=>obtain⟨a,vs,rfl,q,r⟩:=hy;cases ry;obtain⟨its,_,p,_⟩:=I.list q;exact⟨.int_list c t p.isList O9m,.int_list c t p.isList O9m⟩
 | str c =>
   cases (show x=.str c from hx);obtain⟨t,rfl⟩:=rx;cases e with
   | non=>cases (show y=.non from hy);cases (show v=Value.none from ry);exact⟨.str_none c t,.str_none c t⟩
   | bl b=>cases (show y=.bl b from hy);cases (show v=Value.bool b from ry);exact⟨.str_bool c t b,.str_bool c t b⟩
   | int i=>cases (show y=.int i from hy);obtain⟨t',rfl⟩:=ry;exact⟨.str_int c t i t',.str_int c t i t'⟩
   | str z=>cases (show y=.str z from hy);obtain⟨t',rfl⟩:=ry;exact⟨.str_str c t z t',.str_str c t z t'⟩
   | tup es=>obtain⟨a,vs,rfl,q,r⟩:=hy;cases ry;obtain⟨its,_,p,_⟩:=I.tuple q;exact⟨.str_tuple c t p O9m,.str_tuple c t p O9m⟩
   | lst es=>obtain⟨a,vs,rfl,q,r⟩:=hy;cases ry;obtain⟨its,_,p,_⟩:=I.list q;exact⟨.str_list c t p.isList O9m,.str_list c t p.isList O9m⟩
 | tup ds =>
   have hx':=hx;obtain⟨a,vs,rfl,q,r⟩:=hx;cases rx;obtain⟨its,rv,p,_⟩:=I.tuple q;have QZ:A.units+1+deps ds<cLine:=by simp only[dep]at hu;omega
   cases e with
   | non=>cases (show y=.non from hy);cases (show v=Value.none from ry);exact⟨.tuple_none p O9m,.tuple_none p O9m⟩
   | bl b=>cases (show y=.bl b from hy);cases (show v=Value.bool b from ry);exact⟨.tuple_bool b p O9m,.tuple_bool b p O9m⟩
   | int i=>cases (show y=.int i from hy);obtain⟨t',rfl⟩:=ry;exact⟨.tuple_int i t' p O9m,.tuple_int i t' p O9m⟩
   | str z=>cases (show y=.str z from hy);obtain⟨t',rfl⟩:=ry;exact⟨.tuple_str z t' p O9m,.tuple_str z t' p O9m⟩
   | lst es=>obtain⟨b,ws,rfl,q',r'⟩:=hy;cases ry;obtain⟨its',_,p',_⟩:=I.list q';exact⟨.tuple_list p p'.isList O9m,.tuple_list p p'.isList O9m⟩
   | tup es =>
     have hy':=hy;obtain⟨b,ws,rfl,q',r'⟩:=hy;cases ry;obtain⟨its',FJ,p',_⟩:=I.tuple q'
     have main:RcAt A s (.ref a) (.ref b) (eqD (.tup ds) (.tup es)):=by
      have:=RcAt.tuples (A:=A) p p' O9m (cU I (A:=A.in1) (by show A.units+1+deps ds<cLine;omega) r r' rv FJ (eqDs_ok I ds) fun d h=>deps_le h);have l1:=r.length;have l2:=r'.length;have l3:=rv.length;have l4:=FJ.length;have e1:its.toArray.size=ds.length:=by simp<;>omega
      have e2:its'.toArray.size=es.length:=by simp<;>omega
      rw[e1,e2]at this;simp only[eqD];by_cases hl:ds.length=es.length
      . rw[Su ds es hl];rw[←hl,Nat.min_self]at this;simpa using this
      . rw[Uv hl];have z:(ds.length==es.length)=false:=by simpa using hl
        rw[z,Bool.and_false]at this;exact this
     refine⟨main,?_⟩;by_cases hab:a=b
     . subst hab;have e3:D.tup ds=D.tup es:=Rep.inj I hx' hy';rw[e3,Sv];exact .same _
     . exact .of_refs hab main
 | lst ds =>
   have hx':=hx;obtain⟨a,vs,rfl,q,r⟩:=hx;cases rx;obtain⟨its,rv,p,_⟩:=I.list q;have QZ:A.units+1+deps ds<cLine:=by simp only[dep]at hu;omega
   cases e with
   | non=>cases (show y=.non from hy);cases (show v=Value.none from ry);exact⟨.list_none p.isList O9m,.list_none p.isList O9m⟩
   | bl b=>cases (show y=.bl b from hy);cases (show v=Value.bool b from ry);exact⟨.list_bool b p.isList O9m,.list_bool b p.isList O9m⟩
   | int i=>cases (show y=.int i from hy);obtain⟨t',rfl⟩:=ry;exact⟨.list_int i t' p.isList O9m,.list_int i t' p.isList O9m⟩
   | str z=>cases (show y=.str z from hy);obtain⟨t',rfl⟩:=ry;exact⟨.list_str z t' p.isList O9m,.list_str z t' p.isList O9m⟩
   | tup es=>obtain⟨b,ws,rfl,q',r'⟩:=hy;cases ry;obtain⟨its',_,p',_⟩:=I.tuple q';exact⟨.list_tuple p.isList p' O9m,.list_tuple p.isList p' O9m⟩
   | lst es =>
     have hy':=hy;obtain⟨b,ws,rfl,q',r'⟩:=hy;cases ry;obtain⟨its',FJ,p',_⟩:=I.list q'
     have main:RcAt A s (.ref a) (.ref b) (eqD (.lst ds) (.lst es)):=by
      have l1:=r.length;have l2:=r'.length;have l3:=rv.length;have l4:=FJ.length;have e1:its.toArray.size=ds.length:=by simp<;>omega
      have e2:its'.toArray.size=es.length:=by simp<;>omega
      simp only[eqD];by_cases hl:ds.length=es.length
      . have:=RcAt.lists (A:=A) p.isList p'.isList O9m O9m (cU I (A:=A.in1) (by show A.units+1+deps ds<cLine;omega) r r' rv FJ (eqDs_ok I ds) fun d h=>deps_le h);rw[e1]at this;rw[Su ds es hl];exact this
      . rw[Uv hl];exact RcAt.lists_lengths p.isList p'.isList (by simpa[e1,e2]using hl) O9m
     refine⟨main,?_⟩;by_cases hab:a=b
     . subst hab;have e3:D.lst ds=D.lst es:=Rep.inj I hx' hy';rw[e3,Sv];exact .same _
     . exact .of_refs hab main
theorem eqDs_ok(I:Bd X Ae σ H s)(ds:List D):∀d∈ds,EqD X H s d:=by
 cases ds with
 | nil=>exact fun _ h=>nomatch h
 | cons d0 r =>
   intro d h;rcases qb7.mp h with e | h
   . exact e▸m7 I d0
   . exact eqDs_ok I r d h
end
noncomputable def rEqD(K:W.Frag)(n:Nat):R2:=fun x y H Q=>∃d e,Rep K H x d/\Rep K H y e/\dep d<=n/\Q (.bl (eqD d e)) H
theorem JT{n:Nat}(hu:X.A.units+n<cLine):OpR X (compareOp .Eq) (rEqD X.K n):=by
 intro Ae s σ H x y v u Q I rx ry h;obtain⟨d,e,hd,he,hn,q⟩:=h;exact(m7 I d X.A x y v u e O9m hd he rx ry).1 X.prog X.w X.xe _ ⟨.bl (eqD d e),H,I,rfl,q⟩
end
end L2
namespace L2
open PySem PySem.Spec PyProof.Rows PySem.SeqAt
section
variable{X:Cx}
noncomputable def bR(X:Cx)(H:Hp)(d:D)(u:Value):Bool:=@decide (∃v e,RelV v u/\Rep X.K H v e/\eqD e d=true) (Classical.propDecidable _)
theorem Xd{Ae:Ba}{σ:St}{H:Hp}{s:Shared}(I:Bd X Ae σ H s){d e:D}{v:V}{u:Value}(r:RelV v u)(h:Rep X.K H v e):bR X H d u=eqD e d:=by
 cases q:eqD e d with
 | true=>exact @qe9 _ (Classical.propDecidable _) ⟨v,e,r,h,q⟩
 | false =>
   refine @qe5 _ (Classical.propDecidable _) ?_;rintro ⟨v',e',r',h',q'⟩;have:=r.inj r';subst this;rw[Rep.inj I h h']at q;rw[q]at q';cases q'
theorem Po{Ae:Ba}{σ:St}{H:Hp}{s:Shared}(I:Bd X Ae σ H s){A:Around}{x:V}{v:Value}{d:D}{vs:List V}{us:List Value}{ds:List D}(hu:A.units+deps ds<cLine)(hx:Rep X.K H x d)(rx:RelV x v)
 (r:Reps X.K H vs ds) (rv:Vals vs us):∀y,y∈us.toArray->EqAt A s y v (bR X H d y):=by
 intro y hy;have hy':y∈us:=by simpa using hy
 obtain⟨i,hi⟩:=qc6 hy';have hlt:i<us.length:=(qa2.mp hi).1;have l1:=rv.length;obtain⟨w,hw⟩:∃w,vs[i]?=some w:=⟨vs[i]'(O9m),by simp<;>omega⟩
 obtain⟨u,PF,ru⟩:=rv.get hw;rw[hi]at PF;cases PF;obtain⟨e,he,re⟩:=r.getV hw;rw[Xd I ru re];have hm:e∈ds:=qa8 he;exact(m7 I e A w x y v d (by have:=deps_le hm;omega) re hx ru rx).2
theorem Xr{Ae:Ba}{σ:St}{H:Hp}{s:Shared}(I:Bd X Ae σ H s){d:D}:∀{vs:List V}{us:List Value}{ds:List D},Reps X.K H vs ds->Vals vs us->us.any (bR X H d)=ds.any fun e=>eqD e d
 | vs,us,[],r,rv=>by
   cases (show vs=[] from r);cases rv;rfl
 | vs,us,e::ds,r,rv=>by
   obtain⟨v,q,rfl,h1,h2⟩:=r;cases rv with
   | cons r1 r2=>rw[qi4,qi4,Xd I r1 h1,Xr I h2 r2]
noncomputable def OT(K:W.Frag)(H:Hp)(y:V)(ds:List D):Prop:=Rep K H y (.lst ds)\/Rep K H y (.tup ds)
noncomputable def GC(K:W.Frag)(n:Nat)(neg:Bool):R2:=fun x y H Q=>∃d ds,Rep K H x d/\OT K H y ds/\deps ds+1<=n/\Q (.bl (if neg then !(ds.any fun e=>eqD e d) else ds.any fun e=>eqD e d)) H
theorem jT{n:Nat}(hu:X.A.units+n<cLine):OpR X (compareOp .In) (GC X.K n false):=by
 intro Ae s σ H x y v u Q I rx ry h;obtain⟨d,ds,hx,hs,hn,q⟩:=h
 have fin:∀{us:List Value}{vs:List V},Reps X.K H vs ds->Vals vs us->EP X Ae σ Q (.bool (us.toArray.any (bR X H d))) s:=fun r rv =>
  ⟨.bl (ds.any fun e=>eqD e d),H,I,by show Value.bool _=Value.bool _;rw[List.any_toArray,Xr I r rv],q⟩
 rcases hs with⟨a,vs,rfl,hq,r⟩|⟨a,vs,rfl,hq,r⟩
 . cases ry;obtain⟨its,rv,p,_⟩:=I.list hq;exact in_listAt (bR X H d) p.isList (Po I (A:=X.A.in1) (by show X.A.units+1+deps ds<cLine;omega) hx rx r rv) (fin r rv)
 . cases ry;obtain⟨its,rv,p,_⟩:=I.tuple hq;exact in_tupleAt (bR X H d) p (Po I (A:=X.A.in1) (by show X.A.units+1+deps ds<cLine;omega) hx rx r rv) (fin r rv)
theorem bC{n:Nat}(hu:X.A.units+n<cLine):OpR X (compareOp .NotIn) (GC X.K n true):=by
 intro Ae s σ H x y v u Q I rx ry h;obtain⟨d,ds,hx,hs,hn,q⟩:=h
 have fin:∀{us:List Value}{vs:List V},Reps X.K H vs ds->Vals vs us->EP X Ae σ Q (.bool (!us.toArray.any (bR X H d))) s:=fun r rv =>
  ⟨.bl (!(ds.any fun e=>eqD e d)),H,I,by show Value.bool _=Value.bool _;rw[List.any_toArray,Xr I r rv],q⟩
 rcases hs with⟨a,vs,rfl,hq,r⟩|⟨a,vs,rfl,hq,r⟩
 . cases ry;obtain⟨its,rv,p,_⟩:=I.list hq;exact notIn_listAt (bR X H d) p.isList (Po I (A:=X.A.in1) (by show X.A.units+1+deps ds<cLine;omega) hx rx r rv) (fin r rv)
 . cases ry;obtain⟨its,rv,p,_⟩:=I.tuple hq;exact notIn_tupleAt (bR X H d) p (Po I (A:=X.A.in1) (by show X.A.units+1+deps ds<cLine;omega) hx rx r rv) (fin r rv)
noncomputable def CY(K:W.Frag)(n:Nat):V->List V->Hp->VK->Prop:=fun x vs H Q=>∃ds y d j,vs=[y]/\Rep K H x (.lst ds)/\Rep K H y d/\deps ds+1<=n/\ds.findIdx? (fun e=>eqD e d)=some j/\Q (.int (j:Nat)) H
theorem DT{n:Nat}(hu:X.A.units+n<cLine):MtR X "list.index" (CY X.K n):=by
 intro Ae s σ H x vs v us Q I rx rv h;obtain⟨ds,y,d,j,rfl,⟨a,ws,rfl,hq,r⟩,hy,hn,hj,q⟩:=h;cases rx;obtain⟨u,rfl,ru⟩:=rv.one;obtain⟨its,rw',p,hz⟩:=I.list hq;have l1:=r.length;have l2:=rw'.length;obtain⟨hlt,hit,hno⟩:=qi2.mp hj
 have at':∀m (hm:m<its.toArray.size) (hm':m<ds.length),bR X H d its.toArray[m]=eqD ds[m] d:=fun m hm hm'=>by
  obtain⟨w,hw,re⟩:=r.get (i:=m) (d:=ds[m]) (by simp);obtain⟨u',QZ,qI⟩:=rw'.get hw
  have e1:its.toArray[m]=u':=by
   have hm2:m<its.length:=by simpa using hm
   have:its[m]?=some its[m]:=by simp
   rw[QZ]at this;have:=(qb6 this).symm;simpa using this
  rw[e1];exact Xd I qI re
 obtain⟨o,k,ho,hc,hdn,hd⟩:=id p;obtain⟨cls,dd,data,sl⟩:=o;simp only at hc hdn hd;subst hc hdn hd;have hsz:ds.length<=sizeLine:=O9m
 have big:(sizeLine:Nat)<2 ^ 62:=by rw[sizeLine_eq];decide
 refine call_meets ql7 ⟨_,ho,rfl⟩ PySem.F.entry_list_index (PySem.F.args_list_index_2 _ _)
  (list_indexAt a its.toArray k none sl u (bR X H d) j (by simp<;>omega) O9m ?_ ?_) ⟨ho,Po I (A:=X.A.in1) (by show X.A.units+1+deps ds<cLine;omega) hy ru r rw',?_⟩
 . rw[at' j (by simp<;>omega) hlt];exact hit
 . intro m hm WM;rw[at' m hm (by omega)];have:=hno m WM;simpa using this
 . exact⟨.int (j:Nat),H,I.tok _,⟨_,rfl⟩,q⟩
noncomputable def Wv(n:String):D->Bool
 | .non=>false
 | .bl _=>n=="int" || n=="bool"
 | .int _=>n=="int"
 | .str _=>n=="str"
 | .tup _=>n=="tuple"
 | .lst _=>n=="list"
noncomputable def tE:D->String
 | .non=>"NoneType"
 | .bl _=>"bool"
 | .int _=>"int"
 | .str _=>"str"
 | .tup _=>"tuple"
 | .lst _=>"list"
theorem DX{K:W.Frag}{n:String}{d:D}(hn:n="int"\/n="bool"\/n="str"\/n="tuple"\/n="list"\/n="dict"):PySem.W.kitOne K (.type (tE d)) (.type n)=some (Wv n d):=by
 rcases hn with rfl | rfl | rfl | rfl | rfl | rfl<;>cases d<;>(unfold PySem.W.kitOne PySem.W.kitCls PySem.W.subIn tE Wv;first | rfl | decide +kernel)
theorem Lk:E9 X (.builtin "isinstance") (fun xs H Q=>∃x n d,xs=[x,.ty n]/\(n="int"\/n="bool"\/n="str"\/n="tuple"\/n="list"\/n="dict")/\Rep X.K H x d/\Q (.bl (Wv n d)) H):=by
 intro Ae s σ H xs us Q I r h;obtain⟨x,n,d,rfl,hn,hx,q⟩:=h;obtain⟨u,v,rfl,rx,rt⟩:=X2 r;cases rt;have k:=DX (K:=X.K) (d:=d) hn;have fin:∀tk,EP X Ae σ Q (.bool (Wv n d)) { s with toks:=tk }:=fun tk=>⟨.bl (Wv n d),H,I.tok tk,rfl,q⟩
 cases d with
 | non=>cases (show x=.non from hx);cases (show u=Value.none from rx);exact qk3 PySem.W.kitx_none I.kIn True.intro k (fun z=>nomatch z) fin
 | bl b=>cases (show x=.bl b from hx);cases (show u=Value.bool b from rx);exact qk3 PySem.W.kitx_bool I.kIn True.intro k (fun z=>nomatch z) fin
 | int b=>cases (show x=.int b from hx);obtain⟨t,rfl⟩:=rx;exact qk3 PySem.W.kitx_int I.kIn True.intro k (fun z=>nomatch z) fin
 | str b=>cases (show x=.str b from hx);obtain⟨t,rfl⟩:=rx;exact qk3 PySem.W.kitx_str I.kIn True.intro k (fun z=>nomatch z) fin
 | tup ds =>
   obtain⟨a,vs,rfl,hq,_⟩:=hx;cases rx;obtain⟨its,_,⟨o,e,c,_⟩,_⟩:=I.tuple hq;exact qk3 PySem.W.kitx_tuple I.kIn ⟨o,e,c⟩ k (fun z=>nomatch z) fin
 | lst ds =>
   obtain⟨a,vs,rfl,hq,_⟩:=hx;cases rx;obtain⟨its,_,⟨o,_,e,c,_⟩,_⟩:=I.list hq;exact qk3 PySem.W.kitx_list I.kIn ⟨o,e,c⟩ k (fun z=>nomatch z) fin
noncomputable def iM(K:W.Frag):R2:=fun x y H Q=>∃a b xs ys,x=.ref a/\y=.ref b/\Dv K H a xs/\Dv K H b ys/\xs.length+ys.length<=sizeLine/\∀p H',Same H H'->Dv K H' p (xs++ys)->Q (.ref p) H'
theorem GK:OpR X (binaryOp .Add) (iM X.K):=by
 intro Ae s σ H x y v u Q I rx ry h;obtain⟨a,b,xs,ys,rfl,rfl,ha,hb,hz,q⟩:=h;by_cases hx:xs=[]
 . subst hx;cases rx;cases ry;obtain⟨its,r1,p1,_⟩:=I.tuple ha;obtain⟨its2,r2,p2,_⟩:=I.tuple hb;cases r1;obtain⟨⟨cls,dd,data,sl⟩,ho,hc,n,hd⟩:=id p1;obtain⟨⟨OR,dd2,data2,sl2⟩,ho2,hc2,n2,hd2⟩:=id p2;simp only at hc hd hc2 hd2;subst hc hd hc2 hd2
   exact concat_meets ⟨_,ho,rfl⟩ ⟨_,ho2,rfl⟩ noFill_tuple_add seq_tuple_add qo5 qn4 (qn1 _ _)
    (tuple_addW0 a b _ _ n n2 dd dd2 sl sl2 (by simp)) ⟨ho,ho2,⟨.ref b,H,I,rfl,q b H (Same.refl H) (by simpa using hb)⟩⟩
 . refine gM Ae s σ H (.ref a) (.ref b) v u Q I rx ry ⟨a,b,xs,ys,rfl,rfl,ha,hb,hx,hz,fun e=>?_,fun e p hp=>?_⟩
   . subst e;exact q a H (Same.refl H) (by simpa using ha)
   . exact q p _ (Same.new hp) (.of Ab)
noncomputable def IK(K:W.Frag):V->Option Int->Option Int->Hp->VK->Prop:=fun x lo hi H Q=>∃a xs,x=.ref a/\Dv K H a xs ∧
 ¬(HT.sIx xs.length 0 lo=0/\HT.sIx xs.length xs.length hi=xs.length)/\∀p H',Same H H'->Dv K H' p (cutV xs lo hi)->Q (.ref p) H'
theorem FW:LO X (IK X.K):=by
 intro Ae s σ H x v vl vu lo hi sl Q I rx hs pl pu h;obtain⟨a,xs,rfl,hx,hw,q⟩:=h;exact jK Ae s σ H (.ref a) v vl vu lo hi sl Q I rx hs pl pu ⟨a,xs,rfl,hx,hw,fun p hp=>q p _ (Same.new hp) (.of Ab)⟩
noncomputable def cZ(K:W.Frag):R2:=fun x y H Q=>∃l b xs zs,x=.ref l/\y=.ref b/\SqL K H l xs/\SqL K H b zs/\xs.length+zs.length<=sizeLine/\∀p,H p=none->Q (.ref p) (upd H p (.lst (xs++zs)))
theorem DI:OpR X (binaryOp .Add) (cZ X.K):=by
 intro Ae s σ H x y v u Q I rx ry h;obtain⟨l,b,xs,zs,rfl,rfl,hl,hb,hz,q⟩:=h;cases rx;cases ry;obtain⟨its,r1,p1,_⟩:=I.list hl;obtain⟨its2,r2,p2,_⟩:=I.list hb;obtain⟨⟨cls,dd,data,sl⟩,n,ho,hc,RN,hd⟩:=id p1;obtain⟨⟨OR,dd2,data2,sl2⟩,n2,ho2,hc2,hdd2,hd2⟩:=id p2;simp only at hc hd hc2 hd2;subst hc hd hc2 hd2
 refine concat_meets ⟨_,ho,rfl⟩ ⟨_,ho2,rfl⟩ noFill_list_add seq_list_add PySem.F.slot_list_add PySem.F.entry_list_add (PySem.F.args_list_add_2 _ _)
  (list_addW l b its.toArray its2.toArray n n2 dd dd2 sl sl2 (by rw[qc4,qc4,←r1.length,←r2.length];exact hz)) ⟨ho,ho2,?_⟩
 rw[show its.toArray++its2.toArray=(its++its2).toArray by simp];exact⟨.ref s.heap.objs.size,_,I.lnew (t':=s.toks) (r1.append r2) (by rw[qb8];exact hz),rfl,q _ I.fresh⟩
theorem cE(hc:X.calm=true):E9 X (.builtin "all") (fun xs H Q=>∃(p:Addr) (bs:List Bool),xs=[.ref p]/\SqL X.K H p (bs.map V.bl)/\Q (.bl (bs.all id)) H):=by
 intro Ae s σ H xs us Q I r h;obtain⟨p,bs,rfl,hq,q⟩:=h;obtain⟨u,rfl,ru⟩:=Ma r;cases ru;obtain⟨its,rv,pl,hz⟩:=I.list hq;have hh:X.A.handled=none:=I.ok.hd hc
 have rel:∀(i:Nat) (v:Value),its.toArray[i]?=some v->∃b,bs[i]?=some b/\v=.bool b:=fun i v e=>by
  have e':its[i]?=some v:=by simpa using e
  have hlt:i<its.length:=(qa2.mp e').1;have l1:=rv.length;rw[qa1]at l1;have hb:bs[i]?=some (bs[i]'(O9m)):=by simp<;>omega
  obtain⟨u,hu,ru⟩:=rv.get (i:=i) (x:=V.bl (bs[i]'(O9m))) (by rw[qa3,hb];rfl);rw[e']at hu;cases hu;exact⟨_,hb,ru⟩
 refine call_all_walk (wpAny_pyIter_list pl.isList ?_);refine⟨s.heap.objs.size,[s.heap.objs.size,p],[s.heap.objs.size],its.toArray.size,_,_,fun i=>(bs[i]?).getD true,rfl,Walks.list (show X.A.in1.handled=none from hh) s.heap.objs.size p ?_ its.toArray,⟨⟨_,qc0 _ rfl,rfl,rfl⟩,?_⟩,?_,fun h' tk k=>?_⟩
 . obtain⟨o,_,ho,_⟩:=pl;exact qc7 (qb0 ho)
 . exact pl.isList.at fun o e=>qa7 _ e
 . intro i v s' Q' E' hv hQ;obtain⟨b,hb,rfl⟩:=rel i v hv;dsimp only at hQ;rw[hb]at hQ;exact qh9 hQ
 . have e:(List.range its.toArray.size).all (fun i=>(bs[i]?).getD true)=bs.all id:=by
    have l1:=rv.length;rw[qa1]at l1;rw[qc4,←l1];rw[qh2,qd2,qd2];constructor
    . intro hx b hb;obtain⟨i,hi⟩:=qc6 hb;have:=hx i (qd7.mpr (qa2.mp hi).1);rw[hi]at this;exact this
    . intro hx i hi;have hlt:=qd7.mp hi;have hb:bs[i]?=some bs[i]:=by simp
      rw[hb];exact hx _ (qc8 _)
   rw[e];have I1:Bd X Ae σ H { s with heap:=h',toks:=tk }:=I.kept (fun b o e=>k b o (by simp;exact qc7 (qb0 e)) (qa7 _ e));exact⟨.bl (bs.all id),H,I1,rfl,q⟩
end
structure Has(P:Program)(w:World)(K:W.Frag)(mg:Str->Option Value)(base:Heap)(x:Str)(ps:List Str)(k:Nat)(sp:Sp):Prop where
 ex:∃(f:Addr) (fd:FuncData),mg x=some (.ref f)/\W.keepIn K (.ref f)=true/\Lp K fd ps []/\Bt P w K mg base Dw k f fd ps sp
section
variable{X:Cx}{x:Str}{ps:List Str}{j k:Nat}{sp:Sp}{p pos:Pos}{e:Expr}{es:List Expr}{t:TA}
theorem Ak(h:Has X.prog X.w X.K X.mg X.base x ps j sp)(hr:Fr k X.A)(ha:PA X (e::es) t)(hg:Gl X x:=by rfl)(hk:j<=k:=by decide)(hdb:(x==("__debug__":Str))=false:=by decide)
 (he:starEach (e::es) X.env=(false,eval e X.env)::starEach es X.env:=by rfl) (hpl:(backTo pos (starEach es X.env)).any (·.1)=false:=by rfl):PE X (.Call (.Name x p) (e::es) [] pos) (tCall sp [] E0 t):=by
 obtain⟨f,fd,h1,h2,h3,h4⟩:=h.ex;exact gJ h4 (hr.mono hk) hg h1 h2 h3 .nil dI ha hdb he hpl
end
theorem boot_intT:bootBuiltins "int"=some (.type "int"):=by decide +kernel
theorem S7:bootBuiltins "bool"=some (.type "bool"):=by decide +kernel
theorem F5:bootBuiltins "str"=some (.type "str"):=by decide +kernel
theorem C1:bootBuiltins "tuple"=some (.type "tuple"):=by decide +kernel
theorem Ez:bootBuiltins "list"=some (.type "list"):=by decide +kernel
theorem u4:bootBuiltins "dict"=some (.type "dict"):=by decide +kernel
theorem Lz:bootBuiltins "max"=some (.builtin "max"):=by decide +kernel
theorem Vp:bootBuiltins "min"=some (.builtin "min"):=by decide +kernel
theorem Gz:bootBuiltins "all"=some (.builtin "all"):=by decide +kernel
theorem Bn:bootBuiltins "isinstance"=some (.builtin "isinstance"):=by decide +kernel
end L2
namespace L2
open PySem PySem.Spec PyProof.Rows
section
variable{X:Cx}{K:W.Frag}{tg l:Expr}{tl:TE}{n:Nat}
theorem K8(hK:X.K=K:=by rfl):OpR X (binaryOp .Add) (iM K):=by subst hK;exact GK
theorem Ds(hK:X.K=K:=by rfl):OpR X (binaryOp .Add) (cZ K):=by subst hK;exact DI
theorem Hn(hK:X.K=K:=by rfl):LO X (IK K):=by subst hK;exact FW
theorem Je(hK:X.K=K:=by rfl):LO X (nB K):=by subst hK;exact fX
theorem Ah(hK:X.K=K:=by rfl):aR X (JN K):=by subst hK;exact AA
theorem Bc(hK:X.K=K:=by rfl):aR X (gC K):=by subst hK;exact DZ
theorem aA(hK:X.K=K:=by rfl):aR X (tP K):=by subst hK;exact kR
theorem Ai(hK:X.K=K:=by rfl):E9 X (.builtin "len") (fun xs H Q=>∃p ys,xs=[.ref p]/\(SqL K H p ys\/Dv K H p ys)/\Q (.int ys.length) H):=by subst hK;exact Xp
theorem Ga(hK:X.K=K:=by rfl):E9 X (.type "list") (fun xs H Q=>∃p ys,xs=[.ref p]/\(SqL K H p ys\/Dv K H p ys)/\∀l,H l=none->Q (.ref l) (upd H l (.lst ys))):=by subst hK;exact Xo
theorem De(hK:X.K=K:=by rfl):E9 X (.type "tuple") (fun xs H Q=>∃p ys,xs=[.ref p]/\((SqL K H p ys/\∀l,H l=none->Q (.ref l) (upd H l (.tup ys)))\/(Dv K H p ys/\Q (.ref p) H))):=by subst hK;exact T5
theorem Cf(hK:X.K=K:=by rfl):E9 X (.builtin "isinstance") (fun xs H Q=>∃x n d,xs=[x,.ty n]/\(n="int"\/n="bool"\/n="str"\/n="tuple"\/n="list"\/n="dict")/\Rep K H x d/\Q (.bl (Wv n d)) H):=by subst hK;exact Lk
theorem F1(hc:X.calm=true)(hK:X.K=K:=by rfl):E9 X (.builtin "all") (fun xs H Q=>∃(p:Addr) (bs:List Bool),xs=[.ref p]/\SqL K H p (bs.map V.bl)/\Q (.bl (bs.all id)) H):=by subst hK;exact cE hc
theorem Wt(hu:X.A.units+n<cLine)(hK:X.K=K:=by rfl):OpR X (compareOp .In) (GC K n false):=by subst hK;exact jT hu
theorem Fz(hu:X.A.units+n<cLine)(hK:X.K=K:=by rfl):OpR X (compareOp .NotIn) (GC K n true):=by subst hK;exact bC hu
theorem GY(hu:X.A.units+n<cLine)(hK:X.K=K:=by rfl):OpR X (compareOp .Eq) (rEqD K n):=by subst hK;exact JT hu
theorem Pg(hu:X.A.units+n<cLine)(hK:X.K=K:=by rfl):MtR X "list.index" (CY K n):=by subst hK;exact DT hu
theorem Bi(hl:PE X l tl)(hK:X.K=K:=by rfl):PI X tg l (IP K tl):=by subst hK;exact gG hl
theorem Et(hl:PE X l tl)(hK:X.K=K:=by rfl):PI X tg l (NV K tl):=by subst hK;exact jP hl
variable{o e:Expr}{es:List Expr}{to:TE}{t:TA}{name:Str}{apos cpos:Pos}{T id:String}{r:V->List V->Hp->VK->Prop}
theorem B0(pa:PlainAttrs T)(slot:Slot T name id)(hty:typeOf (.builtin id)=pure (.type "method_descriptor"))(hm:MtR X id r)(ho:PE X o to)(ha:PA X (e::es) t)(hK:X.K=K:=by rfl)
 (hbase:attributeBase o name X.env (eval o X.env)=eval o X.env:=by rfl)
 (hfew:((backTo cpos (starEach (e::es) X.env)).all (fun x=>!x.1)&&(backToKw cpos (keywordEach [] X.env)).all (fun x=>x.1.isSome)
   && decide ((e::es).length+([]:List Keyword).length+(if ([]:List Keyword).isEmpty then 0 else 1)<30))=true:=by rfl)
 (hline:(apos.endLine==cpos.line)=true:=by rfl) (hs:starEach (e::es) X.env=(false,eval e X.env)::starEach es X.env:=by rfl) (hplain:(backTo cpos (starEach es X.env)).any (·.1)=false:=by rfl) :
 PE X (.Call (.Attribute o name apos) (e::es) [] cpos) (tK K T r to t):=by subst hK;exact NI pa slot hty hm ho ha hbase hfew hline hs hplain
theorem Fj{es:List Expr}{k:Nat}{t:IY}{n:Nat}{pos:Pos}(hc:X.calm=true)(h:OU X es t)(hK:X.K=K:=by rfl)
 (hn:(assignEach es X.env).length=n:=by rfl) (hst:(assignEach es X.env).findIdx? (·.1)=none:=by rfl):PG X (.Tuple es k pos) (OF K n t):=by subst hK;exact jQ hc h hn hst
end
end L2
namespace Hb
noncomputable def Ar(w:List Int)(fam:Int):LLInt :=
 if fam=0 then(if w.length<2 then [] else(List.range w.length).map fun i=>w.take i++w.drop (i+1))
 else if w.length=0 then []
 else if fam<0 then(if w.length=1 then [[],[]] else w.map fun l=>[l])
 else w.drop 1::((List.range (w.length-1)).map fun i=>w.take i++[(w.getD i 0+w.getD (i+1) 0)%fam]++w.drop (i+2))++[w.take (w.length-1)]
noncomputable def D6(fam:Int)(w:List Int):Prop :=
 (fam=0/\1<=w.length/\w.length<=4)\/(fam<0/\(w.length=0\/w.length=1\/w.length=3))\/(0<fam/\w.length<=3)
noncomputable def lv(fam:Int)(w:List Int):Nat:=if fam=0 then w.length-1 else if fam<0 then(if w.length=3 then 2 else w.length) else w.length
theorem Mq{fam:Int}{w:List Int}(h:D6 fam w) :
 (fam=0/\((∃a,w=[a])\/(∃a b,w=[a,b])\/(∃a b c,w=[a,b,c])\/∃a b c d,w=[a,b,c,d])) ∨
 (fam<0/\(w=[]\/(∃a,w=[a])\/∃a b c,w=[a,b,c])) ∨
 (0<fam/\(w=[]\/(∃a,w=[a])\/(∃a b,w=[a,b])\/∃a b c,w=[a,b,c])):=by
 rcases h with⟨h0,h1,h2⟩|⟨h0,h1⟩|⟨h0,h1⟩
 . left;refine⟨h0,?_⟩
   match w,h1,h2 with
   | [a],_,_=>exact .inl ⟨a,rfl⟩
   | [a,b],_,_=>exact .inr (.inl ⟨a,b,rfl⟩)
   | [a,b,c],_,_=>exact .inr (.inr (.inl ⟨a,b,c,rfl⟩))
   | [a,b,c,d],_,_=>exact .inr (.inr (.inr ⟨a,b,c,d,rfl⟩))
   | _::_::_::_::_::_,_,h=>simp at h
 . right;left;refine⟨h0,?_⟩
   match w,h1 with
   | [],_=>exact .inl rfl
   | [a],_=>exact .inr (.inl ⟨a,rfl⟩)
   | [a,b],h=>simp at h
   | [a,b,c],_=>exact .inr (.inr ⟨a,b,c,rfl⟩)
   | _::_::_::_::_,h=>simp at h
 . right;right;refine⟨h0,?_⟩
   match w,h1 with
   | [],_=>exact .inl rfl
   | [a],_=>exact .inr (.inl ⟨a,rfl⟩)
   | [a,b],_=>exact .inr (.inr (.inl ⟨a,b,rfl⟩))
   | [a,b,c],_=>exact .inr (.inr (.inr ⟨a,b,c,rfl⟩))
   | _::_::_::_::_,h=>simp at h
theorem oN(a:Int):Ar [a] 0=[]:=rfl
theorem OM(a b:Int):Ar [a,b] 0=[[b],[a]]:=rfl
theorem lG(a b c:Int):Ar [a,b,c] 0=[[b,c],[a,c],[a,b]]:=rfl
theorem LF(a b c d:Int):Ar [a,b,c,d] 0=[[b,c,d],[a,c,d],[a,b,d],[a,b,c]]:=rfl
section
variable{fam:Int}
theorem OL(h:fam<0):Ar [] fam=[]:=by unfold Ar;rw[if_neg (by omega),if_pos (by simp)]
theorem ER(h:fam<0)(a:Int):Ar [a] fam=[[],[]]:=by unfold Ar;rw[if_neg (by omega),if_neg (by simp),if_pos h,if_pos (by simp)]
theorem LD(h:fam<0)(a b c:Int):Ar [a,b,c] fam=[[a],[b],[c]]:=by unfold Ar;rw[if_neg (by omega),if_neg (by simp),if_pos h,if_neg (by simp)];rfl
theorem OJ(h:0<fam):Ar [] fam=[]:=by unfold Ar;rw[if_neg (by omega),if_pos (by simp)]
theorem eO(h:0<fam)(a:Int):Ar [a] fam=[[],[]]:=by unfold Ar;rw[if_neg (by omega),if_neg (by simp),if_neg (by omega)];rfl
theorem W9(h:0<fam)(a b:Int):Ar [a,b] fam=[[b],[(a+b)%fam],[a]]:=by unfold Ar;rw[if_neg (by omega),if_neg (by simp),if_neg (by omega)];rfl
theorem lD(h:0<fam)(a b c:Int):Ar [a,b,c] fam=[[b,c],[(a+b)%fam,c],[a,(b+c)%fam],[a,b]]:=by unfold Ar;rw[if_neg (by omega),if_neg (by simp),if_neg (by omega)];rfl
theorem Kb{w f:List Int}(h:D6 fam w)(hf:f∈Ar w fam):D6 fam f/\lv fam f+1=lv fam w:=by
 rcases Mq h with⟨h0,⟨a,rfl⟩|⟨a,b,rfl⟩|⟨a,b,c,rfl⟩|⟨a,b,c,d,rfl⟩⟩|⟨h0,rfl|⟨a,rfl⟩|⟨a,b,c,rfl⟩⟩|⟨h0,rfl|⟨a,rfl⟩|⟨a,b,rfl⟩|⟨a,b,c,rfl⟩⟩
 . subst h0;rw[oN]at hf;exact nomatch hf
 . subst h0;rw[OM]at hf;simp only[qb7,qe8,or_false]at hf;rcases hf with rfl | rfl<;>simp[D6,lv]
 . subst h0;rw[lG]at hf;simp only[qb7,qe8,or_false]at hf;rcases hf with rfl | rfl | rfl<;>simp[D6,lv]
 . subst h0;rw[LF]at hf;simp only[qb7,qe8,or_false]at hf;rcases hf with rfl | rfl | rfl | rfl<;>simp[D6,lv]
 . rw[OL h0]at hf;exact nomatch hf
 . rw[ER h0]at hf;simp only[qb7,qe8,or_false,or_self]at hf;subst hf;have e:¬fam=0:=O9m
   simp[D6,lv,h0,e]
 . rw[LD h0]at hf;have e:¬fam=0:=O9m
   simp only[qb7,qe8,or_false]at hf;rcases hf with rfl | rfl | rfl<;>simp[D6,lv,h0,e]
 . rw[OJ h0]at hf;exact nomatch hf
 . rw[eO h0]at hf;have e:¬fam=0:=O9m
   have e':¬fam<0:=O9m
   simp only[qb7,qe8,or_false,or_self]at hf;subst hf;simp[D6,lv,h0,e,e']
 . rw[W9 h0]at hf;have e:¬fam=0:=O9m
   have e':¬fam<0:=O9m
   simp only[qb7,qe8,or_false]at hf;rcases hf with rfl | rfl | rfl<;>simp[D6,lv,h0,e,e']
 . rw[lD h0]at hf;have e:¬fam=0:=O9m
   have e':¬fam<0:=O9m
   simp only[qb7,qe8,or_false]at hf;rcases hf with rfl | rfl | rfl | rfl<;>simp[D6,lv,h0,e,e']
theorem Gy{w:List Int}(h:D6 fam w):(Ar w fam).length=(if lv fam w=0 then 0 else lv fam w+1)/\lv fam w<=3:=by
 rcases Mq h with⟨h0,⟨a,rfl⟩|⟨a,b,rfl⟩|⟨a,b,c,rfl⟩|⟨a,b,c,d,rfl⟩⟩|⟨h0,rfl|⟨a,rfl⟩|⟨a,b,c,rfl⟩⟩|⟨h0,rfl|⟨a,rfl⟩|⟨a,b,rfl⟩|⟨a,b,c,rfl⟩⟩
 . subst h0;simp[oN,lv]
 . subst h0;simp[OM,lv]
 . subst h0;simp[lG,lv]
 . subst h0;simp[LF,lv]
 all_goals have e:¬fam=0:=O9m
 . simp[OL h0,lv,e,h0]
 . simp[ER h0,lv,e,h0]
 . simp[LD h0,lv,e,h0]
 all_goals have e':¬fam<0:=O9m
 . simp[OJ h0,lv,e,e']
 . simp[eO h0,lv,e,e']
 . simp[W9 h0,lv,e,e']
 . simp[lD h0,lv,e,e']
theorem faces_agree{w f g:List Int}{i j:Nat}(h:D6 fam w)(hl:2<=lv fam w)(hij:i<j)(hf:(Ar w fam)[j]?=some f)(hg:(Ar w fam)[i]?=some g):(Ar f fam)[i]?=(Ar g fam)[j-1]?:=by
 have hj:j<(Ar w fam).length:=(qa2.mp hf).1;rcases Mq h with⟨h0,⟨a,rfl⟩|⟨a,b,rfl⟩|⟨a,b,c,rfl⟩|⟨a,b,c,d,rfl⟩⟩|⟨h0,rfl|⟨a,rfl⟩|⟨a,b,c,rfl⟩⟩|⟨h0,rfl|⟨a,rfl⟩|⟨a,b,rfl⟩|⟨a,b,c,rfl⟩⟩
 . subst h0;simp[lv]at hl
 . subst h0;simp[lv]at hl
 . subst h0;rw[lG]at hf hg hj;have hc:(i=0/\j=1)\/(i=0/\j=2)\/(i=1/\j=2):=by simp at hj;omega
   rcases hc with⟨rfl,rfl⟩|⟨rfl,rfl⟩|⟨rfl,rfl⟩
   . simp at hf hg;subst hf hg;rfl
   . simp at hf hg;subst hf hg;rfl
   . simp at hf hg;subst hf hg;rfl
 . subst h0;rw[LF]at hf hg hj;have hc:(i=0/\j=1)\/(i=0/\j=2)\/(i=0/\j=3)\/(i=1/\j=2)\/(i=1/\j=3)\/(i=2/\j=3):=by simp at hj;omega
   rcases hc with⟨rfl,rfl⟩|⟨rfl,rfl⟩|⟨rfl,rfl⟩|⟨rfl,rfl⟩|⟨rfl,rfl⟩|⟨rfl,rfl⟩
   . simp at hf hg;subst hf hg;rfl
   . simp at hf hg;subst hf hg;rfl
   . simp at hf hg;subst hf hg;rfl
   . simp at hf hg;subst hf hg;rfl
   . simp at hf hg;subst hf hg;rfl
   . simp at hf hg;subst hf hg;rfl
 all_goals have e:¬fam=0:=O9m
 . simp[lv,e,h0]at hl
 . simp[lv,e,h0]at hl
 . rw[LD h0]at hf hg hj;have hc:(i=0/\j=1)\/(i=0/\j=2)\/(i=1/\j=2):=by simp at hj;omega
   rcases hc with⟨rfl,rfl⟩|⟨rfl,rfl⟩|⟨rfl,rfl⟩
   . simp at hf hg;subst hf hg;simp[ER h0]
   . simp at hf hg;subst hf hg;simp[ER h0]
   . simp at hf hg;subst hf hg;simp[ER h0]
 all_goals have e':¬fam<0:=O9m
 . simp[lv,e,e']at hl
 . simp[lv,e,e']at hl
 . rw[W9 h0]at hf hg hj;have hc:(i=0/\j=1)\/(i=0/\j=2)\/(i=1/\j=2):=by simp at hj;omega
   rcases hc with⟨rfl,rfl⟩|⟨rfl,rfl⟩|⟨rfl,rfl⟩
   . simp at hf hg;subst hf hg;simp[eO h0]
   . simp at hf hg;subst hf hg;simp[eO h0]
   . simp at hf hg;subst hf hg;simp[eO h0]
 . rw[lD h0]at hf hg hj;have hc:(i=0/\j=1)\/(i=0/\j=2)\/(i=0/\j=3)\/(i=1/\j=2)\/(i=1/\j=3)\/(i=2/\j=3):=by simp at hj;omega
   rcases hc with⟨rfl,rfl⟩|⟨rfl,rfl⟩|⟨rfl,rfl⟩|⟨rfl,rfl⟩|⟨rfl,rfl⟩|⟨rfl,rfl⟩
   . simp at hf hg;subst hf hg;simp[W9 h0]
   . simp at hf hg;subst hf hg;simp[W9 h0]
   . simp at hf hg;subst hf hg;simp[W9 h0]
   . skip
     simp at hf hg;subst hf hg;simp only[W9 h0,qn6,qm0,Nat.add_one_sub_one]
     congr 2
     rw[Int.add_emod_emod,Int.emod_add_emod,Int.add_assoc]
   . simp at hf hg;subst hf hg;simp[W9 h0]
   . simp at hf hg;subst hf hg;simp[W9 h0]
end
noncomputable def lev(p:List Int):Nat:=p.length-1
structure ID(xs:LLInt)(p:List Int):Prop where
 cnt:p.length=0\/p.length=2\/p.length=3\/p.length=4
 low:∀f∈p,0<=f
 bel:∀f∈p,∃q,xs[f.toNat]?=some q/\lev q+1=lev p
 agr:3<=p.length->∀(i j:Nat) (f g:Int) (q r:List Int),i<j->p[j]?=some f->p[i]?=some g->xs[f.toNat]?=some q->xs[g.toNat]?=some r->q[i]?=r[j-1]?
noncomputable def Br(xs:LLInt):Prop:=∀(k:Nat) (p:List Int),xs[k]?=some p->ID (xs.take k) p
noncomputable def AQ(fam:Int)(ws:LLInt):Prop:=∀(k:Nat) (w:List Int),ws[k]?=some w->D6 fam w/\∀f∈Ar w fam,f∈ws.take k
theorem AQ.nil{fam:Int}:AQ fam []:=fun k w h=>by simp at h
theorem AQ.snoc{fam:Int}{ws:LLInt}{w:List Int}(h:AQ fam ws)(hw:D6 fam w)(hf:∀f∈Ar w fam,f∈ws):AQ fam (ws++[w]):=by
 intro k v hk;by_cases hlt:k<ws.length
 . rw[qf8 hlt]at hk;rw[qj8 (by omega)];exact h k v hk
 . have hk':k<(ws++[w]).length:=(qa2.mp hk).1;have e:k=ws.length:=by simp at hk';omega
   subst e;simp at hk;subst hk;rw[qj8 (qa9 _),qb4];exact⟨hw,hf⟩
theorem AQ.mem{fam:Int}{ws:LLInt}(h:AQ fam ws){w:List Int}(hw:w∈ws):D6 fam w/\∀f∈Ar w fam,f∈ws:=by
 obtain⟨k,hk⟩:=qc6 hw;obtain⟨h1,h2⟩:=h k w hk;exact⟨h1,fun f hf=>qf3 (h2 f hf)⟩
noncomputable def Dm(ws:LLInt):LLInt->LLInt
 | []=>ws
 | w::r=>Dm (if w∈ws then ws else ws++[w]) r
theorem Tf:∀(rows ws:LLInt),(Dm ws rows).length<=ws.length+rows.length
 | [],ws=>by simp[Dm]
 | w::r,ws=>by
   have h1:=Tf r (if w∈ws then ws else ws++[w])
   have h2:(if w∈ws then ws else ws++[w]).length<=ws.length+1:=by
    split
    . omega
    . simp
   simp only[Dm,qe3];omega
theorem Te{fam:Int}:∀(rows ws:LLInt),AQ fam ws->(∀(k:Nat) (w:List Int),rows[k]?=some w->D6 fam w/\∀f∈Ar w fam,f∈ws\/f∈rows.take k)->AQ fam (Dm ws rows)
 | [],ws,h,_=>h
 | w::r,ws,h,hr=>by
   have h0:=hr 0 w rfl;have hw:∀f∈Ar w fam,f∈ws:=fun f hf=>(h0.2 f hf).resolve_right (by simp);simp only[Dm];refine Te r _ ?_ fun k v hk=>?_
   . split
     . exact h
     . exact h.snoc h0.1 hw
   . obtain⟨h1,h2⟩:=hr (k+1) v (by simpa using hk);refine⟨h1,fun f hf=>?_⟩;rcases h2 f hf with z | z
     . left;split
       . exact z
       . exact ql1 _ z
     . rw[qp5]at z;rcases qb7.mp z with z | z
       . left;subst z;split
         . assumption
         . simp
       . exact .inr z
noncomputable def Cn(ws:LLInt):LLInt->LLInt->LLInt
 | acc,[]=>acc
 | acc,f::r=>Cn ws (if f ∉ ws/\f ∉ acc then acc++[f] else acc) r
theorem Tc{ws:LLInt}{x:List Int}:∀(fs acc:LLInt),x∈Cn ws acc fs->x∈acc\/x∈fs
 | [],acc,h=>.inl h
 | f::r,acc,h=>by
   rcases Tc r _ h with z | z
   . split at z
     . rcases qd5.mp z with z | z
       . exact .inl z
       . exact .inr (by simp at z;simp[z])
     . exact .inl z
   . exact .inr (qc1 _ z)
theorem Lm{ws:LLInt}{x:List Int}:∀(fs acc:LLInt),x∈acc->x∈Cn ws acc fs
 | [],acc,h=>h
 | f::r,acc,h=>Lm r _ (by split;exact ql1 _ h;exact h)
theorem Td{ws:LLInt}{x:List Int}:∀(fs acc:LLInt),x∈fs->x∈ws\/x∈Cn ws acc fs
 | f::r,acc,h=>by
   rcases qb7.mp h with e | e
   . subst e;by_cases h1:x∈ws
     . exact .inl h1
     . right;refine Lm r _ ?_;by_cases h2:x∈acc
       . rw[if_neg (by simp[h2])];exact h2
       . rw[if_pos ⟨h1,h2⟩];simp
   . exact Td r _ e
theorem Nk{ws:LLInt}:∀(fs acc:LLInt),(Cn ws acc fs).length<=acc.length+fs.length
 | [],acc=>by simp[Cn]
 | f::r,acc=>by
   have h1:=Nk (ws:=ws) r (if f ∉ ws/\f ∉ acc then acc++[f] else acc)
   have h2:(if f ∉ ws/\f ∉ acc then acc++[f] else acc).length<=acc.length+1:=by
    split
    . simp
    . omega
   simp only[Cn,qe3];omega
noncomputable def Dh(ws:LLInt)(fam:Int):LLInt->LLInt->LLInt
 | acc,[]=>acc
 | acc,w::r=>Dh ws fam (Cn ws acc (Ar w fam)) r
theorem L3{ws:LLInt}{fam:Int}{x:List Int}:∀(l acc:LLInt),x∈Dh ws fam acc l->x∈acc\/∃w∈l,x∈Ar w fam
 | [],acc,h=>.inl h
 | w::r,acc,h=>by
   rcases L3 r _ h with z|⟨v,hv,z⟩
   . rcases Tc _ _ z with z | z
     . exact .inl z
     . exact .inr ⟨w,qd9,z⟩
   . exact .inr ⟨v,qc1 _ hv,z⟩
theorem S9{ws:LLInt}{fam:Int}{x:List Int}:∀(l acc:LLInt),x∈acc->x∈Dh ws fam acc l
 | [],acc,h=>h
 | w::r,acc,h=>S9 r _ (Lm _ _ h)
theorem Vv{ws:LLInt}{fam:Int}{x w:List Int}:∀(l acc:LLInt),w∈l->x∈Ar w fam->x∈ws\/x∈Dh ws fam acc l
 | v::r,acc,h,hx=>by
   rcases qb7.mp h with e | e
   . subst e;rcases Td (ws:=ws) _ acc hx with z | z
     . exact .inl z
     . exact .inr (S9 r _ z)
   . exact Vv r _ e hx
theorem Jl{ws:LLInt}{fam:Int}:∀(l acc:LLInt),(∀w∈l,D6 fam w)->(Dh ws fam acc l).length<=acc.length+4*l.length
 | [],acc,_=>by simp[Dh]
 | w::r,acc,h=>by
   have h1:=Jl (ws:=ws) r (Cn ws acc (Ar w fam)) fun v hv=>h v (qc1 _ hv);have h2:=Nk (ws:=ws) (Ar w fam) acc;have h3:=Gy (h w qd9);simp only[Dh,qe3];split at h3<;>omega
theorem Qg(ws:LLInt)(f:List Int):∀(fs acc:LLInt),Cn ws acc (fs++[f])=(if f ∉ ws/\f ∉ Cn ws acc fs then Cn ws acc fs++[f] else Cn ws acc fs)
 | [],acc=>rfl
 | g::fs,acc=>Qg ws f fs _
theorem S8(ws:LLInt)(fam:Int)(w:List Int):∀(l acc:LLInt),Dh ws fam acc (l++[w])=Cn ws (Dh ws fam acc l) (Ar w fam)
 | [],acc=>rfl
 | v::l,acc=>S8 ws fam w l _
theorem Qh(w:List Int):∀(rows ws:LLInt),Dm ws (rows++[w])=(if w∈Dm ws rows then Dm ws rows else Dm ws rows++[w])
 | [],ws=>rfl
 | v::rows,ws=>Qh w rows _
noncomputable def J3(ws:LLInt)(fam:Int):Nat->LLInt->LLInt->LLInt
 | 0,layer,rows=>rows
 | n+1,layer,rows=>J3 ws fam n (Dh ws fam [] layer) (layer++rows)
theorem U4{ws:LLInt}{fam:Int}:∀(n:Nat) (layer rows:LLInt),(∀w∈layer,D6 fam w/\lv fam w<n) →
 (∀(k:Nat) (w:List Int),rows[k]?=some w->D6 fam w/\∀f∈Ar w fam,f∈ws\/f∈layer\/f∈rows.take k) →
 ∀(k:Nat) (w:List Int),(J3 ws fam n layer rows)[k]?=some w->D6 fam w/\∀f∈Ar w fam,f∈ws\/f∈(J3 ws fam n layer rows).take k
 | 0,layer,rows,hl,hr,k,w,hk=>by
   obtain⟨h1,h2⟩:=hr k w hk;refine⟨h1,fun f hf=>?_⟩;rcases h2 f hf with z | z | z
   . exact .inl z
   . exact absurd (hl f z).2 O9m
   . exact .inr z
 | n+1,layer,rows,hl,hr,k,w,hk=>by
   refine U4 n _ _ ?_ ?_ k w hk
   . intro v hv;rcases L3 _ _ hv with z|⟨u,hu,z⟩
     . exact nomatch z
     . obtain⟨q1,q2⟩:=hl u hu;obtain⟨q3,q4⟩:=Kb q1 z;exact⟨q3,O9m⟩
   . intro m v hm;by_cases hlt:m<layer.length
     . rw[qf8 hlt]at hm;have hv:v∈layer:=qa8 hm;refine⟨(hl v hv).1,fun f hf=>?_⟩;rcases Vv (ws:=ws) layer [] hv hf with z | z
       . exact .inl z
       . exact .inr (.inl z)
     . rw[qk9 (by omega)]at hm;obtain⟨h1,h2⟩:=hr _ v hm;refine⟨h1,fun f hf=>?_⟩;rcases h2 f hf with z | z | z
       . exact .inl z
       . right;right;rw[List.take_append];refine ql1 _ ?_;rw[qf2 (by omega)];exact z
       . right;right;rw[List.take_append];exact qf1 _ z
noncomputable def Lq(ws:LLInt)(w:List Int)(fam:Int):LLInt:=Dm ws (J3 ws fam 4 [w] [])
theorem Tk{ws:LLInt}{w:List Int}{fam:Int}(h:AQ fam ws)(hw:D6 fam w):AQ fam (Lq ws w fam):=by
 refine Te _ _ h (U4 4 [w] [] ?_ ?_)
 . intro v hv;have e:v=w:=by simpa using hv
   subst e;exact⟨hw,by have:=(Gy hw).2;omega⟩
 . intro k v hk;simp at hk
noncomputable def Wx(ws:LLInt)(f:List Int):Nat:=ws.findIdx (·==f)
theorem HC{ws:LLInt}{f:List Int}(h:f∈ws):ws[Wx ws f]?=some f:=by
 unfold Wx;have hl:ws.findIdx (·==f)<ws.length:=qq7 ⟨f,h,by simp⟩;rw[qa0 hl];have:=List.findIdx_getElem (xs:=ws) (p:=(·==f)) (w:=hl);simpa using this
theorem kT{ws:LLInt}{f:List Int}{k:Nat}(h:f∈ws.take k):Wx ws f<k:=by
 unfold Wx;obtain⟨i,hi⟩:=qc6 h;have hlt:i<(ws.take k).length:=(qa2.mp hi).1;rw[qq4]at hi;split at hi
 . rename_i hik
   have hl:i<ws.length:=(qa2.mp hi).1
   have e:ws[i]=f:=by
    rw[qa0 hl]at hi;exact qb6 hi
   have hle:ws.findIdx (·==f)<=i:=by
    apply Nat.le_of_not_lt;intro hgt;have:=List.not_of_lt_findIdx hgt;simp[e]at this
   omega
 . cases hi
noncomputable def Jp(ws:LLInt)(fam:Int):LLInt:=ws.map fun w=>(Ar w fam).map fun f=>(Wx ws f:Int)
theorem Yb{ws:LLInt}{fam:Int}{k:Nat}{w:List Int}(h:ws[k]?=some w):(Jp ws fam)[k]?=some ((Ar w fam).map fun f=>(Wx ws f:Int)):=by
 unfold Jp;rw[qa3,h];rfl
theorem Tn{ws:LLInt}{fam:Int}(h:AQ fam ws):Br (Jp ws fam):=by
 intro k p hp;unfold Jp at hp;rw[qa3]at hp;cases hw:ws[k]? with
 | none=>rw[hw]at hp;cases hp
 | some w =>
   rw[hw]at hp;have wK:(Ar w fam).map (fun f=>(Wx ws f:Int))=p:=by simpa using hp
   subst wK;obtain⟨h1,h2⟩:=h k w hw;obtain⟨n1,n2⟩:=Gy h1
   have look:∀f∈Ar w fam,((Jp ws fam).take k)[((Wx ws f:Nat):Int).toNat]?=some ((Ar f fam).map fun g=>(Wx ws g:Int)):=fun f hf=>by
    have hm:=h2 f hf;have hlt:=kT hm;rw[qb9,qq4,if_pos hlt];exact Yb (HC (qf3 hm))
   refine⟨?_,?_,?_,?_⟩
   . rw[qa1];by_cases hz:lv fam w=0
     . rw[if_pos hz]at n1;omega
     . rw[if_neg hz]at n1;omega
   . intro f hf;obtain⟨g,_,rfl⟩:=qe2.mp hf;omega
   . intro f hf;obtain⟨g,hg,rfl⟩:=qe2.mp hf;refine⟨_,look g hg,?_⟩;obtain⟨w1,l1⟩:=Kb h1 hg;obtain⟨m1,_⟩:=Gy w1;unfold lev;rw[qa1,qa1];have hz:¬lv fam w=0:=O9m
     rw[if_neg hz]at n1;by_cases hy:lv fam g=0
     . rw[if_pos hy]at m1;omega
     . rw[if_neg hy]at m1;omega
   . intro hl i j f g q r hij hf hg hq hr;rw[qa1]at hl;rw[qa3]at hf hg;cases ef:(Ar w fam)[j]? with
     | none=>rw[ef]at hf;cases hf
     | some F =>
       cases eg:(Ar w fam)[i]? with
       | none=>rw[eg]at hg;cases hg
       | some G =>
         rw[ef]at hf;rw[eg]at hg;have xQ:((Wx ws F:Nat):Int)=f:=by simpa using hf
         have XO:((Wx ws G:Nat):Int)=g:=by simpa using hg
         subst xQ XO;rw[look F (qa8 ef)]at hq;rw[look G (qa8 eg)]at hr;cases hq;cases hr;have hz:¬lv fam w=0:=by intro z;rw[if_pos z]at n1;omega
         rw[if_neg hz]at n1;rw[qa3,qa3,faces_agree h1 (by omega) hij ef eg]
theorem j6{ws:LLInt}{fam:Int}{w:List Int}(hw:D6 fam w):(J3 ws fam 4 [w] []).length<=85:=by
 have step:∀l:LLInt,(∀v∈l,D6 fam v)->(Dh ws fam [] l).length<=4*l.length/\∀v∈Dh ws fam [] l,D6 fam v:=fun l hl=>by
  refine⟨by have:=Jl (ws:=ws) l [] hl;simpa using this,fun v hv=>?_⟩;rcases L3 _ _ hv with z|⟨u,hu,z⟩
  . exact nomatch z
  . exact(Kb (hl u hu) z).1
 have s0:∀v∈[w],D6 fam v:=fun v hv=>by
  have e:v=w:=by simpa using hv
  subst e;exact hw
 obtain⟨a1,b1⟩:=step _ s0;obtain⟨a2,b2⟩:=step _ b1;obtain⟨a3,b3⟩:=step _ b2;simp only[J3,qb8,qh1,qe3]at a1 a2 a3 ⊢;omega
section
variable{xs:LLInt}
end
end Hb
namespace Hb
open PySem L2
noncomputable def Ni(ns:List Int)(k:Int):Int:=ns.getD k.toNat 0
noncomputable abbrev LT(K:W.Frag)(H:Hp)(v:V)(xs:LLInt):Prop:=Rep K H v (.lst (xs.map tI))
noncomputable abbrev TI(K:W.Frag)(H:Hp)(v:V)(ns:List Int):Prop:=Rep K H v (tI ns)
section
variable{K:W.Frag}{H H':Hp}
theorem TI.sq{v:V}{ns:List Int}(h:TI K H v ns):∃a,v=.ref a/\Dv K H a (ns.map V.int):=by
 obtain⟨a,vs,e,q,r⟩:=h;rw[Dr.mp r]at q;exact⟨a,e,q⟩
theorem TI.mk{a:Addr}{ns:List Int}(h:Dv K H a (ns.map V.int)):TI K H (.ref a) ns:=⟨a,_,rfl,h,Dr.mpr rfl⟩
theorem qm4{v:V}{ns:List Int}(s:Same H H')(h:TI K H v ns):TI K H' v ns:=Rep.same s h
theorem TI.t{v:V}{ns:List Int}(s:Om H H')(h:TI K H v ns):TI K H' v ns:=Rep.t s (EB ns) h
theorem Lj(xs:List V)(k:Nat):cutV xs none (some (k:Int))=xs.take k:=by
 unfold cutV;rw[HT.sIx_none,HT.sIx_nat,Nat.sub_zero,qn0,List.take_eq_take_iff];omega
theorem Sz(xs:List V)(k:Nat):cutV xs (some (k:Int)) none=xs.drop k:=by
 unfold cutV;rw[HT.sIx_none,HT.sIx_nat];by_cases h:k<=xs.length
 . rw[Nat.min_eq_left h,qf2 (by rw[qh4];omega)]
 . rw[Nat.min_eq_right (by omega),List.drop_length,List.drop_of_length_le (by omega)];simp
theorem AZ{D:Addr}{ys:List V}{v:V}{d:L2.D}{ds:List L2.D}(hD:H D=some (.lst ys))(r:Reps K H ys ds)(rv:Rep K H v d)(hi:imms (ds++[d])=true):Reps K (upd H D (.lst (ys++[v]))) (ys++[v]) (ds++[d]) :=
 (r.snoc rv).t (Om.lst hD) hi
theorem C4{D:Addr}{ys:List V}{v:V}{xs:LLInt}{x:List Int}(hD:H D=some (.lst ys))(r:Reps K H ys (xs.map tI))(rv:TI K H v x):Reps K (upd H D (.lst (ys++[v]))) (ys++[v]) ((xs++[x]).map tI):=by
 have e:(xs++[x]).map tI=xs.map tI++[tI x]:=by simp
 have h:=Og (xs++[x]);rw[e]at h ⊢;exact AZ hD r rv h
noncomputable def Dk(B:Addr)(H H':Hp):Prop:=∀b o,b≠B->H b=some o->H' b=some o
theorem Dk.refl(B:Addr)(H:Hp):Dk B H H:=fun _ _ _ h=>h
theorem Dk.trans{B:Addr}{H H1 H2:Hp}(a:Dk B H H1)(b:Dk B H1 H2):Dk B H H2:=fun c o n h=>b c o n (a c o n h)
theorem Dk.of{B:Addr}{H H1:Hp}(a:Same H H1):Dk B H H1:=fun c o _ h=>a c o h
theorem Dk.upd{B:Addr}{H H1:Hp}{o:HO}(a:Dk B H H1):Dk B H (upd H1 B o):=fun c u n h=>by rw[A8 n];exact a c u n h
theorem Dk.t{B:Addr}{H H1:Hp}{us:List V}(a:Dk B H H1)(h:H B=some (.lst us)):Om H H1 :=
 ⟨fun b xs e=>a b _ (Yv e h (by intro z;cases z)) e,fun b o u e=>a b _ (Yv e h (by intro z;cases z)) e⟩
theorem Dk.same{B:Addr}{H0 H H1:Hp}(a:Dk B H H1)(s:Same H0 H)(h:H0 B=none):Same H0 H1:=fun b o e=>a b o (Be e h) (s b o e)
theorem E8:∀ns:List Int,deps (Bx ns)=0
 | []=>rfl
 | n::ns=>by show max (dep (.int n)) (deps (Bx ns))=0;rw[E8 ns];rfl
theorem Jk:∀xs:LLInt,deps (xs.map tI)<=1
 | []=>qb3 _
 | x::xs=>by
   have h1:=Jk xs;have h2:dep (tI x)=1:=by show deps (Bx x)+1=1;rw[E8]
   show max (dep (tI x)) (deps (xs.map tI))<=1;omega
theorem Ll(f:List Int):∀xs:LLInt,(xs.map tI).any (fun e=>eqD e (tI f))=decide (f∈xs)
 | []=>rfl
 | x::xs=>by
   rw[qf0,qi4,Ll f xs,ET];by_cases h:x=f
   . subst h;simp
   . have h':¬f=x:=fun z=>h z.symm;simp[h,h']
theorem Hz{c A B:Prop}[Decidable c](hc:c)(h:A):if c then A else B:=by rw[if_pos hc];exact h
theorem Dt{c A B:Prop}[Decidable c](hc:¬c)(h:B):if c then A else B:=by rw[if_neg hc];exact h
theorem pB{a b:Int}(h:¬a=b):(!decide (V.int a=V.int b))=true:=by simp[h]
theorem PR{a b:Int}(h:a=b):¬(!decide (V.int a=V.int b))=true:=by simp[h]
theorem vQ{a b:Int}(h:¬a=b):¬decide (V.int a=V.int b)=true:=by simp[h]
theorem Bp{g:TG}{te:TE}{D:Addr}{Q:Hp->Prop}{τ:St}{H:Hp}{K:W.Frag}{a:Addr}{xs:List V}(Pv:Nat->List V->St->Hp->Prop)(h0:Pv 0 [] τ H)(hl:∀i ys τ H,i<=xs.length->Pv i ys τ H->SqL K H a xs)
 (hs:∀i x ys τ H,xs[i]?=some x->Pv i ys τ H->g x τ H fun τ2 H2=>te τ2 H2 fun y H4=>H4 D=some (.lst ys)/\ys.length<sizeLine/\Pv (i+1) (ys++[y]) τ2 (upd H4 D (.lst (ys++[y]))))
 (hd:∀ys τ H,Pv xs.length ys τ H->Q H):Qu (LR K a) g aW te D Q τ H:=Ps Pv h0 hl (fun i x ys τ H e p=>hs i x ys τ H e p) hd
theorem Dg{g:TG}{te:TE}{D:Addr}{Q:Hp->Prop}{τ:St}{H:Hp}{K:W.Frag}{a:Addr}{xs:List V}(Pv:Nat->List V->St->Hp->Prop)(h0:Pv 0 [] τ H)(hl:∀i ys τ H,i<=xs.length->Pv i ys τ H->Dv K H a xs)
 (hs:∀i x ys τ H,xs[i]?=some x->Pv i ys τ H->g x τ H fun τ2 H2=>te τ2 H2 fun y H4=>H4 D=some (.lst ys)/\ys.length<sizeLine/\Pv (i+1) (ys++[y]) τ2 (upd H4 D (.lst (ys++[y]))))
 (hd:∀ys τ H,Pv xs.length ys τ H->Q H):Qu (lR K a) g aW te D Q τ H:=fC Pv h0 hl (fun i x ys τ H e p=>hs i x ys τ H e p) hd
theorem Zo{g:TG}{te:TE}{D:Addr}{Q:Hp->Prop}{τ:St}{H:Hp}{lo:Int}{n:Nat}(Pv:Nat->List V->St->Hp->Prop)(h0:Pv 0 [] τ H)
 (hs:∀i ys τ H,i<n->Pv i ys τ H->g (.int (lo+i)) τ H fun τ2 H2=>te τ2 H2 fun y H4=>H4 D=some (.lst ys)/\ys.length<sizeLine/\Pv (i+1) (ys++[y]) τ2 (upd H4 D (.lst (ys++[y]))))
 (hd:∀ys τ H,Pv n ys τ H->Q H):Qu (jA lo n) g aW te D Q τ H:=C9 Pv h0 (fun i ys τ H e p=>hs i ys τ H e p) hd
theorem Aj{t u:TS}{D:Ends}{σ:St}{H:Hp}(P:St->Hp->Prop)(hu:∀σ' H',P σ' H'->u D σ' H')(h:∀{N:St->Hp->Prop},(∀σ' H',P σ' H'->N σ' H')->t { D with nx:=N } σ H):CO t u D σ H:=h hu
theorem qr5{t u:TS}{D:Ends}{σ:St}{H:Hp}(P:St->Hp->Prop)(h:∀{N:St->Hp->Prop},(∀σ' H',P σ' H'->N σ' H')->t { D with nx:=N } σ H)(hu:∀σ' H',P σ' H'->u D σ' H'):CO t u D σ H:=h hu
theorem Jb{t u:TS}{D:Ends}{σ:St}{H:Hp}(P:St->Hp->Prop)(hu:∀σ' H',P σ' H'->u D σ' H')(h:(∀σ' H',P σ' H'->u D σ' H')->CO t u D σ H):CO t u D σ H:=h hu
theorem m6{f:List Int}:∀{ws:LLInt},f∈ws->(ws.map tI).findIdx? (fun e=>eqD e (tI f))=some (Wx ws f):=fun {ws} h=>by
 have e:(ws.map tI).findIdx? (fun e=>eqD e (tI f))=ws.findIdx? (fun w=>w==f):=by
  rw[List.findIdx?_map]
  congr 1
  funext w
  show eqD (tI w) (tI f)=(w==f)
  rw[ET];by_cases z:w=f
  . subst z;simp
  . simp[z]
 rw[e,List.findIdx?_eq_some_of_exists (xs:=ws) (p:=fun w=>w==f) ⟨f,h,by simp⟩];rfl
theorem Bh{n:Nat}(h:n<=1000000):n<sizeLine:=qf9 h (by decide)
theorem Au{n:Nat}(h:n<=1000000):n<=sizeLine:=qk4 (Bh h)
end
section
variable(K:W.Frag)
noncomputable def Z9:Sp:=fun vs H Q _=>∃(a:Addr) (ns:List Int) (k:Int),vs=[.ref a,.int k]/\SqL K H a (ns.map V.int)/\0<=k/\ns.length<=63/\Q (.int (Ni ns k)) H
noncomputable def X8:Sp:=fun vs H Q _=>∃(v:V) (w:List Int) (fam:Int),vs=[v,.int fam]/\TI K H v w/\D6 fam w ∧
 ∀(p:Addr) (us:List V) (H':Hp),H p=none->Same H H'->H' p=some (.lst us)->Reps K H' us ((Ar w fam).map tI)->Q (.ref p) H'
noncomputable def Z7:Sp:=fun vs H Q _=>∃(c fam letters:Int),vs=[.int c,.int fam,.int letters]/\0<letters/\letters<100/\fam<100 ∧
 ∀(v:V) (H':Hp) (w:List Int),Same H H'->TI K H' v w->D6 fam w->Q v H'
noncomputable def Tl:Sp:=fun vs H Q _=>∃(l:Addr) (us:List V) (v:V) (ws:LLInt) (w:List Int) (fam:Int),vs=[.ref l,v,.int fam]/\H l=some (.lst us)/\Reps K H us (ws.map tI)/\TI K H v w/\D6 fam w/\ws.length<=100 ∧
 ∀(p:Addr) (us':List V) (H':Hp),H p=none->Same H H'->H' p=some (.lst us')->Reps K H' us' ((Lq ws w fam).map tI)->Q (.ref p) H'
noncomputable def V0:Sp:=fun vs H Q _=>∃(a:Addr) (ns:List Int),vs=[.ref a]/\SqL K H a (ns.map V.int)/\ns.length<=63/\∀H',Q (.bl true) H'
noncomputable def P0:Sp:=fun vs H Q _=>∃(a:Addr) (ns:List Int) (kind most:Int),vs=[.int kind,.ref a,.int most]/\SqL K H a (ns.map V.int)/\ns.length<=63/\0<=most/\most<=100 ∧
 ∀(p:Addr) (us:List V) (H':Hp) (xs:LLInt),H p=none->Same H H'->H' p=some (.lst us)->Reps K H' us (xs.map tI)->Br xs->(xs.length:Int)<=most->Q (.ref p) H'
end
noncomputable def Fu(d:L2.D):Bool:=Wv "int" d&&!Wv "bool" d
noncomputable def Pt(d:L2.D)(b:Int):Bool:=match d with
 | .int i=>decide (0<=i)&&decide (i<b)
 | _=>false
noncomputable def By(n:Nat):Int:=if (0:Int) > (n:Int)-1 then 0 else(n:Int)-1
noncomputable def B6(xs:LLInt)(d:L2.D)(l:Int):Bool:=match d with
 | .int i=>decide (0<=i)&&decide (i<(xs.length:Int))&&decide (By (xs.getD i.toNat []).length=l)
 | _=>false
noncomputable def agreeAt(xs:LLInt)(p:List Int)(j i:Nat):Bool:=decide ((xs.getD (p.getD j 0).toNat []).getD i 0=(xs.getD (p.getD i 0).toNat []).getD (j-1) 0)
noncomputable def E1(xs:LLInt)(p:List Int):Bool:=(List.range p.length).all fun j=>(List.range j).all fun i=>agreeAt xs p j i
noncomputable def cO:L2.D->Int
 | .int i=>i
 | _=>0
noncomputable def Nh(n:Nat):Bool:=n==0 || n==2 || n==3 || n==4
noncomputable def E7(xs:LLInt)(d:L2.D):Bool:=match d with
 | .tup ds=>Nh ds.length&&ds.all (fun e=>B6 xs e (By ds.length-1))&&(decide (By ds.length<2) || E1 xs (ds.map cO))
 | _=>false
theorem Du(xs:LLInt)(ds:List L2.D):E7 xs (.tup ds)=(Nh ds.length&&ds.all (fun e=>B6 xs e (By ds.length-1))&&(decide (By ds.length<2) || E1 xs (ds.map cO))):=rfl
theorem Xn{n:Nat}(h:Nh n=true):n<=4/\n≠1:=by
 unfold Nh at h;simp only[qm2,qq8]at h;omega
section
variable(K:W.Frag)
noncomputable def Ic:Sp:=fun vs H Q _=>∃(x:V) (d:L2.D),vs=[x]/\Rep K H x d/\Q (.bl (Fu d)) H
noncomputable abbrev Rc:Sp:=Ic K
noncomputable def Fc:Sp:=fun vs H Q _=>∃(x:V) (d:L2.D) (b:Int),vs=[x,.int b]/\Rep K H x d/\Q (.bl (Pt d b)) H
noncomputable def Di:Sp:=fun vs H Q _=>∃(x:V) (ds:List L2.D),vs=[x]/\OT K H x ds/\Q (.int (By ds.length)) H
noncomputable def D9:Sp:=fun vs H Q _=>∃(a:Addr) (x:V) (d:L2.D) (l:Int) (xs:LLInt),vs=[.ref a,x,.int l]/\LT K H (.ref a) xs/\Rep K H x d/\Q (.bl (B6 xs d l)) H
noncomputable def Ko:Sp:=fun vs H Q _=>∃(a:Addr) (v:V) (xs:LLInt) (p:List Int),vs=[.ref a,v]/\LT K H (.ref a) xs/\TI K H v p/\p.length<=4 ∧
 (∀f∈p,0<=f/\f<(xs.length:Int)/\(xs.getD f.toNat []).length+1=p.length)/\Q (.bl (E1 xs p)) H
noncomputable def w9:Sp:=fun vs H Q _=>∃(a:Addr) (th:V) (d:L2.D) (xs:LLInt),vs=[.ref a,th]/\LT K H (.ref a) xs/\Rep K H th d/\∀H',Same H H'->Q (.bl (E7 xs d)) H'
noncomputable abbrev Jn:Sp:=Z9 K
noncomputable abbrev Ir:Sp:=X8 K
noncomputable abbrev Nu:Sp:=Z7 K
noncomputable abbrev Kh:Sp:=Tl K
end
section
variable{K:W.Frag}{H:Hp}
theorem Q5{d:L2.D}(h:Fu d=true):∃i,d=.int i:=by
 cases d<;>simp[Fu,Wv]at h;exact⟨_,rfl⟩
theorem LT.get{a:Addr}{xs:LLInt}{i:Int}(h:LT K H (.ref a) xs)(h0:0<=i)(h1:i<(xs.length:Int)):∃us v,SqL K H a us/\Io us i=some v/\TI K H v (xs.getD i.toNat []):=by
 obtain⟨a',us,e,hq,r⟩:=h;cases e;obtain⟨j,rfl⟩:=qg4 h0;have hj:j<xs.length:=O9m
 have e:(xs.map tI)[j]?=some (tI xs[j]):=by rw[qa3,qa0 hj];rfl
 obtain⟨v,hv,tv⟩:=r.get e;refine⟨us,v,hq,Ca hv,?_⟩;rw[qb9,qa4,qa0 hj];exact tv
theorem LT.len{a:Addr}{xs:LLInt}(h:LT K H (.ref a) xs):∃us,SqL K H a us/\us.length=xs.length:=by
 obtain⟨a',us,e,hq,r⟩:=h;cases e;exact⟨us,hq,by have:=r.length;simpa using this⟩
theorem TI.get{v:V}{p:List Int}{i:Int}(h:TI K H v p)(h0:0<=i)(h1:i<(p.length:Int)):∃a,v=.ref a/\Dv K H a (p.map V.int)/\Io (p.map V.int) i=some (.int (p.getD i.toNat 0)):=by
 obtain⟨a,e,hq⟩:=h.sq;refine⟨a,e,hq,?_⟩;obtain⟨j,rfl⟩:=qg4 h0;have hj:j<p.length:=O9m
 refine Ca ?_;rw[qa3,qa0 hj];simp[hj]
theorem C6(n:Nat):By n=((n-1:Nat):Int):=by unfold By;split<;>omega
theorem Tb{xs:LLInt}{l:Int}:∀{ds:List L2.D},ds.all (fun e=>B6 xs e l)=true->ds=Bx (ds.map cO)
 | [],_=>rfl
 | d::ds,h=>by
   simp only[List.all_cons,qc9]at h;cases d with
   | int i =>
     show L2.D.int i::ds=L2.D.int i::Bx (ds.map cO);rw[←Tb h.2]
   | _=>simp[B6]at h
end
end Hb
namespace L2
open PySem PySem.Spec PyProof.Rows
section
variable{fs:List Addr}{H H':Hp}{h B h' h2:Heap}
end
noncomputable abbrev XJ:=Value->OAddr->St->Hp->Prop
section
variable{X:Cx}{Ae:Ba}{σ:St}{H H':Hp}{s s':Shared}{e:Addr}{cls a0:Value}{dx:OAddr}
end
section
variable{P:Program}{w:World}{K:W.Frag}{mg:Str->Option Value}{base:Heap}{N:List Str}{qual:Str}{scope:Scope}{f:Addr}{cd:Value}{A:Around}{outer:List Env}{s:Shared}{H:Hp}{E:XK}
end
section
variable{X:Cx}{J:XJ}{x:Str}{ps:List Str}{j k:Nat}{sp:Sp}{p pos:Pos}{e:Expr}{es:List Expr}{t:TA}
end
end L2
namespace L2
open PySem PySem.Spec PyProof.Rows PySem.W
section
variable{X:Cx}{Ae pn:Ba}{σ:St}{H:Hp}{s:Shared}{J:XJ}
end
section
variable{X:Cx}{th:Ends->XJ}
end
section
variable{prog:Program}{w:World}{A:Around}{E:Value->Shared->Prop}{h:Heap}{g:Array GenState}{d:Drawn}{t:Nat}{os:OsState}{a C:Addr}{o:Obj}{K:Frag}
end
section
variable{X:Cx}{K:Frag}
end
end L2
namespace L2
open PySem PySem.Spec PyProof.Rows
noncomputable def lS(K:W.Frag)(a:Addr):It :=
 ⟨fun i H=>∃xs x,SqL K H a xs/\xs[i]?=some x,fun i H x H'=>∃p v,H p=none/\x=.ref p/\H'=upd H p (.tup [.int i,v])/\∀xs,SqL K H a xs->xs[i]?=some v,fun i H=>∃xs,SqL K H a xs/\xs.length<=i⟩
theorem AV{P:Program}{w:World}{K:W.Frag}{es:List Expr}{x1:Nat}{tpos:Pos}(a e it:Addr)(hne:e≠it):Xt P w K (.Tuple es x1 tpos) (lS K a) [e,it] e (fun i h=>(∃old,IsEnum h e it (i:Int) old)/\h.IsListIter it a i) where
 mem:=by simp
 obj:=fun i h st b hb=>by
  obtain⟨⟨old,h1⟩,o,h2,c,d⟩:=st;rcases qb7.mp hb with rfl | hb
  . exact⟨_,h1,fun v z=>by cases (show Data.fields _=Data.cell v from z)⟩
  . have z:b=it:=by simpa using hb
    subst z;exact⟨o,h2,fun v z=>by rw[d]at z;cases z⟩
 keep:=fun i h h' st k=>by
  obtain⟨⟨old,h1⟩,h2⟩:=st;exact⟨⟨old,k e (by simp) _ h1⟩,h2.at fun o z=>k it (by simp) o z⟩
 item:=by
  intro X hP hw hK hc i Ae s σ H E I hf st hg;subst hP hw hK;obtain⟨⟨old,h1⟩,h2⟩:=st;obtain⟨xs,x,hq,hx⟩:=hg;obtain⟨its,rv,p,hz⟩:=I.list hq;obtain⟨u,hu,ru⟩:=rv.get hx;have fe:=hf e (by simp);have fi:=hf it (by simp);have TZ:e<s.heap.objs.size:=qb0 h1;have hfresh:H s.heap.objs.size=none:=I.hok.fresh (qa9 _);refine wpAny_pyNext_enum_item h1 h2 p.isList (x:=u) (by simpa using hu) hne fun h' hout RK htup hsz hk=>?_;refine⟨_,rfl,wpAny_letOwnedTupleGo_enum hout fun h3 hen Xv=>?_⟩
  replace Xv:Heap.SameBut e h' h3:=Xv
  have kk:∀b o,b≠e->b≠it->s.heap.get? b=some o->h3.get? b=some o:=fun b o n1 n2 z=>(Xv.2 b n1).trans (hk b o n1 n2 z);have RA:h3.get? s.heap.objs.size=some { cls:=.type "tuple",data:=.seq #[.int i s.toks,u] }:=(Xv.2 _ (qe7 TZ)).trans htup;have WO:h3.IsListIter it a (i+1):=RK.at fun o z=>(Xv.2 it hne.symm).trans z;have CH:∀b,b ∉ [e,it]->b≠e/\b≠it:=fun b hb=>by simpa using hb
  have fK:∀b v,H b=some v->b≠e/\b≠it:=fun b v z=>⟨Be z fe.1,Be z fi.1⟩
  have dM:∀b v,H b=some v->b≠s.heap.objs.size:=fun b v z=>Be z hfresh;refine⟨.ref s.heap.objs.size,upd H s.heap.objs.size (.tup [.int i,x]),?_,rfl,⟨s.heap.objs.size,x,hfresh,rfl,rfl,fun ys hy=>by rw[I.list_inj hy hq];exact hx⟩,⟨⟨_,hen⟩,WO⟩,fun b hb=>?_⟩
  . refine Bd.step (s:=s) (h':=h3) (t':=s.toks+1) (H':=upd H s.heap.objs.size (.tup [.int i,x])) I (g':=s.gens) (d':=s.drawn) (ch:=[e,it]) (fun b hb=>?_) (fun b o _ _ hb z _=>kk b o (CH b hb).1 (CH b hb).2 z) (fun b o _ _ hb z _=>⟨o.slots,kk b o (CH b hb).1 (CH b hb).2 z⟩) (fun b o hb z n=>?_) (fun b o hb z=>⟨o,kk b o (CH b hb).1 (CH b hb).2 z⟩)
     (fun b ys z=>by rw[A8 (dM b _ z)];exact z) (fun b o v z=>by rw[A8 (dM b _ z)];exact z) (fun b ps z=>⟨#[],by rw[A8 (dM b _ z),z];simp⟩) (fun m hm=>?_) (fun b v z=>?_) I.bare
    . rcases qb7.mp hb with rfl | hb
      . exact⟨fe.2.2.2.1,fe.2.1,fe.2.2.2.2.1,fe.2.2.2.2.2⟩
      . have z:b=it:=by simpa using hb
        subst z;exact⟨fi.2.2.2.1,fi.2.1,fi.2.2.2.2.1,fi.2.2.2.2.2⟩
    . rw[A8 (qc7 (qb0 z))];exact n
    . obtain⟨o,es',ep,ho,r⟩:=hm;exact⟨o,es',ep,kk _ o fe.2.1.symm fi.2.1.symm ho,r⟩
    . by_cases hb:b=s.heap.objs.size
      . subst hb;rw[Ab]at z;cases z;exact⟨(by show(2:Nat)<=sizeLine;decide),[.int i s.toks,u],.cons ⟨_,rfl⟩ (.cons ru .nil),⟨_,RA,rfl,rfl,_,rfl⟩⟩
      . rw[A8 hb]at z;refine(I.hok b v z).stay (fun c y hc' q=>?_) (fun c q=>by rw[A8 (dM c _ q)];exact q) fun c ys q=>by rw[A8 (dM c _ q)];exact q
        rcases hc' with rfl | hc'
        . exact kk _ _ (fK _ _ z).1 (fK _ _ z).2 q
        . exact kk _ _ (fK _ _ hc').1 (fK _ _ hc').2 q
  . have lb:b<s.heap.objs.size:=by
     rcases qb7.mp hb with rfl | hb
     . exact TZ
     . have z:b=it:=by simpa using hb
       subst z;obtain⟨o,z,_⟩:=h2;exact qb0 z
    rw[A8 (qc7 lb)];exact(hf b hb).1
 done:=by
  intro X hP hw hK hc i Ae s σ H E I hf st hg;subst hP hw hK;obtain⟨⟨old,h1⟩,h2⟩:=st;obtain⟨xs,hq,hx⟩:=hg;obtain⟨its,rv,p,hz⟩:=I.list hq;obtain⟨f0,f1,f2,f3,f4,f5⟩:=hf it (by simp);have hl:=rv.length;exact wpAny_pyNext_enum_end (I.ok.hd hc) h1 h2 p.isList (by simp;omega) fun h' eb=>⟨rfl,I.turned (t':=s.toks) (fun b o hb z=>eb b o hb z) f0 f1 f3 f4 f5⟩
 self:=fun _ _ _ _ _ st h=>by
  obtain⟨⟨old,h1⟩,h2⟩:=st;exact wpAny_pyIter_enum h1 h
noncomputable def NW(K:W.Frag)(ta:TA):TI:=fun σ H R=>ta σ H fun vs H1=>∃a,vs=[.ref a]/\(∃xs,SqL K H1 a xs)/\R (lS K a) H1
theorem Qs:bootBuiltins "enumerate"=some (.type "enumerate"):=by decide +kernel
theorem Ij{X:Cx}{K:W.Frag}{es:List Expr}{x1:Nat}{tpos:Pos}{a:Expr}{ta:TA}{p pos:Pos}(hg:Gl X "enumerate")(hm:X.mg "enumerate"=none)(ha:PA X [a] ta)(hK:X.K=K:=by rfl)(hs:starEach [a] X.env=[(false,eval a X.env)]:=by rfl):PI X (.Tuple es x1 tpos) (.Call (.Name "enumerate" p) [a] [] pos) (NW K ta):=by
 subst hK;intro Ae s σ H R I h;refine Call_ (Iw I hg hm Qs (qf4 (C8 (ha pos Ae s σ H _ I h) fun us s1 _z=>?_) hs rfl));obtain⟨vs,H1,I1,r1,q1⟩:=_z;obtain⟨l,e,⟨xs,hq⟩,q⟩:=q1;subst e;cases r1 with
 | cons r rr =>
   cases rr;cases r;obtain⟨its,rv,pl,hz⟩:=I1.list hq;refine call_enumerate_list pl.isList fun h' hen hit hsz hk=>?_;refine wpAny_pyIter_enum hen ⟨s1.heap.objs.size+1,[s1.heap.objs.size+1,s1.heap.objs.size],_,_,H1,rfl,I1.kept (t':=s1.toks) hk,AV l _ _ (Nat.succ_ne_self _),⟨⟨_,hen⟩,hit⟩,fun b hb=>?_,q⟩
   have lb:s1.heap.objs.size<=b:=by
    rcases qb7.mp hb with rfl | hb
    . exact qp4 _
    . have z:b=s1.heap.objs.size:=by simpa using hb
      rw[z];exact qa9 _
   exact I1.fpOk lb (I1.hok.fresh lb)
section
variable{g:TG}{tc:TT}{te:TE}{D:Addr}{Q:Hp->Prop}{τ:St}{H:Hp}
theorem Lw{K:W.Frag}{a:Addr}{xs:List V}(Pv:Nat->List V->St->Hp->Prop)(h0:Pv 0 [] τ H)(hl:∀i ys τ H,i<=xs.length->Pv i ys τ H->SqL K H a xs)
 (hs:∀i x ys τ H p,xs[i]?=some x->Pv i ys τ H->H p=none->g (.ref p) τ (upd H p (.tup [.int i,x])) fun τ2 H2=>tc τ2 H2 fun b H3=>if b=true then te τ2 H3 fun y H4=>H4 D=some (.lst ys)/\ys.length<sizeLine/\Pv (i+1) (ys++[y]) τ2 (upd H4 D (.lst (ys++[y]))) else Pv (i+1) ys τ2 H3)
 (hd:∀ys τ H,Pv xs.length ys τ H->Q H):Qu (lS K a) g tc te D Q τ H:=by
 refine⟨fun i m ys τ H=>m=xs.length-i/\i<=xs.length/\Pv i ys τ H,⟨xs.length,by simp,qb3 _,h0⟩,?_⟩;rintro i m ys τ H ⟨rfl,hi,pp⟩;have q:=hl i ys τ H hi pp;by_cases hlt:i<xs.length
 . refine .inr ⟨⟨xs,xs[i],q,by simp[hlt]⟩,Pv (i+1),fun ys' τ' H' p'=>⟨xs.length-(i+1),O9m,rfl,hlt,p'⟩,fun x H' y=>?_⟩;obtain⟨p,v,hp,rfl,rfl,y⟩:=y;exact hs i v ys τ _ p (y xs q) pp hp
 . have e:i=xs.length:=O9m
   subst e;exact .inl ⟨⟨xs,q,qa9 _⟩,hd ys τ H pp⟩
theorem Li{K:W.Frag}{a:Addr}{xs:List V}{g:TG}{tb:TS}{D:Ends}{σ:St}{H:Hp}(Pv:Nat->St->Hp->Prop)(h0:Pv 0 σ H)(hl:∀i σ H,i<=xs.length->Pv i σ H->SqL K H a xs)
 (hs:∀i x σ H p,xs[i]?=some x->Pv i σ H->H p=none->g (.ref p) σ (upd H p (.tup [.int i,x])) fun σ2 H2=>tb { D with nx:=Pv (i+1),ct:=Pv (i+1),bk:=D.nx } σ2 H2) (hd:∀σ H,Pv xs.length σ H->D.nx σ H) :
 ∃W:Nat->Nat->St->Hp->Prop,(∃m,W 0 m σ H)/\∀i m σ H,W i m σ H →
   ((lS K a).stop i H/\D.nx σ H)\/((lS K a).go i H/\∃N:St->Hp->Prop,(∀σ' H',N σ' H'->∃m',m'<m/\W (i+1) m' σ' H')/\∀x H',(lS K a).yld i H x H'->g x σ H' fun σ2 H2=>tb { D with nx:=N,ct:=N,bk:=D.nx } σ2 H2):=by
 refine⟨fun i m σ H=>m=xs.length-i/\i<=xs.length/\Pv i σ H,⟨xs.length,by simp,qb3 _,h0⟩,?_⟩;rintro i m σ H ⟨rfl,hi,pp⟩;have q:=hl i σ H hi pp;by_cases hlt:i<xs.length
 . refine .inr ⟨⟨xs,xs[i],q,by simp[hlt]⟩,Pv (i+1),fun σ' H' p'=>⟨xs.length-(i+1),O9m,rfl,hlt,p'⟩,fun x H' y=>?_⟩;obtain⟨p,v,hp,rfl,rfl,y⟩:=y;exact hs i v σ _ p (y xs q) pp hp
 . have e:i=xs.length:=O9m
   subst e;exact .inl ⟨⟨xs,q,qa9 _⟩,hd σ H pp⟩
end
theorem Bd.turnedN{X:Cx}{Ae:Ba}{σ:St}{H:Hp}{s:Shared}{h':Heap}{t':Nat}{fp:List Addr}(I:Bd X Ae σ H s)(k:∀b o,b ∉ fp->s.heap.get? b=some o->h'.get? b=some o)(hf:∀b∈fp,L8 X Ae H b) :
 Bd X Ae σ H { s with heap:=h',toks:=t' }:=by
 have fK:∀c o,H c=some o->c ∉ fp:=fun c o e hm=>by rw[(hf c hm).1]at e;cases e
 refine I.step (g':=s.gens) (d':=s.drawn) (ch:=fp) (fun b hb=>?_) (fun b o _ _ hc e _=>k b o hc e) (fun b o _ _ hc e _=>⟨o.slots,k b o hc e⟩) (fun _ _ _ _ n=>n)
  (fun b o hc e=>⟨o,k b o hc e⟩) (fun _ _ e=>e) (fun _ _ _ e=>e) (fun b ps e=>⟨#[],by rw[e];simp⟩) (fun m hm=>?_) (fun b u e=>?_) I.bare
 . have f:=hf b hb;exact⟨f.2.2.2.1,f.2.1,f.2.2.2.2.1,f.2.2.2.2.2⟩
 . obtain⟨o,es',ep,ho,r⟩:=hm;exact⟨o,es',ep,k _ o (fun z=>(hf _ z).2.1 rfl) ho,r⟩
 . refine(I.hok b u e).stay (fun c y hc' q=>?_) (fun c q=>q) fun c ys q=>q;rcases hc' with rfl | hc'
   . exact k _ _ (fK _ _ e) q
   . exact k _ _ (fK _ _ hc') q
section
variable{g:TG}{tc:TT}{te:TE}{D:Addr}{Q:Hp->Prop}{τ:St}{H:Hp}
end
theorem op_mulX{X:Cx}:OpR X (binaryOp .Mult) (rI IntMulOk fun i j=>.int (i*j)):=opI fun _ _ _ _ _ _ _ hc q=>mul_int q hc
theorem DS{i j:Int}(h1:-(2 ^ 64)<i)(h2:i<2 ^ 64):IntMulOk i j:=iE.ok (.inl ⟨h1,h2⟩)
theorem KN{i j:Int}(h1:-(2 ^ 64)<j)(h2:j<2 ^ 64):IntMulOk i j:=iE.ok (.inr ⟨h1,h2⟩)
end L2
namespace L2
open PySem PySem.W PySem.Calls PyProof.Rows
end L2
namespace L2
open PySem PySem.Spec PyProof.Rows
section
variable{κ:Type}[DecidableEq κ]
noncomputable def valV(Az:List (κ × V))(k:κ):Option V:=(Az.find? fun kv=>decide (kv.1=k)).map (·.2)
noncomputable def putK(Az:List (κ × V))(k:κ)(v:V):List (κ × V) :=
 if (Az.any fun kv=>decide (kv.1=k))=true then Az.map (fun kv=>if kv.1=k then(kv.1,v) else kv) else Az++[(k,v)]
noncomputable def dropK(Az:List (κ × V))(k:κ):List (κ × V):=Az.filter fun kv=>decide (kv.1≠k)
theorem D7{p:κ × V}{r:List (κ × V)}{k:κ}(e:p.1=k):valV (p::r) k=some p.2:=by simp[valV,qm1,e]
theorem D8{p:κ × V}{r:List (κ × V)}{k:κ}(e:¬p.1=k):valV (p::r) k=valV r k:=by simp[valV,qm1,e]
theorem Km(k:κ):∀Az:List (κ × V),(Az.any fun kv=>decide (kv.1=k))=(valV Az k).isSome
 | []=>rfl
 | p::r=>by
   rw[qi4];by_cases e:p.1=k
   . simp only[D7 e,qe9 e,Bool.true_or,Option.isSome_some]
   . rw[D8 e,qe5 e,qq6];exact Km k r
theorem X3(k j:κ)(y:V):∀Az:List (κ × V),valV (Az.map fun kv=>if kv.1=k then(kv.1,y) else kv) j=(valV Az j).map fun x=>if j=k then y else x
 | []=>rfl
 | p::r=>by
   have ih:=X3 k j y r;rw[qf0];by_cases h:p.1=k
   . rw[if_pos h];by_cases e:p.1=j
     . rw[D7 (p:=(p.1,y)) e,D7 e,qo6,if_pos (e.symm.trans h)]
     . rw[D8 (p:=(p.1,y)) e,D8 e,ih]
   . rw[if_neg h];by_cases e:p.1=j
     . rw[D7 (p:=p) e,D7 e,qo6,if_neg (fun z=>h (e.trans z))]
     . rw[D8 (p:=p) e,D8 e,ih]
theorem Uc(k j:κ)(y:V):∀Az:List (κ × V),valV Az k=none->valV (Az++[(k,y)]) j=if j=k then some y else valV Az j
 | [],_=>by
   by_cases e:k=j
   . rw[if_pos e.symm];exact D7 (p:=(k,y)) e
   . rw[if_neg (fun z=>e z.symm)];exact D8 (p:=(k,y)) e
 | p::r,hn=>by
   rw[List.cons_append];have hk:¬p.1=k:=fun z=>by rw[D7 z]at hn;cases hn
   rw[D8 hk]at hn;have ih:=Uc k j y r hn;by_cases e:p.1=j
   . rw[D7 e,D7 e,if_neg (fun z=>hk (e.trans z))]
   . rw[D8 e,D8 e,ih]
theorem Nm(Az:List (κ × V))(k j:κ)(y:V):valV (putK Az k y) j=if j=k then some y else valV Az j:=by
 unfold putK;by_cases a:(Az.any fun kv=>decide (kv.1=k))=true
 . rw[if_pos a,X3];rw[Km]at a;by_cases e:j=k
   . obtain⟨x,hx⟩:=Option.isSome_iff_exists.mp a;rw[if_pos e,e,hx,qo6,if_pos rfl]
   . rw[if_neg e];cases valV Az j with
     | none=>rfl
     | some x=>rw[qo6,if_neg e]
 . rw[if_neg a];refine Uc k j y Az ?_;rw[Km]at a;cases q:valV Az k with
   | none=>rfl
   | some x=>rw[q]at a;exact(a rfl).elim
theorem Ik(Az:List (κ × V))(k:κ)(v:V):(putK Az k v).length<=Az.length+1:=by
 unfold putK;split
 . rw[qa1];omega
 . rw[qb8,qe3,qh1];omega
theorem CZ{Az:List (κ × V)}{k:κ}(v:V)(h:valV Az k=none):putK Az k v=Az++[(k,v)]:=by
 unfold putK;rw[Km,h];exact if_neg (by decide)
theorem Lo.isSome_eq{o:Option V}{u:Option Value}(r:Lo o u):o.isSome=u.isSome:=by
 cases o with
 | none=>cases u with
   | none=>rfl
   | some _=>exact(show False from r).elim
 | some _=>cases u with
   | none=>exact(show False from r).elim
   | some _=>rfl
theorem KV.val{Az:List (κ × V)}{vs:List (κ × Value)}(r:KV Az vs)(k:κ):Lo (valV Az k) (valueAt vs k):=by
 unfold KV at r
 induction r with
 | nil=>exact True.intro
 | @cons p q ps qs h t ih =>
   obtain⟨h1,h2⟩:=h;by_cases e:p.1=k
   . have e':q.1=k:=h1.symm.trans e;have b:valueAt (q::qs) k=some q.2:=by simp[valueAt,qm1,e']
     rw[D7 e,b];exact h2
   . have e':¬q.1=k:=fun z=>e (h1.trans z);have b:valueAt (q::qs) k=valueAt qs k:=by simp[valueAt,qm1,e']
     rw[D8 e,b];exact ih
theorem KV.any{Az:List (κ × V)}{vs:List (κ × Value)}(r:KV Az vs)(k:κ):(Az.any fun kv=>decide (kv.1=k))=vs.any fun kv=>decide (kv.1=k):=by
 unfold KV at r
 induction r with
 | nil=>rfl
 | cons h t ih=>rw[qi4,qi4,ih,h.1]
theorem KV.repl{Az:List (κ × V)}{vs:List (κ × Value)}(r:KV Az vs)(k:κ){y:V}{u:Value}(ry:RelV y u) :
 KV (Az.map fun kv=>if kv.1=k then(kv.1,y) else kv) (vs.map fun kv=>if kv.1=k then(kv.1,u) else kv):=by
 unfold KV at r ⊢
 induction r with
 | nil=>exact .nil
 | @cons p q ps qs h t ih =>
   rw[qf0,qf0];refine .cons ?_ ih;obtain⟨h1,h2⟩:=h;by_cases e:p.1=k
   . rw[if_pos e,if_pos (h1.symm.trans e)];exact⟨h1,ry⟩
   . rw[if_neg e,if_neg (fun z=>e (h1.trans z))];exact⟨h1,h2⟩
theorem KV.put{Az:List (κ × V)}{vs:List (κ × Value)}(r:KV Az vs)(k:κ){y:V}{u:Value}(ry:RelV y u):KV (putK Az k y) (stored vs k u):=by
 unfold putK stored;rw[r.any k];by_cases e:(vs.any fun kv=>decide (kv.1=k))=true
 . rw[if_pos e,if_pos e];exact r.repl k ry
 . rw[if_neg e,if_neg e];exact Paired.snoc r ⟨rfl,ry⟩
theorem KV.drop{Az:List (κ × V)}{vs:List (κ × Value)}(r:KV Az vs)(k:κ):KV (dropK Az k) (without vs k):=by
 unfold KV at r ⊢;unfold dropK without
 induction r with
 | nil=>exact .nil
 | @cons p q ps qs h t ih =>
   obtain⟨h1,h2⟩:=h;rw[List.filter_cons,List.filter_cons];by_cases e:p.1=k
   . have a:¬decide (p.1≠k)=true:=by simp[e]
     have b:¬decide (q.1≠k)=true:=by simp[h1.symm.trans e]
     rw[if_neg a,if_neg b];exact ih
   . have e':¬q.1=k:=fun z=>e (h1.trans z);have a:decide (p.1≠k)=true:=by simp[e]
     have b:decide (q.1≠k)=true:=by simp[e']
     rw[if_pos a,if_pos b];exact .cons ⟨h1,h2⟩ ih
theorem KV.length{Az:List (κ × V)}{vs:List (κ × Value)}(r:KV Az vs):Az.length=vs.length:=Paired.length r
theorem Za(Az:List (κ × V))(k:κ):(dropK Az k).length<=Az.length:=qi1 _ _
end
theorem kV_is{P:Program}{w:World}{k:Key}{u:Value}(r:RelV (kV k) u):(mixKind P w).is k u=true:=by
 cases k with
 | inl i=>obtain⟨t,e⟩:=(show ∃t,u=Value.int i t from r);subst e;exact Yx P w i t
 | inr x=>obtain⟨t,e⟩:=(show ∃t,u=Value.str x t from r);subst e;exact Yw P w x t
theorem U6{P:Program}{w:World}:∀{ks:List Key}{us:List Value},Vals (ks.map kV) us->ItemsAre (mixKind P w) ks us
 | [],_,r=>by rw[ql5]at r;cases r;exact .nil
 | k::ks,_,r=>by
   rw[qf0]at r;cases r with
   | cons h t=>exact .cons (kV_is h) (U6 t)
noncomputable abbrev KT(H:Hp):List (List Key × V)->List (List Key × Addr × Value)->Prop:=Paired fun p q=>p.1=q.1/\H q.2.1=some (.tup (p.1.map kV))/\RelV p.2 q.2.2
theorem KT.val{H:Hp}{Az:List (List Key × V)}{xs:List (List Key × Addr × Value)}(r:KT H Az xs)(k:List Key):Lo (valV Az k) ((atKey xs k).map (·.2)):=by
 induction r with
 | nil=>exact True.intro
 | @cons p q ps qs h t ih =>
   obtain⟨h1,_,h2⟩:=h;by_cases e:p.1=k
   . have e':q.1=k:=h1.symm.trans e;have b:atKey (q::qs) k=some q.2:=by simp[atKey,qm1,e']
     rw[D7 e,b];exact h2
   . have e':¬q.1=k:=fun z=>e (h1.trans z);have b:atKey (q::qs) k=atKey qs k:=by simp[atKey,qm1,e']
     rw[D8 e,b];exact ih
theorem KT.repl{H:Hp}{Az:List (List Key × V)}{xs:List (List Key × Addr × Value)}(r:KT H Az xs)(k:List Key){y:V}{u:Value}(ry:RelV y u) :
 KT H (Az.map fun kv=>if kv.1=k then(kv.1,y) else kv) (xs.map (putAt k u)):=by
 induction r with
 | nil=>exact .nil
 | @cons p q ps qs h t ih =>
   rw[qf0,qf0];refine .cons ?_ ih;obtain⟨h1,h2,h3⟩:=h;unfold putAt;by_cases e:p.1=k
   . rw[if_pos e,if_pos (h1.symm.trans e)];exact⟨h1,h2,ry⟩
   . rw[if_neg e,if_neg (fun z=>e (h1.trans z))];exact⟨h1,h2,h3⟩
theorem KT.put{H:Hp}{Az:List (List Key × V)}{xs:List (List Key × Addr × Value)}(r:KT H Az xs)(k:List Key){b:Addr}{y:V}{u:Value}(hb:H b=some (.tup (k.map kV)))(ry:RelV y u) :
 KT H (putK Az k y) (storedH xs k b u):=by
 have e:(Az.any fun kv=>decide (kv.1=k))=(atKey xs k).isSome:=by
  rw[Km,(r.val k).isSome_eq,qr0]
 unfold putK storedH;rw[e];by_cases q:(atKey xs k).isSome=true
 . rw[if_pos q,if_pos q];exact r.repl k ry
 . rw[if_neg q,if_neg q];exact Paired.snoc r ⟨rfl,hb,ry⟩
theorem KT.keeps{H H':Hp}{Az:List (List Key × V)}{xs:List (List Key × Addr × Value)}(r:KT H Az xs)(ht:∀b ys,H b=some (.tup ys)->H' b=some (.tup ys)):KT H' Az xs :=
 Paired.mapP r fun _ _ z=>⟨z.1,ht _ _ z.2.1,z.2.2⟩
section
variable{P:Program}{w:World}{H:Hp}{h:Heap}{a:Addr}
theorem iK{u:HO}(ok:Mo P w H h)(e:Rd H a u):ObjOk P w H h a u:=e.ok ok
theorem Sw{Az:List (Key × V)}(ok:Mo P w H h)(e:Rd H a (.dK Az)):Az.length<=sizeLine/\(a==sysModules)=false/\∃vs,KV Az vs/\h.DictOf (mixKind P w) a vs :=
 show ObjOk P w H h a (.dK Az) from iK ok e
theorem eU{Az:List (Key × V)}(ok:Mo P w H h)(e:H a=some (.dK Az)):Az.length<=sizeLine/\(a==sysModules)=false/\∃vs,KV Az vs/\h.DictOf (mixKind P w) a vs:=Sw ok (.inl e)
theorem Sb{ks:List Key}(ok:Mo P w H h)(e:H a=some (.tup (ks.map kV))):(tupleKind (mixKind P w)).is h ks a:=by
 obtain⟨_,its,r,o,h1,h2,_,n,h3⟩:=(show ObjOk P w H h a (.tup (ks.map kV)) from ok a _ e)
 exact⟨o,its.toArray,n,h1,h2,h3,by simpa using U6 r⟩
theorem Vj{Az:List (List Key × V)}(ok:Mo P w H h)(e:Rd H a (.dT Az)):Az.length<=sizeLine/\(a==sysModules)=false ∧
 ∃xs,KT H Az xs/\h.DictOfH (tupleKind (mixKind P w)) a xs:=by
 obtain⟨z,y,xs,r,o,es,ep,h1,h2,h3,h4,h5⟩:=(show ObjOk P w H h a (.dT Az) from iK ok e)
 refine⟨z,y,xs,r,o,es,ep,h1,h2,h3,h4,fun x hx=>?_,h5⟩
 have all:∀{l:List (List Key × V)}{m:List (List Key × Addr × Value)},KT H l m->∀x∈m,(tupleKind (mixKind P w)).is h x.1 x.2.1:=by
  intro l m q
  induction q with
  | nil=>intro x hx;exact nomatch hx
  | @cons p q ps qs hq t ih =>
    intro x hx;rcases qb7.mp hx with e | hx
    . subst e;exact Sb ok (by rw[←hq.1];exact hq.2.1)
    . exact ih x hx
 exact all r x hx
theorem oQ{Az:List (List Key × V)}(ok:Mo P w H h)(e:H a=some (.dT Az)):Az.length<=sizeLine/\(a==sysModules)=false ∧
 ∃xs,KT H Az xs/\h.DictOfH (tupleKind (mixKind P w)) a xs:=Vj ok (.inl e)
end
noncomputable def DGet(H:Hp)(a:Addr)(y:V)(r:Option V):Prop :=
 (∃Az k,Rd H a (.dK Az)/\y=kV k/\r=valV Az k)\/∃Az k b,Rd H a (.dT Az)/\y=.ref b/\H b=some (.tup (k.map kV))/\r=valV Az k
noncomputable def fH(H:Hp)(a:Addr)(y v:V)(H':Hp):Prop :=
 (∃Az k,H a=some (.dK Az)/\y=kV k/\Az.length<sizeLine/\H'=upd H a (.dK (putK Az k v))) ∨
 ∃Az k b,H a=some (.dT Az)/\y=.ref b/\H b=some (.tup (k.map kV))/\Az.length<sizeLine/\H'=upd H a (.dT (putK Az k v))
theorem DGet.k{H:Hp}{a:Addr}{Az:List (Key × V)}{k:Key}(e:H a=some (.dK Az)):DGet H a (kV k) (valV Az k):=.inl ⟨Az,k,.inl e,rfl,rfl⟩
theorem fH.k{H:Hp}{a:Addr}{Az:List (Key × V)}{k:Key}{v:V}(e:H a=some (.dK Az))(hl:Az.length<sizeLine):fH H a (kV k) v (upd H a (.dK (putK Az k v))):=.inl ⟨Az,k,e,rfl,hl,rfl⟩
section
variable{X:Cx}{Ae:Ba}{σ:St}{H:Hp}{s:Shared}{a:Addr}{y v:V}{u r:Value}{o:Option V}{A:Around}{E:Value->Shared->Prop}
theorem Bd.big(I:Bd X Ae σ H s):sysModules<s.heap.objs.size:=by
 have h:mainGlobals<s.heap.objs.size:=(I.mod.glob.keeps I.bk).lt;exact qr3 (by decide) h
theorem Vk{Q:Value->Shared->Prop}(hu:A.units+1<cLine)(I:Bd X Ae σ H s)(g:DGet H a y (some v))(ry:RelV y u)(h:∀w' s',Bd X Ae σ H s'->RelV v w'->Q w' s') :
 wpAny (model X.prog X.w) A (getItem (.ref a) u) Q E s:=by
 rcases g with⟨Az,k,e,ey,l⟩|⟨Az,k,b,e,ey,eb,l⟩
 . subst ey;obtain⟨z,hd,vs,rel,dd⟩:=Sw I.hok e;obtain⟨w',hw,rw'⟩:=Lo.some_of (v:=v) (o:=valueAt vs k) (by rw[l];exact rel.val k);exact wpAny_getItem_of (kV_is ry) dd.mapOf hw (h w' _ (I.tok _) rw')
 . subst ey;cases (show u=Value.ref b from ry);obtain⟨z,hd,xs,rel,dd⟩:=Vj I.hok e;obtain⟨w',hw,rw'⟩:=Lo.some_of (v:=v) (o:=(atKey xs k).map (·.2)) (by rw[l];exact rel.val k);obtain⟨p,hp,hp2⟩:=qb1.mp hw;refine wpAny_getItem_heap (tupleKind_room_in1 hu) (Sb I.hok eb) dd hp ?_;rw[hp2];exact h w' _ (I.tok _) rw'
theorem SQ{Q:Value->Shared->Prop}(hu:A.units+1<cLine)(I:Bd X Ae σ H s)(g:DGet H a y o)(ry:RelV y u)(h:∀s',Bd X Ae σ H s'->Q (.bool o.isSome) s') :
 wpAny (model X.prog X.w) A (compareOp .In u (.ref a)) Q E s:=by
 rcases g with⟨Az,k,e,ey,l⟩|⟨Az,k,b,e,ey,eb,l⟩
 . subst ey;obtain⟨z,hd,vs,rel,dd⟩:=Sw I.hok e;refine wpAny_in_of (kV_is ry) hd dd.mapOf ?_;rw[←(rel.val k).isSome_eq,←l];exact h _ (I.tok _)
 . subst ey;cases (show u=Value.ref b from ry);obtain⟨z,hd,xs,rel,dd⟩:=Vj I.hok e;refine wpAny_in_heap (tupleKind_room_in1 hu) (Sb I.hok eb) hd dd ?_;have q:=(rel.val k).isSome_eq;rw[qr0]at q;rw[←q,←l];exact h _ (I.tok _)
theorem HU{Q:Value->Shared->Prop}(hu:A.units+1<cLine)(I:Bd X Ae σ H s)(g:DGet H a y o)(ry:RelV y u)(h:∀s',Bd X Ae σ H s'->Q (.bool (!o.isSome)) s') :
 wpAny (model X.prog X.w) A (compareOp .NotIn u (.ref a)) Q E s:=by
 rcases g with⟨Az,k,e,ey,l⟩|⟨Az,k,b,e,ey,eb,l⟩
 . subst ey;obtain⟨z,hd,vs,rel,dd⟩:=Sw I.hok e;refine wpAny_notIn_of (kV_is ry) hd dd.mapOf ?_;rw[←(rel.val k).isSome_eq,←l];exact h _ (I.tok _)
 . subst ey;cases (show u=Value.ref b from ry);obtain⟨z,hd,xs,rel,dd⟩:=Vj I.hok e;refine wpAny_notIn_heap (tupleKind_room_in1 hu) (Sb I.hok eb) hd dd ?_;have q:=(rel.val k).isSome_eq;rw[qr0]at q;rw[←q,←l];exact h _ (I.tok _)
theorem Q1{h':Heap}{t':Nat}{ob:HO}(I:Bd X Ae σ H s)(mu:Mut (H a))(hs:Heap.SameBut a s.heap h')(he:∃q,h'.get? a=some q)(new:ObjOk X.prog X.w (upd H a ob) h' a ob) :
 Bd X Ae σ (upd H a ob) { s with heap:=h',toks:=t' } :=
 I.write (x:=a) (e:=a) mu (.inl rfl) (fun b q hb z=>(hs.2 b hb).trans z) he new
theorem Xe{P:Program}{w:World}{H':Hp}{h':Heap}{Az:List (Key × V)}{vs:List (Key × Value)}(z:Az.length<=sizeLine)(hd:(a==sysModules)=false)(rel:KV Az vs)(dd:h'.DictOf (mixKind P w) a vs) :
 ObjOk P w H' h' a (.dK Az):=⟨z,hd,vs,rel,dd⟩
theorem bU{H':Hp}{Q:Unit->Shared->Prop}(hu:A.units+1<cLine)(I:Bd X Ae σ H s)(g:fH H a y v H')(ry:RelV y u)(rv:RelV v r)(h:∀s',Bd X Ae σ H' s'->Q () s') :
 wpAny (model X.prog X.w) A (setItem (.ref a) u r) Q E s:=by
 rcases g with⟨Az,k,e,ey,l,eH⟩|⟨Az,k,b,e,ey,eb,l,eH⟩
 . subst ey eH;obtain⟨z,hd,vs,rel,dd⟩:=eU I.hok e;have hz:vs.length<=sizeLine:=by rw[←rel.length];exact z
   have hl:(putK Az k v).length<=sizeLine:=by have:=Ik Az k v;omega
   refine wpAny_setItem_pairs (hsz:=hz) (kV_is ry) dd fun h' fO hs=>h _ ?_;have he:∃q,h'.get? a=some q:=let ⟨q,_,_,hq,_⟩:=fO;⟨q,hq⟩
   exact Q1 I (by rw[e];exact True.intro) hs he (Xe hl hd (rel.put k rv) fO)
 . subst ey eH;cases (show u=Value.ref b from ry);obtain⟨z,hd,xs,rel,dd⟩:=oQ I.hok e;have hz:xs.length<=sizeLine:=by rw[←Paired.length rel];exact z
   have hl:(putK Az k v).length<=sizeLine:=by have:=Ik Az k v;omega
   refine wpAny_setItem_heap (hsz:=hz) (tupleKind_room_in1 hu) (Sb I.hok eb) dd fun h' fO hs=>h _ ?_;obtain⟨q,es,ep,hq,h2,h3,h4,_,h5⟩:=fO;refine Q1 I (by rw[e];exact True.intro) hs ⟨q,hq⟩ ⟨hl,hd,_,(rel.put k eb rv).keeps fun c ys ec=>?_,q,es,ep,hq,h2,h3,h4,h5⟩;rw[A8 (Yv ec e (fun z=>nomatch z))];exact ec
end
section
variable{X:Cx}{Ae:Ba}{σ:St}{H:Hp}{s:Shared}{a:Addr}{Az:List (Key × V)}{k:Key}{u:Value}{A:Around}{E:Value->Shared->Prop}
theorem MA{Q:Unit->Shared->Prop}(I:Bd X Ae σ H s)(e:H a=some (.dK Az))(ry:RelV (kV k) u)(l:(valV Az k).isSome=true)(h:∀s',Bd X Ae σ (upd H a (.dK (dropK Az k))) s'->Q () s') :
 wpAny (model X.prog X.w) A (delItem (.ref a) u) Q E s:=by
 obtain⟨z,hd,vs,rel,dd⟩:=eU I.hok e
 refine wpAny_delItem_slot dd.typeIs (by decide) PySem.F.slot_dict_delitem
  (call_meetsIn PySem.F.slot_dict_delitem dd.typeIs PySem.F.entry_dict_delitem (PySem.F.args_dict_delitem_2 _ _) (meets_dict_delitem_pairs (mixKind X.prog X.w) a (kV_is ry)) ⟨vs,dd,by rw[←rel.length];exact z,by rw[←(rel.val k).isSome_eq];exact l,fun h' fO hs=>h _ ?_⟩)
 have he:∃q,h'.get? a=some q:=let ⟨q,_,_,hq,_⟩:=fO;⟨q,hq⟩
 exact Q1 I (by rw[e];exact True.intro) hs he (Xe (qe1 (Za Az k) z) hd (rel.drop k) fO)
theorem OQ{v:V}{more:List Value}{Q:Value->Shared->Prop}(I:Bd X Ae σ H s)(e:H a=some (.dK Az))(ry:RelV (kV k) u)(l:valV Az k=some v)(hm:more=[]\/∃x,more=[x])
 (h:∀w' s',Bd X Ae σ (upd H a (.dK (dropK Az k))) s'->RelV v w'->Q w' s'):wpAny (model X.prog X.w) A (call (.builtin "dict.pop") (.ref a::u::more)) Q E s:=by
 obtain⟨z,hd,vs,rel,dd⟩:=eU I.hok e;obtain⟨w',hw,rw'⟩:=Lo.some_of (v:=v) (o:=valueAt vs k) (by rw[←l];exact rel.val k)
 have hp:(keyPart u).isSome=true:=by
  cases k with
  | inl i=>obtain⟨t,q⟩:=(show ∃t,u=Value.int i t from ry);subst q;rfl
  | inr x=>obtain⟨t,q⟩:=(show ∃t,u=Value.str x t from ry);subst q;rfl
 have ha:argsOk "dict.pop" ⟨.ref a::u::more,[]⟩:=by
  rcases hm with q|⟨x,q⟩
  . subst q;exact PySem.F.args_dict_pop_2 _ _
  . subst q;exact PySem.F.args_dict_pop_3 _ _ _
 refine call_meetsIn PySem.F.slot_dict_pop dd.typeIs PySem.F.entry_dict_pop ha (meets_dict_pop_there (mixKind X.prog X.w) a (kV_is ry) more hm hp)
  ⟨vs,w',dd,by rw[←rel.length];exact z,hw,fun h' fO hs=>h w' _ ?_ rw'⟩
 have he:∃q,h'.get? a=some q:=let ⟨q,_,_,hq,_⟩:=fO;⟨q,hq⟩
 exact Q1 I (by rw[e];exact True.intro) hs he (Xe (qe1 (Za Az k) z) hd (rel.drop k) fO)
end
noncomputable def NoSl(i:Expr):Prop:=∀ov iv,subscripted i false ov iv=operate [ov,iv] (getItem ov iv)
theorem fU{prog:Program}{w:World}{A:Around}{E:Value->Shared->Prop}{s:Shared}{env:Env}{value slice:Expr}{pos:Pos}{T id:String}{Q:Value->Shared->Prop}
 (hl:typeLookup (.type T) "__getitem__"=pure (some (.builtin id))) (hs:NoSl slice)
 (h:wpAny (model prog w) A (eval value env) (fun o s₁=>wpAny (model prog w) A (eval slice env) (fun i s₂=>s₂.TypeIs o T/\wpAny (model prog w) A (getItem o i) Q E s₂) E s₁) E s) :
 wpAny (model prog w) A (eval (.Subscript value slice pos) env) Q E s:=by
 refine Subscript_ (qi7 h (fun o s₁ h₁=>qi7 h₁ (fun i s₂ h₂=>?_) fun _ _ x=>x) fun _ _ x=>x);obtain⟨hT,h₂⟩:=h₂;unfold subscriptTail;refine qa5 ?_;rw[getitemInPython_of_ne hT.not_modules];refine qa5 (qq0 hT hl ?_)
 have fin:wpAny (model prog w) A (subscripted slice false o i) (fun r s₃=>wpAny (model prog w) A (letTemporaryGo value o r>>=fun _=>pure r) Q E s₃) E s₂:=by
  rw[hs o i];exact wpAny_operating (qi7 h₂ (fun r s₃ h₃=>qa5 (wpAny_letTemporaryGo (qb2 h₃))) fun _ _ x=>x)
 first
  | exact qb2 (qa5 fin)
  | exact qa5 (qb2 (qa5 fin))
  | exact qa5 fin
theorem Qd{X:Cx}{Ae:Ba}{σ:St}{H:Hp}{s:Shared}{a:Addr}{y:V}{o:Option V}(I:Bd X Ae σ H s)(g:DGet H a y o):s.TypeIs (.ref a) "dict":=by
 rcases g with⟨Az,k,e,_,_⟩|⟨Az,k,b,e,_,_,_⟩
 . obtain⟨_,_,vs,_,dd⟩:=Sw I.hok e;exact dd.typeIs
 . obtain⟨_,_,xs,_,dd⟩:=Vj I.hok e;exact dd.typeIs
noncomputable def mU(td ty:TE):TE:=fun σ H Q=>td σ H fun x H1=>ty σ H1 fun y H2=>∃a v,x=.ref a/\DGet H2 a y (some v)/\Q v H2
noncomputable def mY(td ty tv:TE):TS:=fun D σ H=>tv σ H fun v H1=>td σ H1 fun x H2=>ty σ H2 fun y H3=>∃a H4,x=.ref a/\fH H3 a y v H4/\D.nx σ H4
section
variable{X:Cx}{o i e value:Expr}{pos pos' tpos:Pos}{td ty tv:TE}
theorem Wd(hu:X.A.units+1<cLine)(ho:PE X o td)(hi:PE X i ty)(hs:NoSl i):PE X (.Subscript o i pos) (mU td ty):=by
 intro Ae s σ H Q I h;refine fU PySem.F.slot_dict_getitem.lookup hs (C8 (ho Ae s σ H _ I h) fun u s1 ⟨x,H1,I1,rx,q1⟩=>C8 (hi Ae s1 σ H1 _ I1 q1) fun iv s2 _z=>?_);obtain⟨y,H2,I2,ry,a,v,ex,g,q2⟩:=_z;subst ex;obtain rfl:u=Value.ref a:=rx;exact⟨Qd I2 g,Vk hu I2 g ry fun w' s3 I3 rw'=>⟨v,H2,I3,rw',q2⟩⟩
theorem y8(hu:X.A.units+1<cLine)(ho:PE X o td)(hi:PE X i ty)(hv:PE X value tv)(hs:swapsWith value (some (.Subscript o i pos')) pos.line X.env=pure false) :
 PS X (.Assign [.Subscript o i pos'] value pos) (mY td ty tv):=by
 intro Ae s σ H D I h;refine wpAny_Assign_Subscript (C8 (hv Ae s σ H _ I h) fun r s1 ⟨v,H1,I1,rv,q1⟩=>C8 (ho Ae s1 σ H1 _ I1 q1) fun u s2 ⟨x,H2,I2,rx,q2⟩=>C8 (hi Ae s2 σ H2 _ I2 q2) fun iv s3 _z=>?_) hs;obtain⟨y,H3,I3,ry,a,H4,ex,g,q3⟩:=_z;subst ex;obtain rfl:u=Value.ref a:=rx;exact bU hu I3 g ry rv fun s4 I4=>⟨σ,H4,I4,q3⟩
end
theorem dk_empty{P:Program}{w:World}{H:Hp}(h:Heap)(hb:sysModules<h.objs.size):ObjOk P w H (h.push { cls:=.type "dict",data:=.dict #[] }) h.objs.size (.dK []) :=
 ⟨qb3 _,qj4.mpr (Ne.symm (qc7 hb)),[],.nil,Heap.DictOf.new h⟩
noncomputable def JH:TE:=fun _ H Q=>∀p,H p=none->Q (.ref p) (upd H p (.dK []))
section
variable{X:Cx}{pos:Pos}
theorem Yi:PE X (.Dict [] [] pos) JH:=fun Ae s σ H Q I h =>
 wpAny_Dict_empty ⟨.ref s.heap.objs.size,_,I.laid (a:=s.heap.objs.size) (o:=.dK []) (t':=s.toks) (fun _ _ q=>qa7 _ q) (qa9 _) (dk_empty s.heap I.big),rfl,h _ (I.hok.fresh (qa9 _))⟩
end
noncomputable def mergeK(Az more:List (Key × V)):List (Key × V):=more.foldl (fun acc kv=>putK acc kv.1 kv.2) Az
theorem KV.merge:∀{more:List (Key × V)}{rs:List (Key × Value)}{Az:List (Key × V)}{vs:List (Key × Value)},KV more rs->KV Az vs->KV (mergeK Az more) (merged vs rs):=by
 intro more rs Az vs r;unfold KV at r
 induction r generalizing Az vs with
 | nil=>intro q;exact q
 | @cons p q ps qs h t ih =>
   intro r0
   have e:KV (putK Az p.1 p.2) (stored vs q.1 q.2):=by
    have:=r0.put p.1 h.2;rw[←h.1];exact this
   exact ih e
theorem Mh:∀(more Az:List (Key × V)),(mergeK Az more).length<=Az.length+more.length
 | [],Az=>by show Az.length<=Az.length+0;omega
 | p::r,Az=>by
   have h1:=Mh r (putK Az p.1 p.2);have h2:=Ik Az p.1 p.2;show(mergeK (putK Az p.1 p.2) r).length<=_;rw[qe3];omega
structure M1(X:Cx)(o:Expr)(m:Str)(apos:Pos)(e:Expr)(cpos:Pos):Prop where
 base:attributeBase o m X.env (eval o X.env)=eval o X.env
 few:((backTo cpos (starEach [e] X.env)).all (fun x=>!x.1)&&(backToKw cpos (keywordEach [] X.env)).all (fun x=>x.1.isSome)
  && decide (([e]:List Expr).length+([]:List Keyword).length+(if ([]:List Keyword).isEmpty then 0 else 1)<30))=true
 line:(apos.endLine==cpos.line)=true
 trees:backTo cpos (starEach [e] X.env)=[(false,eval e X.env)]
noncomputable def IsD(H:Hp)(a:Addr):Prop:=(∃Az,Rd H a (.dK Az))\/∃Az,Rd H a (.dT Az)
theorem KR{X:Cx}{Ae:Ba}{σ:St}{H:Hp}{s:Shared}{a:Addr}(I:Bd X Ae σ H s)(d:IsD H a) :
 s.TypeIs (.ref a) "dict"/\(∀b,Value.ref a=.ref b->∃ob,s.heap.get? b=some ob/\ob.dict=none)/\(a==sysModules)=false:=by
 rcases d with⟨Az,e⟩|⟨Az,e⟩
 . obtain⟨_,hd,vs,_,dd⟩:=Sw I.hok e;refine⟨dd.typeIs,fun b q=>?_,hd⟩;cases q;obtain⟨ob,_,_,h1,h2,_⟩:=dd;exact⟨ob,h1,h2.2.1⟩
 . obtain⟨_,hd,xs,_,dd⟩:=Vj I.hok e;refine⟨dd.typeIs,fun b q=>?_,hd⟩;cases q;obtain⟨ob,_,_,h1,h2,_⟩:=dd;exact⟨ob,h1,h2.2.1⟩
section
variable{X:Cx}{Ae:Ba}{σ:St}{H:Hp}{s:Shared}{a:Addr}{y d:V}{u r:Value}{o:Option V}{A:Around}{E:Value->Shared->Prop}
end
noncomputable def tDPop1(td ty:TE):TE:=fun σ H Q=>td σ H fun x H1=>∃a,x=.ref a/\IsD H1 a/\ty σ H1 fun y H2=>∃Az k v,H2 a=some (.dK Az)/\y=kV k/\valV Az k=some v/\Q v (upd H2 a (.dK (dropK Az k)))
section
variable{X:Cx}{o e f:Expr}{apos cpos:Pos}{td ty tx:TE}
theorem dH(ho:PE X o td)(he:PE X e ty)(m:M1 X o "pop" apos e cpos):PE X (.Call (.Attribute o "pop" apos) [e] [] cpos) (tDPop1 td ty):=by
 intro Ae s σ H Q I h;refine wpAny_Call_method m.base m.few m.line PySem.F.plainAttrs_dict PySem.F.slot_dict_pop PySem.F.type_dict_pop (C8 (ho Ae s σ H _ I h) fun u s1 _z=>?_);obtain⟨x,H1,I1,rx,a,ex,d,q1⟩:=_z;subst ex;obtain rfl:u=Value.ref a:=rx;obtain⟨t1,t2,_⟩:=KR I1 d;refine⟨t1,t2,?_⟩;rw[m.trees];refine qp7 rfl (qr2 (qo2 (C8 (he Ae s1 σ H1 _ I1 q1) fun iv s2 ⟨y,H2,I2,ry,Az,k,v,ea,ey,l,q2⟩=>qo9 ?_)));subst ey;exact OQ I2 ea ry l (.inl rfl) fun w' s3 I3 rw'=>⟨v,_,I3,rw',q2⟩
end
section
variable{X:Cx}{Ae:Ba}{σ:St}{H:Hp}{s:Shared}{a:Addr}{Az:List (Key × V)}{A:Around}{E:Value->Shared->Prop}
end
section
variable{X:Cx}{Ae:Ba}{σ:St}{H:Hp}{s:Shared}{a:Addr}{y:V}{u:Value}{A:Around}{E:Value->Shared->Prop}
end
section
variable{X:Cx}
end
end L2
namespace L2
open PySem PySem.Spec PyProof.Rows PySem.SeqAt
noncomputable def cK(ms:List (Int × Int)):List (Key × V):=ms.map fun p=>(Sum.inl p.1,V.int p.2)
noncomputable def Oe(ms:List (Int × Int))(k:Int):Option Int:=(ms.find? fun p=>decide (p.1=k)).map (·.2)
end L2
namespace L2
open PySem PySem.Spec PyProof.Rows
section
variable{prog:Program}{w:World}{A:Around}{E:Value->Shared->Prop}
theorem Wr:typeLookup (.type "list") "keys"=pure none:=am_miss_of_fast (by kernel_rfl)
theorem Sa{s:Shared}{a:Addr}{xs:Array Value}{k:Nat}{Q:Option Value->Shared->Prop}
 (hx:s.heap.get? a=some { cls:=.type "list",data:=.seq xs k }) (hA:A.handled=none)
 (h:∀h' tk,(∀b o,s.heap.get? b=some o->h'.get? b=some o)->Q none { s with heap:=h',toks:=tk }) :
 wpAny (model prog w) A (getAttr? (.ref a) "keys") Q E s:=by
 obtain⟨hp,g,d,tk,os⟩:=s;have hT:∀tk',(⟨hp,g,d,tk',os⟩:Shared).TypeIs (.ref a) "list":=fun _=>⟨_,hx,rfl⟩
 have f1:=sub_AttributeError;have f3:=F.slot_list_getattribute.lookup;have f4:=F.slot_list_getattribute.bind (.ref a);have f5:=am_list_getattr_none;unfold getAttr? getAttrBy? getAttrBy
 repeat (any_goals (first | assumption | exact hT _ | ((with_reducible show wpAny _ _ (call (Value.builtin "list.__getattribute__") _ _) _ _ _);refine call_meets F.slot_list_getattribute (hT _) am_entry_list_getattribute (F.args_list_getattribute_2 _ _) (meets_getattribute_miss_list a xs k #[] "keys" _ Wr (by decide +kernel)) ⟨hx,hA,fun h' tk' e hx'=>?_⟩) | wp_step))
 obtain⟨t',u',he⟩:=hx'.there;show wpAny _ _ (getattributeRaised _ _ _ _ _ _ _) _ _ _;unfold getattributeRaised
 repeat (any_goals (first | assumption | wp_step))
 exact h _ _ hx'.keeps
theorem Ii:plainId "dict.update.loop"=true:=by decide +kernel
theorem Qc:entryFor table "dict.update.loop"=some Builtin.«dict.update.loop»:=entryFor_of_fast (by kernel_rfl)
variable{KT:Type}[DecidableEq KT]{knd:KeyKind prog w KT}
noncomputable def oV(d it:Addr)(h0 h:Heap):Prop:=∀b o,b≠d->b≠it->h0.get? b=some o->h.get? b=some o
theorem bS(hh:A.handled=none){d it l:Addr}{items:Array Value}{prs:List (KT × Value)}(hl:prs.length=items.size)(NO:d≠it)(TV:l≠d)(tV:l≠it){h0:Heap}(hL:h0.IsList l items)
 (hP:∀(i:Nat) (x:Value),items[i]?=some x->∃(p:KT × Value) (t:Addr) (key:Value),prs[i]?=some p/\x=.ref t/\t≠d/\t≠it/\h0.IsTuple t #[key,p.2]/\knd.is p.1 key=true) {R:Result->Shared->Prop} :
 ∀(n i:Nat) (s:Shared) (acc:List (KT × Value)),prs.length-i=n->i<=prs.length->acc.length+n<=sizeLine->s.heap.DictOf knd d acc->s.heap.IsListIter it l i->oV d it h0 s.heap →
   (∀h' tk,h'.DictOf knd d (merged acc (prs.drop i))->oV d it h0 h'->R (.ok (.ret .none)) { s with heap:=h',toks:=tk }) →
   codeAny (model prog w) A (.builtin "dict.update.loop" ⟨[.ref d,.ref it,rawInt i,.none],[]⟩) R s:=by
 intro n
 induction n with
 | zero =>
   intro i s acc hn hi hz hd hit hb k;refine codeAny_builtin Qc ?_;rw[qm8 Ii];have fM:s.heap.IsList l items:=let ⟨o,ho,r⟩:=hL;⟨o,hb _ _ TV tV ho,r⟩
   have hx:items[i]?=none:=by simp;omega
   show wpAny _ _ (pyNext (.ref it)>>=_) _ _ s;refine qa5 (wpAny_pyNext_list_end hh hit fM hx fun h' he=>?_);show wpAny _ _ (Builtin.Dict.addKeywords d []>>=_) _ _ _;refine qa5 (qb2 (qb2 ?_));have e:prs.drop i=[]:=by simp;omega
   have k':=k h' s.toks (by rw[e];exact hd.extBut he NO) fun b o n1 n2 q=>he b o n2 (hb b o n1 n2 q);exact k'
 | succ n ih =>
   intro i s acc hn hi hz hd hit hb k;refine codeAny_builtin Qc ?_;rw[qm8 Ii];have fM:s.heap.IsList l items:=let ⟨o,ho,r⟩:=hL;⟨o,hb _ _ TV tV ho,r⟩
   have hlt:i<items.size:=O9m
   obtain⟨p,t,key,hp,ex,OZ,tU,hT,hkey⟩:=hP i items[i] (by simp[hlt]);show wpAny _ _ (pyNext (.ref it)>>=_) _ _ s;refine qa5 (wpAny_pyNext_list_item hit fM (x:=items[i]) (by simp[hlt]) fun h1 rK hs1=>?_);rw[ex];have hT1:h1.IsTuple t #[key,p.2]:=let ⟨o,ho,r⟩:=hT;⟨o,(hs1.2 t tU).trans (hb _ _ OZ tU ho),r⟩
   have hd1:h1.DictOf knd d acc:=hd.sameBut hs1 NO;obtain⟨o,ho,hc,m,hdat⟩:=hT1;refine qa5 (qi8 ?_);refine qa5 (wpAny_tryCatch ?_);unfold Builtin.Dict.pairItems;refine qa5 (wpAny_typeOf (show(({ s with heap:=h1 }:Shared).TypeIs (.ref t) "tuple") from⟨o,ho,hc⟩) ?_);rw[if_pos (by decide)];refine qa5 (qh3 ho hdat (qb2 ?_));show wpAny _ _ (holding [key,p.2] (dictSet d key p.2)) _ _ _;refine qi8 (wpAny_dictSet_pairs (s:={ s with heap:=h1 }) hkey hd1 (fun h2 hd2 hs2=>?_) O9m);refine qb2 ⟨plainId_quiet Ii _,?_⟩
   have e2:prs.drop i=p::prs.drop (i+1):=by
    rw[List.drop_eq_getElem_cons (by omega)]
    congr 1
    rw[qa0 (by omega)]at hp;exact qb6 hp
   have hl2:=stored_length_le acc p.1 p.2;refine ih (i+1) { s with heap:=h2,toks:=s.toks+1 } (stored acc p.1 p.2) O9m O9m O9m hd2 ?_ (fun b o' n1 n2 q=>?_) (fun h' tk hd' hb'=>k h' tk (by rw[e2];exact hd') hb')
   . obtain⟨oi,WK,ri⟩:=rK;exact⟨oi,(hs2.2 it (Ne.symm NO)).trans WK,ri⟩
   . exact(hs2.2 b n1).trans ((hs1.2 b n2).trans (hb b o' n1 n2 q))
end
theorem vals_pair{x y:V}{us:List Value}(r:Vals [x,y] us):∃a b,us=[a,b]/\RelV x a/\RelV y b:=by
 cases r with
 | cons h1 r =>
   cases r with
   | cons h2 r =>
     cases r;exact⟨_,_,rfl,h1,h2⟩
theorem Yl{P:Program}{w:World}{H:Hp}{h:Heap}(hok:Mo P w H h):∀(ts:List Addr) (Az:List (Key × V)),ts.length=Az.length->(∀(i:Nat) t,ts[i]?=some t->∃kv:Key × V,Az[i]?=some kv/\H t=some (.tup [kV kv.1,kv.2])) →
 ∃prs:List (Key × Value),KV Az prs/\prs.length=ts.length/\∀(i:Nat) t,ts[i]?=some t->∃(p:Key × Value) (key:Value),prs[i]?=some p/\h.IsTuple t #[key,p.2]/\(mixKind P w).is p.1 key=true
 | [],[],_,_=>⟨[],.nil,rfl,fun i t e=>by simp at e⟩
 | [],_::_,hl,_=>by simp at hl
 | _::_,[],hl,_=>by simp at hl
 | t::ts,kv::Az,hl,hk=>by
   obtain⟨prs,h1,h2,h3⟩:=Yl hok ts Az (by simpa using hl) fun i t e=>by
    obtain⟨kv',e1,e2⟩:=hk (i+1) t (by simpa using e);exact⟨kv',by simpa using e1,e2⟩
   obtain⟨kv',e1,e2⟩:=hk 0 t rfl;have XQ:kv=kv':=by simpa using e1
   subst XQ;obtain⟨_,its,rv,o,ho,hc,hdn,n,hd⟩:=hok t _ e2;obtain⟨a,b,rfl,ra,rb⟩:=vals_pair rv;refine⟨(kv.1,b)::prs,.cons ⟨rfl,rb⟩ h1,by simp[h2],fun i t' e=>?_⟩;cases i with
   | zero =>
     have:t=t':=by simpa using e
     subst this;exact⟨(kv.1,b),a,rfl,⟨o,ho,hc,n,hd⟩,kV_is ra⟩
   | succ i =>
     obtain⟨p,key,q1,q2,q3⟩:=h3 i t' (by simpa using e);exact⟨p,key,by simpa using q1,q2,q3⟩
theorem t9{X:Cx}(hc:X.calm=true):E9 X (.type "dict") (fun xs H Q=>∃(p:Addr) (ts:List Addr) (Az:List (Key × V)),xs=[.ref p]/\H p=some (.lst (ts.map V.ref))/\ts.length=Az.length ∧
 (∀(i:Nat) t,ts[i]?=some t->∃kv:Key × V,Az[i]?=some kv/\H t=some (.tup [kV kv.1,kv.2]))/\∀D,H D=none->Q (.ref D) (upd H D (.dK (mergeK [] Az)))):=by
 intro Ae s σ H xs us Q I r h;obtain⟨l,ts,Az,rfl,hl,hlen,hk,q⟩:=h;obtain⟨u,rfl,ru⟩:=Ma r;cases ru;have hh:X.A.handled=none:=I.ok.hd hc;obtain⟨hz,its,n,rv,ho⟩:=I.hok l _ hl;rw[qa1]at hz;have hil:its.length=ts.length:=by rw[←rv.length,qa1]
 obtain⟨prs,hkv,hpl,hP⟩:=Yl I.hok ts Az hlen hk
 have at_:∀(i:Nat) (x:Value),its.toArray[i]?=some x->∃t,ts[i]?=some t/\x=.ref t:=fun i x e=>by
  have e':its[i]?=some x:=by simpa using e
  have hlt:i<its.length:=(qa2.mp e').1;have hb:ts[i]?=some (ts[i]'(O9m)):=by simp<;>omega
  obtain⟨u,hu,ru⟩:=rv.get (i:=i) (x:=V.ref (ts[i]'(O9m))) (by rw[qa3,hb];rfl);rw[e']at hu;cases hu;cases ru;exact⟨_,hb,rfl⟩
 refine callType_codes (Q₁:=fun obj s₁=>obj=.ref s.heap.objs.size/\s₁={ s with heap:=s.heap.push { cls:=.type "dict",data:=.dict #[] } }) PySem.F.kt_called_dict (PySem.F.kt_typeCall_dict_1 _) PySem.F.entry_dict_init (kt_code_dict_new _ ⟨rfl,rfl⟩) ?_;rintro obj s₁ ⟨rfl,rfl⟩;have hnew:(s.heap.push { cls:=.type "dict",data:=.dict #[] }).DictOf (mixKind X.prog X.w) s.heap.objs.size []:=Heap.DictOf.new s.heap;refine⟨hnew.typeIs,PySem.F.args_dict_init_2 _ _,?_⟩;unfold Builtin.«dict.__init__»;refine qa5 ?_;unfold Builtin.Dict.selfAndRest;refine qa5 (wpAny_notOrdered_dict hnew.typeIs ?_);show wpAny _ _ (pure (s.heap.objs.size,[Value.ref l])) _ _ _;refine qb2 ?_;show wpAny _ _ (Builtin.Dict.updateFrom "dict.__init__" s.heap.objs.size (.ref l) [] .none) _ _ _;unfold Builtin.Dict.updateFrom;have pH:(s.heap.push { cls:=.type "dict",data:=.dict #[] }).get? l=some { cls:=.type "list",data:=.seq its.toArray n }:=qa7 _ ho;refine qa5 (wpAny_typeOf (show(({ s with heap:=s.heap.push { cls:=.type "dict",data:=.dict #[] } }:Shared).TypeIs (.ref l) "list") from⟨_,pH,rfl⟩) ?_);rw[if_pos (by decide)];refine qa5 (Sa pH hh fun h1 tk hk1=>?_);rw[if_pos (show(none:Option Value).isNone=true from rfl)];refine qa5 (wpAny_rule ?_);have hl1:h1.IsList l its.toArray:=⟨_,hk1 _ _ pH,rfl,n,rfl⟩
 refine qa5 (wpAny_pyIter_list hl1 ?_);refine qb2 ⟨plainId_quiet Ii _,?_⟩;have yC:l<s.heap.objs.size:=qb0 ho;have nD:∀b o,s.heap.get? b=some o->b≠s.heap.objs.size:=fun b o e=>qc7 (qb0 e);have up:∀b o,s.heap.get? b=some o->h1.get? b=some o:=fun b o e=>hk1 _ _ (qa7 _ e);have nI:∀b o,s.heap.get? b=some o->b≠h1.objs.size:=fun b o e=>qc7 (qb0 (up b o e));obtain⟨oD,esD,UQ,pG,rD⟩:=id hnew;have J9:h1.DictOf (mixKind X.prog X.w) s.heap.objs.size []:=⟨oD,esD,UQ,hk1 _ _ pG,rD⟩
 have NO:s.heap.objs.size≠h1.objs.size:=qc7 (qb0 (hk1 _ _ pG))
 refine bS (knd:=mixKind X.prog X.w) (show X.A.in1.handled=none from hh) (prs:=prs) (items:=its.toArray) (l:=l) (d:=s.heap.objs.size) (it:=h1.objs.size) (h0:=h1.push { cls:=.type "list_iterator",data:=.fields #[.ref l,.int 0 0] }) (by simp;omega) NO (nD _ _ ho) (nI _ _ ho)
  ⟨_,qa7 _ (hk1 _ _ pH),rfl,n,rfl⟩ (fun i x e=>?_) prs.length 0 _ [] O9m O9m ?_ (J9.push _) ⟨_,qc0 _ rfl,rfl,rfl⟩ (fun b o _ _ e=>e) (fun h' tk' hd' hb'=>?_)
 . obtain⟨t,e1,rfl⟩:=at_ i x e;obtain⟨p,key,e2,⟨o,ho',r'⟩,e4⟩:=hP i t e1;exact⟨p,t,key,e2,rfl,nD _ _ ho',nI _ _ ho',⟨o,qa7 _ (up _ _ ho'),r'⟩,e4⟩
 . have e0:([]:List (Key × Value)).length=0:=rfl;omega
 . refine⟨rfl,.ref s.heap.objs.size,upd H s.heap.objs.size (.dK (mergeK [] Az)),?_,rfl,q _ (I.hok.fresh (qa9 _))⟩
   have VY:(mergeK [] Az).length<=sizeLine:=by
    have h1:=Mh Az [];rw[qh1]at h1;omega
   refine I.laid (a:=s.heap.objs.size) (o:=.dK (mergeK [] Az)) (t':=tk') (fun b o e=>hb' b o (nD _ _ e) (nI _ _ e) (qa7 _ (up _ _ e))) (qa9 _) (Xe VY (qj4.mpr (Ne.symm (qc7 I.big))) (hkv.merge .nil) ?_);simpa using hd'
theorem Oc:∀(more Az:List (Key × V)),((Az++more).map (·.1)).Nodup->mergeK Az more=Az++more
 | [],Az,_=>by simp[mergeK]
 | p::more,Az,h=>by
   have hnot:(Az.any fun kv=>decide (kv.1=p.1))=false:=by
    rw[List.any_eq_false];intro kv hkv hd;have e:kv.1=p.1:=by simpa using hd
    rw[qa6,List.nodup_append]at h;exact h.2.2 kv.1 (List.mem_map_of_mem hkv) p.1 (by simp) e
   have e:putK Az p.1 p.2=Az++[p]:=by
    unfold putK;rw[if_neg (by rw[hnot];decide)]
   show mergeK (putK Az p.1 p.2) more=_;rw[e,Oc more (Az++[p]) (by simpa using h)];simp
end L2
namespace L2
open PySem PySem.Spec PyProof.Rows PySem.SeqAt
end L2
namespace L2
open PySem PySem.Spec PyProof.Rows
section
variable{X:Cx}{Ae:Ba}{σ:St}{H:Hp}{s:Shared}{a:Addr}{Az:List (Key × V)}
end
section
variable{g:TG}{tc:TT}{te:TE}{D:Addr}{Q:Hp->Prop}{τ:St}{H:Hp}
end
end L2
namespace L2
open PySem PySem.Spec PyProof.Rows PySem.SeqAt
theorem dN{ms:List (Int × Int)}:((cK ms).map (·.1)).Nodup↔(ms.map (·.1)).Nodup:=by
 unfold cK List.Nodup;rw[qg6,qk6,qk6];constructor
 . intro h;exact h.imp fun {a b} n z=>n (by simp[z])
 . intro h;exact h.imp fun {a b} n z=>n (by simpa using z)
section
variable{X:Cx}{Ae:Ba}{σ:St}{H:Hp}{s:Shared}{a:Addr}{ms:List (Int × Int)}
end
section
variable{X:Cx}{n:Nat}{K:W.Frag}
end
end L2
namespace L2
open PySem PySem.Spec PyProof.Rows
theorem u1{n c:Nat}(h:n+8<c):n+1<c:=O9m
theorem LJ(ms:List (Int × Int))(k:Int):valV (cK ms) (Sum.inl k)=(Oe ms k).map V.int:=by
 unfold Oe cK valV;rw[List.find?_map,Option.map_map,Option.map_map]
 have e:((fun p:Key × V=>decide (p.1=Sum.inl k)) ∘ fun p:Int × Int=>((Sum.inl p.1:Key),V.int p.2))=fun p:Int × Int=>decide (p.1=k):=by
  funext p
  simp
 rw[e];rfl
theorem j5(p:Int × Int)(ms:List (Int × Int))(k:Int):Oe (p::ms) k=if p.1=k then some p.2 else Oe ms k:=by
 unfold Oe;by_cases q:p.1=k
 . rw[List.find?_cons_of_pos (by simpa using q),if_pos q];rfl
 . rw[List.find?_cons_of_neg (by simpa using q),if_neg q]
section
variable{P:Program}{w:World}{K:W.Frag}{mg:Str->Option Value}{base:Heap}
end
section
variable{X:Cx}{x:Str}{ps:List Str}{j k:Nat}{sp:Sp}{p pos:Pos}{e:Expr}{es:List Expr}{t:TA}
end
theorem Mf{α β:Type}{F:α->β->Prop}:∀{l:List α}{m:List β},l.length=m.length->(∀(i:Nat) (x:α) (y:β),l[i]?=some x->m[i]?=some y->F x y)->Paired F l m
 | [],[],_,_=>.nil
 | [],_::_,h,_=>by simp at h
 | _::_,[],h,_=>by simp at h
 | x::l,y::m,h,f=>.cons (f 0 x y rfl rfl) (Mf (by simpa using h) fun i a b ha hb=>f (i+1) a b (by simpa using ha) (by simpa using hb))
noncomputable def Go(n:Nat):List Int:=(List.range n).map fun(i:Nat)=>(i:Int)
theorem C2(n:Nat):(Go n).length=n:=by simp[Go]
theorem Ib{n i:Nat}(h:i<n):(Go n)[i]?=some (i:Int):=by
 unfold Go;rw[qa3,ql4 h];rfl
noncomputable def mT(ta:TA):TE:=fun σ H Q=>ta σ H fun vs H1=>∃n:Nat,vs=[.int (n:Int)]/\n<=1000000/\∀l,H1 l=none->Q (.ref l) (upd H1 l (.lst ((Go n).map V.int)))
theorem J0{X:Cx}{a:Expr}{ta:TA}{p q pos pos2:Pos}(hc:X.calm=true)(RM:Gl X "list")(hm1:X.mg "list"=none)(RL:Gl X "range")(hm2:X.mg "range"=none)(ha:PA X [a] ta)
 (hs:starEach [a] X.env=[(false,eval a X.env)]:=by rfl) (hs2:starEach [.Call (.Name "range" q) [a] [] pos2] X.env=[(false,eval (.Call (.Name "range" q) [a] [] pos2) X.env)]:=by rfl) :
 PE X (.Call (.Name "list" p) [.Call (.Name "range" q) [a] [] pos2] [] pos) (mT ta):=by
 intro Ae s σ H Q I h;refine Call_ (Iw I RM hm1 Ez (qf4 ?_ hs2 rfl));rw[hs2];refine qo2 ?_;refine Call_ (Iw I RL hm2 boot_range (qf4 (C8 (ha pos2 Ae s σ H _ I h) fun us s1 _z=>?_) hs rfl));obtain⟨vs,H1,I1,r1,q1⟩:=_z;obtain⟨n,e,hn,q⟩:=q1;subst e;obtain⟨u,rfl,ru⟩:=Ma r1;obtain⟨t,rfl⟩:=ru;refine call_range_1 (qo9 ?_);have I2:=I1.kept (h':=s1.heap.push { cls:=.type "range",data:=.fields #[.int 0 s1.toks,.int (n:Int) t,.int 1 (s1.toks+1)] }) (t':=s1.toks+1+1) fun b o e=>qa7 _ e;refine call_list_range (n:=n) (I2.ok.hd hc) (IsRange.new ..) (small_one (by decide) (by decide) O9m O9m) ?_ O9m fun h' tk acc' c' kp e it=>?_
 . rw[rangeSize_one];split<;>omega
 . obtain⟨sz,get⟩:=it;have hf:=I2.hok.fresh (qa9 _);have hz:((Go n).map V.int).length<=sizeLine:=by rw[qa1,C2,sizeLine_eq];omega
   have rel:Vals ((Go n).map V.int) acc'.toList:=by
    refine Mf ?_ ?_
    . rw[qa1,C2];simpa using sz.symm
    . intro i x y hx hy
      have hi:i<n:=by
       have:=(qa2.mp hx).1
       rwa [qa1,C2]at this
      rw[qa3,Ib hi]at hx;cases hx;obtain⟨t',rfl⟩:=get i y (by simpa using hy);exact⟨t',by simp⟩
   refine⟨.ref _,_,I2.laid (t':=tk) kp (qa9 _) (show ObjOk X.prog X.w _ h' _ (.lst ((Go n).map V.int)) from⟨hz,acc'.toList,c',rel,?_⟩),rfl,q _ hf⟩;simpa using e
noncomputable def QL:R2:=fun x y H Q=>∃a Az k,y=.ref a/\H a=some (.dK Az)/\x=kV k/\Q (.bl (valV Az k).isSome) H
theorem JS{X:Cx}(hu:X.A.units+1<cLine):OpR X (compareOp .In) QL:=by
 intro Ae s σ H x y v u Q I rx ry h;obtain⟨a,Az,k,rfl,ha,rfl,q⟩:=h;obtain rfl:u=Value.ref a:=ry;exact SQ hu I (.k ha) rx fun s3 I3=>⟨.bl (valV Az k).isSome,H,I3,rfl,q⟩
section
variable{X:Cx}{K:W.Frag}
theorem Uz:OpR X (compareOp .LtE) (fun x y H Q=>∃i j,x=.str i/\y=.str j/\Q (.bl (!decide (j.cps.toList<i.cps.toList))) H):=by
 intro Ae s σ H x y v u Q I rx ry h;obtain⟨i,j,rfl,rfl,q⟩:=h;obtain⟨t,rfl⟩:=rx;obtain⟨t',rfl⟩:=ry;exact PySem.P.le_str (B7 I q rfl)
theorem Ud:∀{ys:List Str}{us:List Value},Vals (ys.map V.str) us->StrsAre us ys
 | [],_,h=>by
   cases h;exact .nil
 | y::ys,_,h=>by
   cases h with
   | cons r q =>
     obtain⟨t,rfl⟩:=r;exact .cons y t (Ud q)
theorem Ua:∀(l:List (Str × Tok)),Vals ((l.map (·.1)).map V.str) (strValues l)
 | []=>.nil
 | (y,t)::l=>.cons ⟨t,rfl⟩ (Ua l)
noncomputable def NC(K:W.Frag):V->List V->Hp->VK->Prop:=fun x vs H Q=>∃sep a ys,x=.str sep/\vs=[.ref a]/\SqL K H a (ys.map V.str)/\(ys.map (·.length)).sum+ys.length*sep.length<=16777216/\Q (.str (Txt.join sep ys)) H
theorem Fk(hK:X.K=K:=by rfl):mD X "str.join" (NC K):=by
 subst hK;intro Ae s σ H x vs v us Q I rx rv h;obtain⟨sep,a,ys,rfl,rfl,hq,hz,q⟩:=h;obtain⟨t,rfl⟩:=rx;obtain⟨u,rfl,ru⟩:=rv.one;cases ru;obtain⟨its,rl,p,_⟩:=I.list hq;exact join_list p.isList (by simpa using Ud rl) hz fun t' k=>⟨.str (Txt.join sep ys),H,I.tok k,⟨t',rfl⟩,q⟩
noncomputable def jN:V->List V->Hp->VK->Prop:=fun x vs H Q=>∃z y,x=.str z/\vs=[.str y]/\(y.length==0)=false/\z.length+2<=sizeLine/\∀l,H l=none->Q (.ref l) (upd H l (.lst ((Txt.split z y).map V.str)))
theorem Jf:mD X "str.split" jN:=by
 intro Ae s σ H x vs v us Q I rx rv h;obtain⟨z,y,rfl,rfl,hy,hz,q⟩:=h;obtain⟨t,rfl⟩:=rx;obtain⟨u,rfl,ru⟩:=rv.one;obtain⟨t',rfl⟩:=ru
 have fin:∀(l:List (Str × Tok)) (k:Nat),l.map (·.1)=Txt.split z y->l.length<=sizeLine->EP X Ae σ Q (.ref s.heap.objs.size) { s with heap:=s.heap.push { cls:=.type "list",data:=.seq (strValues l).toArray },toks:=k }:=fun l k e hl=>by
  refine⟨.ref s.heap.objs.size,upd H s.heap.objs.size (.lst ((Txt.split z y).map V.str)),I.laid (t':=k) (fun b u e=>qa7 _ e) (qa9 _) ?_,rfl,q _ (I.hok.fresh (qa9 _))⟩;rw[←e];exact⟨by simpa using hl,strValues l,0,Ua l,qc0 _ rfl⟩
 have hn:(Builtin.Str.partsBetween z (Builtin.Str.occurrences z y 0 z.length (z.length+1)) y.length).length<=sizeLine:=by
  have e1:=StrLaws.occ_length_le z y 0 z.length (z.length+1);rw[length_partsBetween];omega
 have one:[(z,t)].length<=sizeLine:=by show 1<=sizeLine;decide
 cases h1:(decide (z.length<y.length) || decide (Builtin.Str.strKind z<Builtin.Str.strKind y))
 . cases hf:(Builtin.Str.occurrences z y 0 z.length (z.length+1)).isEmpty
   . refine call_meets F.slot_str_split (typeIs_str _ _ _) F.entry_str_split (F.args_str_split_2 _ _) (meets_str_split_sep z y t t' h1 hy hf O9m hn) ?_;show wants _ _ _ { s with toks:=_,heap:=s.heap.push { cls:=.type "list",data:=.seq (strsFrom s.toks (Builtin.Str.partsBetween z (Builtin.Str.occurrences z y 0 z.length (z.length+1)) y.length)).toArray } };rw[strsFrom_eq];have e2:=numbered_texts s.toks (Builtin.Str.partsBetween z (Builtin.Str.occurrences z y 0 z.length (z.length+1)) y.length);refine fin (numbered s.toks _) _ (e2.trans ((if_neg (ne_true_of_eq_false h1)).trans (if_neg (ne_true_of_eq_false hf))).symm) ?_;have e3:=congrArg List.length e2;rw[qa1]at e3;rw[e3];exact hn
   . exact call_meets F.slot_str_split (typeIs_str _ _ _) F.entry_str_split (F.args_str_split_2 _ _) (meets_str_split_not_found z y t t' h1 hy hf)
      (fin [(z,t)] s.toks ((if_neg (ne_true_of_eq_false h1)).trans (if_pos hf)).symm one)
 . exact call_meets F.slot_str_split (typeIs_str _ _ _) F.entry_str_split (F.args_str_split_2 _ _) (meets_str_split_cannot_occur z y t t' h1)
    (fin [(z,t)] s.toks (if_pos h1).symm one)
noncomputable def sX(x:Str):It:=⟨fun i _=>i<x.cps.size,fun i H v H'=>H'=H/\∃c,x.cps[i]?=some c/\v=.str ⟨#[c]⟩,fun i _=>x.cps.size<=i⟩
theorem CN{P:Program}{w:World}{K:W.Frag}{tg:Expr}(it:Addr)(x:Str)(t:Tok):Xt P w K tg (sX x) [it] it (fun i h=>h.IsStrIter it "str_ascii_iterator" x t i) where
 mem:=by simp
 obj:=fun i h st b hb=>by
  have e:b=it:=by simpa using hb
  subst e;obtain⟨o,e,c,d⟩:=st;exact⟨o,e,fun v z=>by rw[d]at z;cases z⟩
 keep:=fun i h h' st k=>by
  obtain⟨o,e,c,d⟩:=st;exact⟨o,k it (by simp) _ e,c,d⟩
 item:=by
  intro X hP hw hK hc i Ae s σ H E I hf st hg;subst hP hw hK;obtain⟨f0,f1,f2,f3,f4,f5⟩:=hf it (by simp);have hi:i<x.cps.size:=hg;refine wpAny_pyNext_ascii_item st (c:=x.cps[i]) (by simp[hi]) fun h' st' sb=>?_;have I1:Bd X Ae σ H { s with heap:=h',toks:=s.toks+1 }:=I.turned (fun b o hb e=>(sb.2 b hb).trans e) f0 f1 f3 f4 f5;obtain⟨o,e,c,d⟩:=id st';exact⟨_,rfl,aF (s:={ s with heap:=h',toks:=s.toks+1 }) e c d (by decide) ⟨.str ⟨#[x.cps[i]]⟩,H,I1,⟨_,rfl⟩,⟨rfl,_,by simp[hi],rfl⟩,st',fun b hb=>(hf b hb).1⟩⟩
 done:=by
  intro X hP hw hK hc i Ae s σ H E I hf st hg;subst hP hw hK;obtain⟨f0,f1,f2,f3,f4,f5⟩:=hf it (by simp);have hi:x.cps.size<=i:=hg;exact wpAny_pyNext_ascii_end (I.ok.hd hc) st (by simp[hi]) fun h' eb=>⟨rfl,I.turned (t':=s.toks) (fun b o hb e=>eb b o hb e) f0 f1 f3 f4 f5⟩
 self:=fun _ _ _ _ _ st h=>wpAny_pyIter_striter_ascii st h
noncomputable def qV(tl:TE):TI:=fun σ H R=>tl σ H fun v H1=>∃x,v=.str x/\x.cps.all (·<128)=true/\R (sX x) H1
theorem JP{tg l:Expr}{tl:TE}(hl:PE X l tl):PI X tg l (qV tl):=by
 intro Ae s σ H R I h;refine C8 (hl Ae s σ H _ I h) fun v s1 _z=>?_;obtain⟨x,H1,I1,r1,q1⟩:=_z;obtain⟨z,rfl,ha,q⟩:=q1;obtain⟨t,rfl⟩:=r1;refine wpAny_pyIter_ascii ha ?_;refine⟨s1.heap.objs.size,[s1.heap.objs.size],_,_,H1,rfl,I1.kept (t':=s1.toks) fun b o e=>qa7 _ e,CN _ z t,⟨_,qc0 _ rfl,rfl,rfl⟩,fun b hb=>?_,q⟩;have e:b=s1.heap.objs.size:=by simpa using hb
 subst e;exact I1.fpOk (qa9 _) (I1.hok.fresh (qa9 _))
theorem FD{g:TG}{te:TE}{D:Addr}{Q:Hp->Prop}{τ:St}{H:Hp}{x:Str}(Pv:Nat->List V->St->Hp->Prop)(h0:Pv 0 [] τ H)
 (hs:∀i c ys τ H,x.cps[i]?=some c->Pv i ys τ H->g (.str ⟨#[c]⟩) τ H fun τ2 H2=>te τ2 H2 fun y H4=>H4 D=some (.lst ys)/\ys.length<sizeLine/\Pv (i+1) (ys++[y]) τ2 (upd H4 D (.lst (ys++[y]))))
 (hd:∀ys τ H,Pv x.cps.size ys τ H->Q H):Qu (sX x) g aW te D Q τ H:=by
 refine⟨fun i m ys τ H=>m=x.cps.size-i/\i<=x.cps.size/\Pv i ys τ H,⟨x.cps.size,by simp,qb3 _,h0⟩,?_⟩;rintro i m ys τ H ⟨rfl,hi,p⟩;by_cases hlt:i<x.cps.size
 . refine .inr ⟨hlt,Pv (i+1),fun ys' τ' H' p'=>⟨x.cps.size-(i+1),O9m,rfl,hlt,p'⟩,fun v H' y=>?_⟩;obtain⟨e,c,hc,y⟩:=y;subst e y;exact hs i c ys τ _ hc p
 . have e:i=x.cps.size:=O9m
   subst e;exact .inl ⟨qa9 _,hd ys τ H p⟩
noncomputable def CT(z:Str)(lo hi:Option Int):Str:=if ((Builtin.Str.strSliceIndices lo hi 1 z.length).length==z.length)=true then z else⟨((Builtin.Str.strSliceIndices lo hi 1 z.length).filterMap (z.cps[·]?)).toArray⟩
noncomputable def QK:V->Option Int->Option Int->Hp->VK->Prop:=fun x lo hi H Q=>∃z,x=.str z/\(CT z lo hi).length<=sizeLine/\Q (.str (CT z lo hi)) H
theorem Yj{v:Value}{o:Option Int}(h:IsPart v o):∃p:Option (Int × Tok),v=partValue p/\p.map (·.1)=o:=by
 cases h with
 | none=>exact⟨none,rfl,rfl⟩
 | int i t=>exact⟨some (i,t),rfl,rfl⟩
theorem a9:LO X QK:=by
 intro Ae s σ H x v vl vu lo hi sl Q I rx hs pl pu h;obtain⟨z,rfl,hz,q⟩:=h;obtain⟨t,rfl⟩:=rx;obtain⟨l,rfl,rfl⟩:=Yj pl;obtain⟨u,rfl,rfl⟩:=Yj pu;refine⟨"str",_,F.slot_str_getitem.lookup,typeIs_str _ _ _,?_⟩;refine wpAny_getItem_str_slice (l:=l) (u:=u) (st:=none) hs rfl ?_;unfold sliceMade slicePicked;unfold CT at hz q;simp only[Option.map_none,Option.getD_none,beq_self_eq_true,Bool.true_and];split
 . rename_i e
   rw[if_pos e]at q;exact⟨.str z,H,I,⟨t,rfl⟩,q⟩
 . rename_i e
   rw[if_neg e]at q hz;exact⟨hz,⟨.str _,H,I.tok _,⟨_,rfl⟩,q⟩⟩
noncomputable def GB:R2:=fun x y H Q=>∃a Az k,y=.ref a/\H a=some (.dK Az)/\x=kV k/\Q (.bl (!(valV Az k).isSome)) H
theorem Ux(hu:X.A.units+1<cLine):OpR X (compareOp .NotIn) GB:=by
 intro Ae s σ H x y v u Q I rx ry h;obtain⟨a,Az,k,rfl,ha,rfl,q⟩:=h;obtain rfl:u=Value.ref a:=ry;exact HU hu I (.k ha) rx fun s3 I3=>⟨.bl (!(valV Az k).isSome),H,I3,rfl,q⟩
end
end L2
set_option maxHeartbeats 1000000
namespace Tx
open PySem PySem.Builtin PySem.Builtin.Str PySem.StrLaws
noncomputable def J(y:List Nat):List (List Nat)->List Nat
 | []=>[]
 | [p]=>p
 | p::q::r=>p++(y++J y (q::r))
theorem iC{x y:Str}{k:Nat}(h:At x y x.length k):(x.cps.toList.drop k).take y.length=y.cps.toList:=by
 have:=h.2;rw[subAt_eq]at this;exact eq_of_beq this
theorem aN{x y:Str}{k c0:Nat}{ys:List Nat}(e:y.cps.toList=c0::ys)(h:At x y x.length k):x.cps.toList[k]?=some c0:=by
 have h1:=iC h;rw[e]at h1;have h2:=congrArg (fun l=>l[0]?) h1;simp only[qm0]at h2
 have hy:0<y.length:=by
  have:y.cps.toList.length=y.length:=by simp[Str.length]
  rw[←this,e];simp
 rw[qj1 hy,qq5]at h2;simpa using h2
theorem y9{x y:Str}{c0:Nat}{ys:List Nat}(e:y.cps.toList=c0::ys):∀(ps:List Str) (cuts:List Nat) (a f:Nat),ChainG x y x.length a cuts f->(∀k,f<=k->¬At x y x.length k)->ps≠[] →
 x.cps.toList.drop a=J y.cps.toList (ps.map (·.cps.toList))->(∀p∈ps,c0 ∉ p.cps.toList)->a<=x.length->partsFrom x y.length a cuts=ps
 | [],_,_,_,_,_,h,_,_,_=>absurd rfl h
 | [p],cuts,a,f,hc,hn,_,hd,hp,ha=>by
   have hl:x.cps.toList.length=x.length:=by simp[Str.length]
   have hyl:y.cps.toList.length=y.length:=by simp[Str.length]
   have hd':x.cps.toList.drop a=p.cps.toList:=hd
   have no:∀k,a<=k->¬At x y x.length k:=fun k hk hA=>by
    have h1:=aN e hA;have h2:(x.cps.toList.drop a)[k-a]?=some c0:=by rw[qq5,show a+(k-a)=k by omega];exact h1
    rw[hd']at h2;exact hp p qd9 (qa8 h2)
   cases cuts with
   | cons c r=>exact absurd hc.2.1 (no c hc.1)
   | nil =>
     show [strSub x a x.length]=[p]
     congr 1
     apply Str.ext';apply Array.toList_inj.mp;rw[strSub_toList,hd',qf2];have:=congrArg List.length hd';rw[qh4]at this;omega
 | p::q::r,cuts,a,f,hc,hn,_,hd,hp,ha=>by
   have hl:x.cps.toList.length=x.length:=by simp[Str.length]
   have hyl:y.cps.toList.length=y.length:=by simp[Str.length]
   have hpl:p.cps.toList.length=p.length:=by simp[Str.length]
   have hd':x.cps.toList.drop a=p.cps.toList++(y.cps.toList++J y.cps.toList ((q::r).map (·.cps.toList))):=hd;have hlen:=congrArg List.length hd';rw[qh4,qb8,qb8]at hlen
   have no:∀k,a<=k->k<a+p.length->¬At x y x.length k:=fun k hk hk2 hA=>by
    have h1:=aN e hA;have h2:(x.cps.toList.drop a)[k-a]?=some c0:=by rw[qq5,show a+(k-a)=k by omega];exact h1
    rw[hd',qf8 (by omega)]at h2;exact hp p qd9 (qa8 h2)
   have d2:x.cps.toList.drop (a+p.length)=y.cps.toList++J y.cps.toList ((q::r).map (·.cps.toList)):=by
    rw[←List.drop_drop,hd',←hpl,List.drop_left]
   have yes:At x y x.length (a+p.length):=by
    refine⟨O9m,?_⟩;rw[subAt_eq,d2,←hyl,List.take_left];exact beq_self_eq_true _
   have d3:x.cps.toList.drop (a+p.length+y.length)=J y.cps.toList ((q::r).map (·.cps.toList)):=by
    rw[←List.drop_drop,d2,←hyl,List.drop_left]
   cases cuts with
   | nil =>
     have e1:f=a:=hc;exact absurd yes (hn _ O9m)
   | cons c cs =>
     have e2:c=a+p.length:=by
      have h1:=hc.2.2.1;have h2:=hc.2.1;by_cases h3:c<a+p.length
      . exact absurd h2 (no c hc.1 h3)
      . by_cases h4:a+p.length<c
        . exact absurd yes (h1 _ O9m h4)
        . omega
     subst e2;have ih:=y9 e (q::r) cs (a+p.length+y.length) f hc.2.2.2 hn (by simp) d3 (fun z hz=>hp z (qc1 _ hz)) O9m;show strSub x a (a+p.length)::partsFrom x y.length (a+p.length+y.length) cs=p::q::r;rw[ih]
     congr 1
     apply Str.ext';apply Array.toList_inj.mp;rw[strSub_toList,hd',show a+p.length-a=p.length by omega,←hpl,List.take_left]
theorem dZ(y:Str):∀ps:List Str,(Str.join y ps).cps.toList=J y.cps.toList (ps.map (·.cps.toList))
 | []=>by rfl
 | [p]=>by rfl
 | p::q::r=>by
   show(p++y++Str.join y (q::r)).cps.toList=p.cps.toList++(y.cps.toList++J y.cps.toList ((q::r).map (·.cps.toList)))
   simp only[qo4,qp8];rw[dZ y (q::r),qn2]
theorem split_join{y:Str}{c0:Nat}{ys:List Nat}(e:y.cps.toList=c0::ys)(hk:PySem.Builtin.Str.strKind y=1){ps:List Str}(h0:ps≠[])(hp:∀p∈ps,c0 ∉ p.cps.toList):Txt.split (Str.join y ps) y=ps:=by
 have hy:1<=y.length:=by
  have:y.cps.toList.length=y.length:=by simp[Str.length]
  rw[←this,e];simp
 obtain⟨f,hc,hn⟩:=occ_tight (Str.join y ps) y hy;have key:=y9 e ps _ 0 f hc hn h0 (by rw[qn0,dZ]) hp (qb3 _)
 have Cu:∀{l:List Nat},occurrences (Str.join y ps) y 0 (Str.join y ps).length ((Str.join y ps).length+1)=l->l=[]->[Str.join y ps]=ps:=fun {l} e1 e2=>by
  rw[e1,e2]at key
  have:partsFrom (Str.join y ps) y.length 0 []=[Str.join y ps]:=by
   show [strSub (Str.join y ps) 0 (Str.join y ps).length]=_;rw[sub_whole]
  rw[this]at key;exact key
 unfold Txt.split
 have hkx:1<=PySem.Builtin.Str.strKind (Str.join y ps):=by
  unfold PySem.Builtin.Str.strKind;split
  . decide
  . split<;>decide
 split
 . rename_i h1
   have h2:(Str.join y ps).length<y.length:=by
    rcases Bool.or_eq_true_iff.mp h1 with h | h
    . exact qe4 h
    . have:=qe4 h;omega
   refine Cu rfl ?_;cases ho:occurrences (Str.join y ps) y 0 (Str.join y ps).length ((Str.join y ps).length+1) with
   | nil=>rfl
   | cons c r =>
     rw[ho]at hc;have:=hc.2.1.1;omega
 . split
   . rename_i h1
     exact Cu rfl (List.isEmpty_iff.mp h1)
   . rw[partsBetween_eq];exact key
end Tx
namespace Hb
open PySem L2
theorem R8(n:Nat):By n=((n-1:Nat):Int):=by
 unfold By;split<;>omega
theorem eT{xs:LLInt}{p:List Int}(h:ID xs p):E7 xs (tI p)=true:=by
 have bl:∀f∈p,∃q,xs[f.toNat]?=some q/\xs.getD f.toNat []=q/\f.toNat<xs.length/\q.length-1+1=p.length-1:=fun f hf=>by
  obtain⟨q,e,l⟩:=h.bel f hf;obtain⟨hlt,_⟩:=qa2.mp e;exact⟨q,e,by rw[qa4,e];rfl,hlt,l⟩
 show E7 xs (.tup (Bx p))=true;rw[Du];have hl:(Bx p).length=p.length:=by simp[Bx]
 rw[hl];simp only[qc9,qm2];refine⟨⟨?_,?_⟩,?_⟩
 . rcases h.cnt with e | e | e | e<;>rw[e]<;>rfl
 . rw[qd2];intro d hd;obtain⟨f,hf,rfl⟩:=qe2.mp hd;obtain⟨q,e,eq,hlt,l⟩:=bl f hf;have h0:=h.low f hf;show(decide (0<=f)&&decide (f<(xs.length:Int))&&decide (By (xs.getD f.toNat []).length=By p.length-1))=true;rw[eq,R8,R8];simp only[qc9,qh5];omega
 . by_cases h3:3<=p.length
   . right
     have e0:(Bx p).map cO=p:=by
      unfold Bx;rw[qg6];exact List.map_id p
     rw[e0];unfold E1;rw[qd2];intro j hj;rw[qd2];intro i hi;have hj:=qd7.mp hj;have hi:=qd7.mp hi;unfold agreeAt;rw[qh5];have ej:p[j]?=some p[j]:=qa0 hj;have ei:p[i]?=some (p[i]'(O9m)):=qa0 O9m;obtain⟨q,e1,e2,_⟩:=bl p[j] (qc8 hj);obtain⟨r,e3,e4,_⟩:=bl (p[i]'(O9m)) (qc8 _);have key:=h.agr h3 i j _ _ q r hi ej ei e1 e3;rw[show p.getD j 0=p[j] by rw[qa4,ej];rfl,show p.getD i 0=p[i]'(by omega) by rw[qa4,ei];rfl,e2,e4,qa4,qa4,key]
   . left;rw[R8];simp;omega
theorem PD{a b:Nat}:(([a]:List Nat)<[b])↔a<b:=by
 rw[List.cons_lt_cons_iff];simp
theorem oS{c:Nat}(h:97<=c):(!decide ((⟨#[c]⟩:Str).cps.toList<(Str.ofString "a").cps.toList))=true:=by
 rw[show(Str.ofString "a").cps.toList=[97] by decide +kernel,show(⟨#[c]⟩:Str).cps.toList=[c] from rfl,qe5 (by rw[PD];omega)];rfl
theorem OS{c:Nat}(h:c<=122):(!decide ((Str.ofString "z").cps.toList<(⟨#[c]⟩:Str).cps.toList))=true:=by
 rw[show(Str.ofString "z").cps.toList=[122] by decide +kernel,show(⟨#[c]⟩:Str).cps.toList=[c] from rfl,qe5 (by rw[PD];omega)];rfl
structure B2(x:Str):Prop where
 pos:1<=x.length
 le:x.length<=8
 az:∀c∈x.cps.toList,97<=c/\c<=122
noncomputable abbrev nmAt(names:List Str)(k:Nat):Str:=names.getD k Str.empty
noncomputable def Fq(names:List Str)(k:Nat)(p:List Int):List Str:=nmAt names k::p.map fun f=>nmAt names f.toNat
noncomputable def N7(names:List Str)(k:Nat)(p:List Int):Str:=Str.join (Str.ofString " ") (Fq names k p)
noncomputable def Cr(xs:LLInt)(names:List Str):List (List Str):=(List.range xs.length).map fun k=>Fq names k (xs.getD k [])
noncomputable def Bw(xs:LLInt)(names:List Str):Str:=Str.join (Str.ofString "; ") ((Cr xs names).map (Str.join (Str.ofString " ")))
noncomputable def Vl(rs:List (List Str)):L2.D:=.lst (rs.map fun r=>.lst (r.map L2.D.str))
section
variable(K:W.Frag)
noncomputable def Id:Sp:=fun vs H Q _=>∃(v:V) (xs:LLInt),vs=[v]/\LT K H v xs/\xs.length<=40/\Q (.bl true) H
noncomputable def Kg:Sp:=fun vs H Q _=>∃(v:V) (xs:LLInt),vs=[v]/\LT K H v xs/\Br xs/\xs.length<=40/\∀H',Same H H'->Q .non H'
noncomputable def Pz:Sp:=fun vs H Q _=>∃(v:V) (xs:LLInt),vs=[v]/\LT K H v xs/\Br xs/\xs.length<=40/\∀(l:Addr) (us:List V) (H':Hp),H l=none->Same H H'->H' l=some (.lst us)->Reps K H' us (xs.map tI)->Q (.ref l) H'
noncomputable def Mt(_K:W.Frag):Sp:=fun vs H Q _=>∃(d:Addr) (Az:List (Key × V)) (x:Str) (i:Int),vs=[.ref d,.str x]/\H d=some (.dK Az)/\valV Az (.inr x)=some (.int i)/\Q (.int i) H
noncomputable def Jm(_K:W.Frag):Sp:=fun vs H Q _=>∃x:Str,vs=[.str x]/\B2 x/\∀H',Same H H'->Q (.bl true) H'
noncomputable def P2:Sp:=fun vs H Q _=>∃(n:Addr) (k:Nat) (v:V) (names:List Str) (p:List Int),vs=[.ref n,.int k,v]/\SqL K H n (names.map V.str)/\k<names.length/\TI K H v p/\(∀f∈p,0<=f/\f<(names.length:Int))/\p.length<=4/\(∀x∈names,B2 x)/\∀H',Same H H'->Q (.str (N7 names k p)) H'
noncomputable def Mr:Sp:=fun vs H Q _=>∃(v:V) (n:Addr) (xs:LLInt) (names:List Str),vs=[v,.ref n]/\LT K H v xs/\SqL K H n (names.map V.str)/\Br xs/\xs.length<=40/\names.length=xs.length/\(∀x∈names,B2 x)/\∀H',Same H H'->Q (.str (Bw xs names)) H'
noncomputable def Q8:Sp:=fun vs H Q _=>∃(xs:LLInt) (names:List Str),vs=[.str (Bw xs names)]/\Br xs/\xs.length<=40/\names.length=xs.length/\(∀x∈names,B2 x)/\∀(v:V) (H':Hp),Same H H'->Rep K H' v (Vl (Cr xs names))->Q v H'
noncomputable def Nq:Sp:=fun vs H Q _=>∃(v:V) (xs:LLInt) (names:List Str),vs=[v]/\Rep K H v (Vl (Cr xs names))/\Br xs/\xs.length<=40/\names.length=xs.length/\names.Nodup/\∀(u:V) (H':Hp),Same H H'->LT K H' u xs->Q u H'
noncomputable def w6:Sp:=fun vs H Q _=>∃(xs:LLInt) (names:List Str),vs=[.str (Bw xs names)]/\Br xs/\xs.length<=40/\names.length=xs.length/\names.Nodup/\(∀x∈names,B2 x) ∧
 ∀(t l1 l2:Addr) (us:List V) (H':Hp),H l1=none->H l2=none->l1≠l2->t≠l1->t≠l2->Same H H'->H' t=some (.tup [.ref l1,.ref l2])->H' l1=some (.lst us)->Reps K H' us (xs.map tI)->H' l2=some (.lst (names.map V.str))->Q (.ref t) H'
end
theorem t7{g:TG}{te:TE}{D:Addr}{Q:Hp->Prop}{τ:St}{H:Hp}{K:W.Frag}{a:Addr}{xs:List V}(Pv:Nat->List V->St->Hp->Prop)(h0:Pv 0 [] τ H)(hl:∀i ys τ H,i<=xs.length->Pv i ys τ H->SqL K H a xs)
 (hs:∀i x ys τ H p,xs[i]?=some x->Pv i ys τ H->H p=none->g (.ref p) τ (upd H p (.tup [.int i,x])) fun τ2 H2=>te τ2 H2 fun y H4=>H4 D=some (.lst ys)/\ys.length<sizeLine/\Pv (i+1) (ys++[y]) τ2 (upd H4 D (.lst (ys++[y]))))
 (hd:∀ys τ H,Pv xs.length ys τ H->Q H):Qu (lS K a) g aW te D Q τ H:=Lw Pv h0 hl (fun i x ys τ H p e q hp=>hs i x ys τ H p e q hp) hd
theorem Nn(sep:Str)(ys:List Str):Txt.join sep ys=Str.join sep ys:=StrLaws.glued_eq_join sep ys
theorem Kj{names:List Str}{f:Int}(h0:0<=f)(h1:f<(names.length:Int)):Io (names.map V.str) f=some (.str (nmAt names f.toNat)):=by
 obtain⟨j,rfl⟩:=qg4 h0;have hj:j<names.length:=O9m
 refine Ca ?_;rw[qa3,qa0 hj];simp[nmAt,hj]
theorem P6{names:List Str}(h:∀x∈names,B2 x){k:Nat}(hk:k<names.length):B2 (nmAt names k):=by
 refine h _ ?_;unfold nmAt;rw[qa4,qa0 hk];exact qc8 hk
theorem y6{names:List Str}(h:∀x∈names,B2 x){k:Nat}(hk:k<names.length){p:List Int}(hp:∀f∈p,0<=f/\f<(names.length:Int)):∀x∈Fq names k p,B2 x:=fun x hx=>by
 rcases qb7.mp hx with rfl | hx
 . exact P6 h hk
 . obtain⟨f,hf,rfl⟩:=qe2.mp hx;have:=hp f hf;exact P6 h O9m
theorem Iq{ys:List Str}{B:Nat}(h:∀y∈ys,y.length<=B):(ys.map (·.length)).sum<=ys.length*B:=by
 induction ys with
 | nil=>simp
 | cons y ys ih =>
   have h1:=h y qd9;have h2:=ih fun z hz=>h z (qc1 _ hz);rw[qf0,List.sum_cons,qe3,Nat.add_mul];omega
theorem Jg(sep:Str):∀ys:List Str,(Str.join sep ys).length<=(ys.map (·.length)).sum+ys.length*sep.length
 | []=>by simp[Str.join,Str.empty,Str.length]
 | [y]=>by
   show y.length<=_;simp
 | y::z::r=>by
   have ih:=Jg sep (z::r);show(y++sep++Str.join sep (z::r)).length<=_
   have e:(y++sep++Str.join sep (z::r)).length=y.length+sep.length+(Str.join sep (z::r)).length:=by
    simp[Str.length,qo4];omega
   rw[e,qf0,List.sum_cons,qe3,Nat.add_mul];omega
theorem Gp{names:List Str}(h:∀x∈names,B2 x){k:Nat}(hk:k<names.length){p:List Int}(hp:∀f∈p,0<=f/\f<(names.length:Int))(h4:p.length<=4) :
 ((Fq names k p).map (·.length)).sum<=40/\(Fq names k p).length<=5/\(N7 names k p).length<=50:=by
 have h1:(Fq names k p).length<=5:=by simp[Fq];omega
 have h2:=Iq (ys:=Fq names k p) (B:=8) fun y hy=>(y6 h hk hp y hy).le;have h3:=Jg (Str.ofString " ") (Fq names k p);have e:(Str.ofString " ").length=1:=by decide +kernel
 rw[e]at h3;refine⟨O9m,h1,?_⟩;show(Str.join (Str.ofString " ") (Fq names k p)).length<=50;omega
theorem B9{xs:LLInt}(hs:Br xs){k:Nat}(hk:k<xs.length):(∀f∈xs.getD k [],0<=f/\f<(k:Int))/\(xs.getD k []).length<=4:=by
 have e:xs[k]?=some xs[k]:=qa0 hk;have e2:xs.getD k []=xs[k]:=by rw[qa4,e];rfl
 have F:=hs k _ e;rw[e2];refine⟨fun f hf=>⟨F.low f hf,?_⟩,by rcases F.cnt with e | e | e | e<;>omega⟩;obtain⟨q,h1,_⟩:=F.bel f hf;have:=(qa2.mp h1).1;rw[qb5]at this;have:=F.low f hf;omega
theorem cQ{ws:List Str}(h0:ws≠[])(h:∀x∈ws,B2 x):Txt.split (Str.join (Str.ofString " ") ws) (Str.ofString " ")=ws :=
 Tx.split_join (c0:=32) (ys:=[]) (by decide +kernel) (by decide +kernel) h0 fun p hp hc=>by have:=(h p hp).az 32 hc;omega
theorem Y3{sep:Str}{c:Nat}:∀{ws:List Str},c∈(Str.join sep ws).cps.toList->c∈sep.cps.toList\/∃w∈ws,c∈w.cps.toList
 | [],h=>by
   have:c∈([]:List Nat):=h;simp at this
 | [w],h=>.inr ⟨w,qd9,h⟩
 | w::z::r,h=>by
   have h':c∈(w++sep++Str.join sep (z::r)).cps.toList:=h;simp only[qo4,qp8,qd5]at h';rcases h' with(h | h) | h
   . exact .inr ⟨w,qd9,h⟩
   . exact .inl h
   . rcases Y3 h with h|⟨q,hq,h⟩
     . exact .inl h
     . exact .inr ⟨q,qc1 _ hq,h⟩
theorem d6{rs:List (List Str)}(h0:rs≠[])(h:∀r∈rs,∀x∈r,B2 x):Txt.split (Str.join (Str.ofString "; ") (rs.map (Str.join (Str.ofString " ")))) (Str.ofString "; ")=rs.map (Str.join (Str.ofString " ")) :=
 Tx.split_join (c0:=59) (ys:=[32]) (by decide +kernel) (by decide +kernel) (by simpa using h0) fun p hp hc=>by
  obtain⟨r,hr,rfl⟩:=qe2.mp hp;rcases Y3 hc with h1|⟨w,hw,h1⟩
  . have e:(Str.ofString " ").cps.toList=[32]:=by decide +kernel
    rw[e]at h1;simp at h1
  . have:=(h r hr w hw).az 59 h1;omega
theorem CV{xs:LLInt}{names:List Str}(hs:Br xs)(hnl:names.length=xs.length)(hn:∀x∈names,B2 x):∀r∈Cr xs names,(∀x∈r,B2 x)/\r≠[]/\r.length<=5:=fun r hr=>by
 obtain⟨k,hk,rfl⟩:=qe2.mp hr;have hk:=qd7.mp hk;obtain⟨fk,f4⟩:=B9 hs hk;exact⟨y6 hn O9m fun f hf=>⟨(fk f hf).1,by have:=(fk f hf).2;omega⟩,by simp[Fq],by show(_::List.map _ _).length<=5;rw[qe3,qa1];omega⟩
theorem Y2{sep:Str}{w:Str}{ws:List Str}(h:1<=w.length):1<=(Str.join sep (w::ws)).length:=by
 cases ws with
 | nil=>exact h
 | cons z r =>
   show 1<=(w++sep++Str.join sep (z::r)).length
   have e:(w++sep++Str.join sep (z::r)).length=w.length+sep.length+(Str.join sep (z::r)).length:=by
    simp[Str.length,qo4];omega
   omega
theorem Q7{xs:LLInt}{names:List Str}(hs:Br xs)(hx:xs.length<=40)(hnl:names.length=xs.length)(hn:∀x∈names,B2 x):(Bw xs names).length<=2100/\(1<=xs.length->1<=(Bw xs names).length)/\(xs.length=0->(Bw xs names).length=0):=by
 refine⟨?_,fun h1=>?_,fun h0=>?_⟩
 . have h3:=Jg (Str.ofString "; ") ((Cr xs names).map (Str.join (Str.ofString " ")));have e:(Str.ofString "; ").length=2:=by decide +kernel
   have h1:=Iq (ys:=(Cr xs names).map (Str.join (Str.ofString " "))) (B:=50) fun y hy=>by
    obtain⟨r,hr,rfl⟩:=qe2.mp hy;obtain⟨k,hk,rfl⟩:=qe2.mp hr;have hk:=qd7.mp hk;obtain⟨fk,f4⟩:=B9 hs hk;exact(Gp hn O9m (fun f hf=>⟨(fk f hf).1,by have:=(fk f hf).2;omega⟩) f4).2.2
   have hl:((Cr xs names).map (Str.join (Str.ofString " "))).length=xs.length:=by simp[Cr]
   rw[e]at h3;rw[hl]at h1 h3;show(Str.join _ _).length<=2100;omega
 . unfold Bw Cr;cases UB:xs.length with
   | zero=>omega
   | succ m =>
     rw[List.range_succ_eq_map,qf0,qf0];exact Y2 (Y2 (P6 hn O9m).pos)
 . unfold Bw Cr;rw[h0];rfl
theorem Qw{K:W.Frag}{H:Hp}:∀{ds:List L2.D}{vs:List V},vs.length=ds.length->(∀(i:Nat) v d,vs[i]?=some v->ds[i]?=some d->Rep K H v d)->Reps K H vs ds
 | [],vs,hl,_=>by
   cases vs with
   | nil=>rfl
   | cons _ _=>simp at hl
 | d::ds,vs,hl,h=>by
   cases vs with
   | nil=>simp at hl
   | cons v vs=>exact⟨v,vs,rfl,h 0 v d rfl rfl,Qw (by simpa using hl) fun i v d h1 h2=>h (i+1) v d (by simpa using h1) (by simpa using h2)⟩
theorem Dq{K:W.Frag}{H:Hp}:∀{ws:List Str}{vs:List V},Reps K H vs (ws.map L2.D.str)↔vs=ws.map V.str
 | [],vs=>Iff.rfl
 | w::ws,vs=>by
   constructor
   . rintro ⟨v,q,rfl,hv,hq⟩;rw[Dq.mp hq,show v=.str w from hv];rfl
   . rintro rfl;exact⟨_,_,rfl,rfl,Dq.mpr rfl⟩
theorem Wb{K:W.Frag}{H:Hp}{v:V}{rs:List (List Str)}(h:Rep K H v (Vl rs)):∃a us,v=.ref a/\SqL K H a us/\us.length=rs.length/\∀(i:Nat) u,us[i]?=some u->∃b r,u=.ref b/\rs[i]?=some r/\SqL K H b (r.map V.str):=by
 obtain⟨a,us,rfl,hq,r⟩:=h;refine⟨a,us,rfl,hq,by have:=r.length;simpa using this,fun i u hu=>?_⟩;obtain⟨d,hd,hr⟩:=r.getV hu;rw[qa3]at hd;obtain⟨w,hw,rfl⟩:=qb1.mp hd;obtain⟨b,vs,rfl,hb,hv⟩:=hr;cases (Dq.mp hv);exact⟨b,w,rfl,hw,hb⟩
theorem fZ{K:W.Frag}{H:Hp}{D:Addr}{bs:List Addr}{rs:List (List Str)}(hD:H D=some (.lst (bs.map V.ref)))(hl:bs.length=rs.length)(h:∀(j:Nat) b,bs[j]?=some b->H b=some (.lst ((rs.getD j []).map V.str))):Rep K H (.ref D) (Vl rs):=by
 refine⟨D,_,rfl,.of hD,Qw (by simp[hl]) fun i v d h1 h2=>?_⟩;rw[qa3]at h1 h2;obtain⟨b,hb,rfl⟩:=qb1.mp h1;obtain⟨r,hr,rfl⟩:=qb1.mp h2;have e:rs.getD i []=r:=by rw[qa4,hr];rfl
 have hb:=h i b hb;rw[e]at hb;exact⟨b,_,rfl,.of hb,Dq.mpr rfl⟩
theorem Wp{names:List Str}(h:names.Nodup){i j:Nat}(hi:i<names.length)(hj:j<names.length)(e:nmAt names i=nmAt names j):i=j:=by
 unfold nmAt at e;rw[qa4,qa4,qa0 hi,qa0 hj]at e;exact(qo0 h).mp e
theorem Yh{xs:LLInt}{names:List Str}{i:Nat}{r:List Str}(h:(Cr xs names)[i]?=some r):i<xs.length/\r=Fq names i (xs.getD i []):=by
 unfold Cr at h;rw[qa3]at h;obtain⟨k,hk,rfl⟩:=qb1.mp h;obtain⟨h1,h2⟩:=qa2.mp hk;rw[qg9]at h1;rw[List.getElem_range]at h2;subst h2;exact⟨h1,rfl⟩
theorem nR{K:W.Frag}{H:Hp}{q:Addr}{ts:List Addr}{xs:LLInt}(hq:H q=some (.lst (ts.map V.ref)))(hl:ts.length=xs.length)(h:∀(j:Nat) t,ts[j]?=some t->H t=some (.tup ((xs.getD j []).map V.int))):LT K H (.ref q) xs:=by
 refine⟨q,_,rfl,.of hq,Qw (by simp[hl]) fun i v d h1 h2=>?_⟩;rw[qa3]at h1 h2;obtain⟨b,hb,rfl⟩:=qb1.mp h1;obtain⟨r,hr,rfl⟩:=qb1.mp h2;have e:xs.getD i []=r:=by rw[qa4,hr];rfl
 have hb:=h i b hb;rw[e]at hb;exact⟨b,_,rfl,.of hb,Dr.mpr rfl⟩
theorem oR(us:List V):L2.cutV us (some 1) none=us.drop 1:=by
 unfold L2.cutV
 have e1:HT.sIx us.length 0 (some (1:Int))=min 1 us.length:=by
  have:=HT.sIx_nat us.length 0 1;simpa using this
 rw[e1,HT.sIx_none];cases us with
 | nil=>rfl
 | cons u us =>
   rw[show min 1 (u::us).length=1 by simp,qf2 (by simp)]
noncomputable def NR:Nat->Nat->List Nat
 | 0,_=>[]
 | s+1,m=>(97+m%26)::NR s (m / 26)
noncomputable def mW(s:Nat):List Nat:=(List.range s).map (97+·)
noncomputable def nm(stem n:Nat):Str:=⟨(mW stem++NR (1+n%4) (n / 4)).toArray⟩
theorem LN{r:Nat}(h:r<26):(Str.ofString "abcdefghijklmnopqrstuvwxyz").cps.toList[r]?=some (97+r):=by
 have key:∀r:Fin 26,(Str.ofString "abcdefghijklmnopqrstuvwxyz").cps.toList[r.val]?=some (97+r.val):=by decide +kernel
 exact key ⟨r,h⟩
section
variable(K:W.Frag)
end
theorem deps_strs:∀ws:List Str,deps (ws.map L2.D.str)=0
 | []=>rfl
 | w::ws=>by
   show max 0 (deps (ws.map L2.D.str))=0;rw[deps_strs ws];rfl
theorem Kd{w:Str}:∀{ws:List Str},((ws.map L2.D.str).any fun e=>eqD e (.str w))=decide (w∈ws)
 | []=>by simp
 | v::ws=>by
   rw[qf0,qi4,Kd (ws:=ws)]
   have e:eqD (.str v) (.str w)=decide (v=w):=by
    show(v==w)=_;rw[qh2,qq8,qq2]
   rw[e];by_cases h:v=w
   . subst h;simp
   . have h':¬w=v:=fun z=>h z.symm;simp[h,h']
end Hb
namespace L2
open PySem PySem.Spec PyProof.Rows PySem.SeqAt
section
variable{X:Cx}
theorem Vm{Ae:Ba}{σ:St}{H:Hp}{s:Shared}(I:Bd X Ae σ H s){d:D}:∀{vs:List V}{us:List Value}{ds:List D},Reps X.K H vs ds->Vals vs us->us.countP (bR X H d)=ds.countP fun e=>eqD e d
 | vs,us,[],r,rv=>by
   cases (show vs=[] from r);cases rv;rfl
 | vs,us,e::ds,r,rv=>by
   obtain⟨v,q,rfl,h1,h2⟩:=r;cases rv with
   | cons r1 r2=>rw[qo1,qo1,Xd I r1 h1,Vm I h2 r2]
noncomputable def rCount(K:W.Frag)(n:Nat):V->List V->Hp->VK->Prop:=fun x vs H Q=>∃ds y d,vs=[y]/\Rep K H x (.tup ds)/\Rep K H y d/\deps ds+1<=n/\Q (.int ((ds.countP fun e=>eqD e d:Nat):Int)) H
theorem mt_count{n:Nat}(hu:X.A.units+n<cLine):MtR X "tuple.count" (rCount X.K n):=by
 intro Ae s σ H x vs v us Q I rx rv h;obtain⟨ds,y,d,rfl,⟨a,ws,rfl,hq,r⟩,hy,hn,q⟩:=h;cases rx;obtain⟨u,rfl,ru⟩:=rv.one;obtain⟨its,rw',p,hz⟩:=I.tuple hq;obtain⟨o,ho,hc,k,hd⟩:=id p;obtain⟨cls,dd,data,sl⟩:=o;simp only at hc hd;subst hc hd
 refine call_meets PySem.F.slot_tuple_count ⟨_,ho,rfl⟩ PySem.F.entry_tuple_count (PySem.F.args_tuple_count_2 _ _)
  (tuple_countAt a its.toArray k dd sl u (bR X H d)) ⟨ho,Po I (A:=X.A.in1) (by show X.A.units+1+deps ds<cLine;omega) hy ru r rw',?_⟩
 refine⟨.int _,H,I.tok _,⟨_,rfl⟩,?_⟩;rw[List.toList_toArray,Vm I r rw'];exact q
theorem Bd.tupleN{Ae:Ba}{σ:St}{H:Hp}{s:Shared}{a:Addr}{xs:List V}(I:Bd X Ae σ H s)(h:Dv X.K H a xs):∃o,s.heap.get? a=some o/\o.cls=.type "tuple"/\o.dict=none:=by
 rcases h with h|⟨o,its,n,hk,hc,hdn,hs,hz,r⟩
 . obtain⟨z,its,r,o,e,c,d,_⟩:=(show ObjOk _ _ _ _ _ (.tup xs) from h.ok I.hok)
   exact⟨o,e,c,d⟩
 . exact⟨o,I.kIn a o hk,hc,hdn⟩
noncomputable def mV(K:W.Frag)(r:V->List V->Hp->VK->Prop)(to:TE)(t:TA):TE:=fun σ H Q=>to σ H fun x H1=>(∃p xs,x=.ref p/\Dv K H1 p xs)/\t σ H1 fun xs H2=>r x xs H2 Q
section
variable{o e:Expr}{es:List Expr}{to:TE}{t:TA}{name:Str}{apos cpos:Pos}{id:String}{r:V->List V->Hp->VK->Prop}
theorem JR(pa:PlainAttrs "tuple")(slot:Slot "tuple" name id)(hty:typeOf (.builtin id)=pure (.type "method_descriptor"))(hm:MtR X id r)(ho:PE X o to)(ha:PA X (e::es) t)
 (hbase:attributeBase o name X.env (eval o X.env)=eval o X.env:=by rfl)
 (hfew:((backTo cpos (starEach (e::es) X.env)).all (fun x=>!x.1)&&(backToKw cpos (keywordEach [] X.env)).all (fun x=>x.1.isSome)
   && decide ((e::es).length+([]:List Keyword).length+(if ([]:List Keyword).isEmpty then 0 else 1)<30))=true:=by rfl)
 (hline:(apos.endLine==cpos.line)=true:=by rfl) (hs:starEach (e::es) X.env=(false,eval e X.env)::starEach es X.env:=by rfl) (hplain:(backTo cpos (starEach es X.env)).any (·.1)=false:=by rfl) :
 PE X (.Call (.Attribute o name apos) (e::es) [] cpos) (mV X.K r to t):=by
 intro Ae s σ H Q I h;refine wpAny_Call_method_late hbase hfew hline rfl (C8 (ho Ae s σ H _ I h) fun v s1 _z=>?_);obtain⟨x,H1,I1,r1,⟨p,xs,ex,hq⟩,q1⟩:=_z;subst ex;cases r1;obtain⟨ob,he,hc,hd⟩:=Bd.tupleN I1 hq;refine⟨"tuple",id,pa,slot,hty,⟨ob,he,hc⟩,fun a' ea=>?_,?_⟩
 . cases ea;exact⟨ob,he,hd⟩
 have hA:=ha cpos Ae s1 σ H1 _ I1 q1;rw[hs]at hA ⊢;refine qp7 (by show(false || (backTo cpos (starEach es X.env)).any (·.1))=false;rw[hplain]<;>rfl) (qr2 ?_);exact C8 hA fun us s2 ⟨vs,H2,I2,r2,q2⟩=>hm Ae s2 σ H2 (.ref p) vs (.ref p) us Q I2 rfl r2 q2
theorem gY{K:W.Frag}(pa:PlainAttrs "tuple")(slot:Slot "tuple" name id)(hty:typeOf (.builtin id)=pure (.type "method_descriptor"))(hm:MtR X id r)(ho:PE X o to)(ha:PA X (e::es) t)(hK:X.K=K:=by rfl)
 (hbase:attributeBase o name X.env (eval o X.env)=eval o X.env:=by rfl)
 (hfew:((backTo cpos (starEach (e::es) X.env)).all (fun x=>!x.1)&&(backToKw cpos (keywordEach [] X.env)).all (fun x=>x.1.isSome)
   && decide ((e::es).length+([]:List Keyword).length+(if ([]:List Keyword).isEmpty then 0 else 1)<30))=true:=by rfl)
 (hline:(apos.endLine==cpos.line)=true:=by rfl) (hs:starEach (e::es) X.env=(false,eval e X.env)::starEach es X.env:=by rfl) (hplain:(backTo cpos (starEach es X.env)).any (·.1)=false:=by rfl) :
 PE X (.Call (.Attribute o name apos) (e::es) [] cpos) (mV K r to t):=by subst hK;exact JR pa slot hty hm ho ha hbase hfew hline hs hplain
end
theorem kmt_count{K:W.Frag}{n:Nat}(hu:X.A.units+n<cLine)(hK:X.K=K:=by rfl):MtR X "tuple.count" (rCount K n):=by subst hK;exact mt_count hu
end
end L2
namespace L2
open PySem PySem.Spec PyProof.Rows
noncomputable def eB:Expr->Option Int
 | .Constant (.int i) _ _=>some i
 | _=>none
noncomputable def Sd:List Expr->Option (List Int)
 | []=>some []
 | e::es=>match eB e,Sd es with
   | some i,some is=>some (i::is)
   | _,_=>none
noncomputable def II(ns:List Int):TA:=fun _ H Q=>Q (ns.map V.int) H
theorem z6{X:Cx}:∀{es:List Expr}{ns:List Int},Sd es=some ns->PA X es (II ns)
 | [],ns,h=>by
   cases h;exact Ac
 | e::es,ns,h=>by
   unfold Sd at h;cases e1:eB e with
   | none=>rw[e1]at h;cases h
   | some i =>
     cases e2:Sd es with
     | none=>rw[e1,e2]at h;cases h
     | some is =>
       rw[e1,e2]at h;cases h;unfold eB at e1;split at e1
       case h_2=>cases e1
       case h_1 =>
        cases e1;exact Aa Af (z6 e2)
structure uU(X:Cx)(es:List Expr)(t:TA):Prop where
 h:PA X es t
theorem DH{X:Cx}{es:List Expr}{ns:List Int}(h:Sd es=some ns):uU X es (II ns):=⟨z6 h⟩
end L2
namespace Hb
open PySem L2
noncomputable def Tj(xs:LLInt):Prop:=∀x∈xs,x.length=0\/x.length=2\/x.length=3\/x.length=4
theorem Bq{α:Type}{l:List α}{i:Nat}{d:α}(h:i<l.length):l.getD i d∈l:=by
 rw[qa4,qa0 h];exact qc8 h
theorem Tj.at{xs:LLInt}(h:Tj xs){f:Int}(h0:0<=f)(h1:f<(xs.length:Int)):(xs.getD f.toNat []).length=0\/(xs.getD f.toNat []).length=2\/(xs.getD f.toNat []).length=3\/(xs.getD f.toNat []).length=4:=h _ (Bq O9m)
noncomputable def Gd(x:List Int)(f:Int):Nat:=x.countP fun g=>decide (g=f)
theorem r6(x:List Int)(f:Int):(Bx x).countP (fun e=>eqD e (.int f))=Gd x f:=by
 unfold Bx Gd;rw[List.countP_map]
 congr 1
noncomputable def Mj(xs:LLInt)(f:Int):Nat->List Int
 | 0=>[]
 | i+1=>Mj xs f i++List.replicate (Gd (xs.getD i []) f) (i:Int)
noncomputable def Gc(xs:LLInt)(f:Int):List Int:=Mj xs f xs.length
theorem Xm(x:List Int)(f:Int):Gd x f<=x.length:=List.countP_le_length ..
theorem Vc{xs:LLInt}(h4:∀x∈xs,x.length<=4)(f:Int):∀i,(Mj xs f i).length<=4*i
 | 0=>qa9 _
 | i+1=>by
   have h1:=Vc h4 f i;have h2:=Xm (xs.getD i []) f
   have h3:(xs.getD i []).length<=4:=by
    by_cases h:i<xs.length
    . exact h4 _ (Bq h)
    . rw[qa4,qe6 (by omega)];exact qb3 _
   show(Mj xs f i++List.replicate _ _).length<=_;rw[qb8,qi0];omega
theorem cW(n:Nat)(v:V):(List.replicate n [v]).flatten=List.replicate n v:=by
 induction n with
 | zero=>rfl
 | succ n ih=>rw[qh6,qm3,ih,qh6];rfl
theorem CB{x:List Int}{f:Int}{m:Nat}(h:m<x.length):Gd (x.take (m+1)) f=Gd (x.take m) f+(if x[m]=f then 1 else 0):=by
 unfold Gd;rw[qd6,qa0 h,List.countP_append]
 congr 1
 show List.countP _ [x[m]]=_;rw[List.countP_singleton];simp
noncomputable def Hu(xs:LLInt):Nat->LLInt
 | 0=>[]
 | i+1=>if (Gc xs (i:Int)).length=1/\(Gc xs ((Gc xs (i:Int)).getD 0 0)).length=0 then Hu xs i++[[(i:Int),(Gc xs (i:Int)).getD 0 0]] else Hu xs i
noncomputable def Fp(xs:LLInt):LLInt:=Hu xs xs.length
theorem Vu(xs:LLInt):∀i,(Hu xs i).length<=i
 | 0=>qa9 _
 | i+1=>by
   have:=Vu xs i;unfold Hu;split
   . rw[qb8,qk5];omega
   . omega
section
variable(K:W.Frag)
noncomputable def Mb:Sp:=fun vs H Q _=>∃(a:Addr) (xs:LLInt) (f:Int),vs=[.ref a,.int f]/\LT K H (.ref a) xs/\xs.length<=1000/\(∀x∈xs,x.length<=4) ∧
 ∀(D:Addr) (H':Hp),H D=none->Same H H'->H' D=some (.lst ((Gc xs f).map V.int))->Q (.ref D) H'
noncomputable def V2:Sp:=fun vs H Q _=>∃(a:Addr) (xs:LLInt),vs=[.ref a]/\LT K H (.ref a) xs/\xs.length<=1000/\(∀x∈xs,x.length<=4) ∧
 ∀(D:Addr) (us:List V) (H':Hp),H D=none->Same H H'->H' D=some (.lst us)->Reps K H' us ((Fp xs).map tI)->Q (.ref D) H'
noncomputable def Lr(_K:W.Frag):Sp:=fun vs H Q _=>∃(c j m:Int),vs=[.int c,.int j,.int m]/\0<m/\∀(r:Int) (H':Hp),Same H H'->0<=r->r<m->Q (.int r) H'
noncomputable def Ul:Sp:=fun vs H Q _=>∃(a:Addr) (xs:LLInt) (c:Int),vs=[.ref a,.int c]/\LT K H (.ref a) xs/\xs.length<=1000/\∀(w:V) (p:List Int) (H':Hp),Same H H'->TI K H' w p->Q w H'
noncomputable def Um:Sp:=fun vs H Q _=>∃(a:Addr) (xs:LLInt) (c:Int),vs=[.ref a,.int c]/\LT K H (.ref a) xs/\Tj xs/\xs.length<=1000/\∀(w:V) (p:List Int) (H':Hp),Same H H'->TI K H' w p->Q w H'
end
theorem Dz{sp:List Int}{x:Int}(h0:0<=x)(h1:x<(sp.length:Int)):Io (sp.map V.int) x=some (.int (sp.getD x.toNat 0)):=by
 obtain⟨j,rfl⟩:=qg4 h0;have hj:j<sp.length:=O9m
 rw[qb9];exact Ca (by rw[qa3,qa0 hj,qa4,qa0 hj];rfl)
end Hb
namespace Hb
noncomputable def Z4(f:Nat->Int):Nat->Int
 | 0=>0
 | n+1=>Z4 f n+f n
end Hb
namespace Hb
open PySem L2
noncomputable abbrev Ms:=List (Int × Int)
noncomputable def nd(ms:Ms):Prop:=(ms.map (·.1)).Nodup
theorem DV{ms:Ms}(h:nd ms){p:Int × Int}(hp:p∈ms):Oe ms p.1=some p.2:=by
 induction ms with
 | nil=>cases hp
 | cons q ms ih =>
   rw[j5];unfold nd at h;rw[qf0,qm5]at h;rcases qb7.mp hp with rfl | hp
   . rw[if_pos rfl]
   . have:¬q.1=p.1:=fun z=>h.1 (by rw[z];exact List.mem_map_of_mem (f:=(·.1)) hp);rw[if_neg this];exact ih h.2 hp
end Hb
namespace L2
open PySem PySem.Spec PyProof.Rows
section
variable{X:Cx}{sc:Scope}{N':List Str}{cap:List (Option Nat)}{xc:Str}{Ae:Ba}{σ:St}{H:Hp}{s:Shared}{C c:Addr}{fp:List Addr}
end
section
variable{X:Cx}{sc:Scope}{N':List Str}{cap:List (Option Nat)}{xc:Str}{tg elt iter:Expr}{ifs:List Expr}{pos:Pos}{g:TG}{tc:TT}{te:TE}
end
end L2
namespace Hb
open PySem L2
section
variable{H H1:Hp}{a:Addr}{ms:Ms}{k v:Int}
theorem HS(rd:Rd H a (.dK (cK ms)))(h:Oe ms k=some v):DGet H a (.int k) (some (.int v)):=.inl ⟨cK ms,.inl k,rd,rfl,by rw[LJ,h];rfl⟩
theorem LK:(cK ms).length=ms.length:=by unfold cK;rw[qa1]
end
noncomputable def newC(H:Hp)(ms:Ms)(Q:V->Hp->Prop):Prop:=∀(D:Addr) (H':Hp),H D=none->Same H H'->H' D=some (.dK (cK ms))->Q (.ref D) H'
section
variable(K:W.Frag)
end
noncomputable def Dc(ks:List Int)(j:Int):Int:=ks.getD j.toNat 0
noncomputable def Gg(ks:List Int)(f:Int):Int:=(ks.findIdx (·==f):Nat)
theorem Gf{ks:List Int}{f:Int}(h:f∈ks):Dc ks (Gg ks f)=f/\0<=Gg ks f/\Gg ks f<(ks.length:Int):=by
 unfold Dc Gg;have hl:ks.findIdx (·==f)<ks.length:=qq7 ⟨f,h,by simp⟩;have h1:=List.findIdx_getElem (xs:=ks) (p:=(·==f)) (w:=hl);refine⟨?_,O9m,O9m⟩;rw[qb9,qa4,qa0 hl];simpa using h1
theorem AN{ks:List Int}{j:Int}(h0:0<=j)(h1:j<(ks.length:Int)):Dc ks j∈ks:=Bq O9m
theorem Q2{ks:List Int}(h:ks.Nodup){i j:Int}(i0:0<=i)(i1:i<(ks.length:Int))(j0:0<=j)(j1:j<(ks.length:Int))(e:Dc ks i=Dc ks j):i=j:=by
 unfold Dc at e;rw[qa4,qa0 (show i.toNat<ks.length by omega),qa4,qa0 (show j.toNat<ks.length by omega)]at e;have:i.toNat=j.toNat:=(qo0 h).mp (by simpa using e);omega
theorem Pd{ks:List Int}(h:ks.Nodup){i:Int}(h0:0<=i)(h1:i<(ks.length:Int)):Gg ks (Dc ks i)=i:=by
 obtain⟨e,a,b⟩:=Gf (AN h0 h1);exact Q2 h a b h0 h1 e
noncomputable def Eh(xs:LLInt)(ks:List Int):LLInt:=ks.map fun k=>(xs.getD k.toNat []).map (Gg ks)
theorem Fb(xs:LLInt)(ks:List Int):(Eh xs ks).length=ks.length:=qa1 ..
theorem Vz{xs:LLInt}{ks:List Int}{m:Nat}(h:m<ks.length):(Eh xs ks).getD m []=(xs.getD (ks.getD m 0).toNat []).map (Gg ks):=by
 unfold Eh;rw[qa4,qa3,qa0 h,qa4 (l:=ks),qa0 h];rfl
noncomputable def Qi(xs:LLInt)(ks:List Int):Prop:=∀k∈ks,∀f∈xs.getD k.toNat [],f∈ks
noncomputable def Cj(xs:LLInt)(ks:List Int)(f:Int):List Int:=ks.flatMap fun k=>List.replicate (Gd (xs.getD k.toNat []) f) k
theorem HY{ks x:List Int}(hn:ks.Nodup)(hx:∀f∈x,f∈ks){i:Int}(i0:0<=i)(i1:i<(ks.length:Int)):Gd (x.map (Gg ks)) i=Gd x (Dc ks i):=by
 unfold Gd;rw[List.countP_map];apply List.countP_congr;intro f hf;obtain⟨e,a,b⟩:=Gf (hx f hf);show decide (Gg ks f=i)=true↔decide (f=Dc ks i)=true;rw[qq2,qq2];constructor
 . intro z;rw[←z];exact e.symm
 . intro z;rw[z];exact Pd hn i0 i1
theorem Y5{xs:LLInt}{ks:List Int}(hn:ks.Nodup)(hc:Qi xs ks){i:Int}(i0:0<=i)(i1:i<(ks.length:Int)):(Gc (Eh xs ks) i).map (Dc ks)=Cj xs ks (Dc ks i):=by
 have go:∀m,m<=ks.length->(Mj (Eh xs ks) i m).map (Dc ks)=(ks.take m).flatMap fun k=>List.replicate (Gd (xs.getD k.toNat []) (Dc ks i)) k:=by
  intro m
  induction m with
  | zero=>intro _;rfl
  | succ m ih =>
    intro hm;have hm':m<ks.length:=O9m
    have hk:ks.getD m 0=ks[m]:=by rw[qa4,qa0 hm'];rfl
    show(Mj (Eh xs ks) i m++List.replicate (Gd ((Eh xs ks).getD m []) i) (m:Int)).map (Dc ks)=_;rw[qa6,ih (by omega),qd6,qa0 hm',List.flatMap_append,Vz hm',List.map_replicate,hk,HY hn (hc _ (qc8 hm')) i0 i1]
    congr 1
    show _=List.flatMap _ [ks[m]];rw[List.flatMap_singleton];show List.replicate _ (ks.getD ((m:Int)).toNat 0)=_;rw[qb9,hk]
 have:=go ks.length (qa9 _);rw[qb4]at this;unfold Gc;rw[Fb];exact this
theorem Y6{ys:LLInt}{f j:Int}(h:j∈Gc ys f):0<=j/\j<(ys.length:Int):=by
 have go:∀m,j∈Mj ys f m->0<=j/\j<(m:Int):=by
  intro m
  induction m with
  | zero=>intro z;cases z
  | succ m ih =>
    intro z;rcases qd5.mp (show j∈Mj ys f m++List.replicate _ (m:Int) from z) with z | z
    . have:=ih z;omega
    . have:=List.eq_of_mem_replicate z;omega
 exact go _ h
theorem U2{xs:LLInt}{ks:List Int}{p f:Int}(hp:p∈ks)(hf:f∈xs.getD p.toNat []):p∈Cj xs ks f:=by
 refine List.mem_flatMap.mpr ⟨p,hp,?_⟩;rw[List.mem_replicate];refine⟨?_,rfl⟩;have:0<Gd (xs.getD p.toNat []) f:=List.countP_pos_iff.mpr ⟨f,hf,by simp⟩;omega
theorem Va{xs:LLInt}{ks:List Int}{p f:Int}(h:p∈Cj xs ks f):p∈ks:=by
 obtain⟨k,hk,z⟩:=List.mem_flatMap.mp h;rw[List.eq_of_mem_replicate z];exact hk
noncomputable def Df(xs:LLInt)(ks:List Int)(k:Int):Bool:=decide ((Cj xs ks k).length=1)&&decide ((Cj xs ks ((Cj xs ks k).getD 0 0)).length=0)
noncomputable def Hl(xs:LLInt)(ks:List Int)(k:Int):List Int:=[k,(Cj xs ks k).getD 0 0]
noncomputable def Eg(xs:LLInt)(ks:List Int):LLInt:=(ks.filter (Df xs ks)).map (Hl xs ks)
theorem Zr{xs:LLInt}{ks:List Int}(hn:ks.Nodup)(hc:Qi xs ks):(Fp (Eh xs ks)).map (fun p=>p.map (Dc ks))=Eg xs ks:=by
 have go:∀m,m<=ks.length->(Hu (Eh xs ks) m).map (fun p=>p.map (Dc ks))=((ks.take m).filter (Df xs ks)).map (Hl xs ks):=by
  intro m
  induction m with
  | zero=>intro _;rfl
  | succ m ih =>
    intro hm;have hm':m<ks.length:=O9m
    have hk:Dc ks (m:Int)=ks[m]:=by unfold Dc;rw[qb9,qa4,qa0 hm'];rfl
    have h1:=Y5 hn hc (i:=(m:Int)) O9m O9m;rw[hk]at h1;have l1:(Cj xs ks ks[m]).length=(Gc (Eh xs ks) (m:Int)).length:=by rw[←h1,qa1]
    rw[qd6,qa0 hm',qi3,qa6,←ih (by omega)];show List.map _ (if (Gc (Eh xs ks) (m:Int)).length=1/\(Gc (Eh xs ks) ((Gc (Eh xs ks) (m:Int)).getD 0 0)).length=0 then Hu (Eh xs ks) m++[[(m:Int),(Gc (Eh xs ks) (m:Int)).getD 0 0]] else Hu (Eh xs ks) m)=_++List.map _ (List.filter _ [ks[m]]);have hr:∀j∈Gc (Eh xs ks) (m:Int),0<=j/\j<(ks.length:Int):=fun j hj=>by have:=Y6 hj;rwa [Fb]at this
    generalize Gc (Eh xs ks) (m:Int)=hs at h1 l1 hr;by_cases e1:hs.length=1
    . obtain⟨h0,rfl⟩:∃h0,hs=[h0]:=by
       match hs,e1 with
       | [h0],_=>exact⟨h0,rfl⟩
      obtain⟨r0,r1⟩:=hr h0 (by simp);have h2:=Y5 hn hc (i:=h0) r0 r1;have e3:(Cj xs ks ks[m]).getD 0 0=Dc ks h0:=by rw[←h1];rfl
      have l2:(Cj xs ks (Dc ks h0)).length=(Gc (Eh xs ks) h0).length:=by rw[←h2,qa1]
      by_cases e2:(Gc (Eh xs ks) h0).length=0
      . have g:Df xs ks ks[m]=true:=by
         unfold Df;rw[e3,l2,e2,l1];rfl
        rw[if_pos ⟨rfl,e2⟩,qa6,qg7 g,qf5]
        congr 1
        show [[Dc ks (m:Int),Dc ks h0]]=[Hl xs ks ks[m]]
        unfold Hl;rw[hk,e3]
      . have g:¬Df xs ks ks[m]=true:=by
         unfold Df;rw[e3,l2,qe5 e2];simp
        rw[if_neg (fun z=>e2 z.2),qg3 g,qf5,ql5,qh7]
    . have g:¬Df xs ks ks[m]=true:=by
       unfold Df;rw[l1,qe5 e1];simp
      rw[if_neg (fun z=>e1 z.1),qg3 g,qf5,ql5,qh7]
 have:=go ks.length (qa9 _);rw[qb4]at this;unfold Fp;rw[Fb];exact this
noncomputable def An(n:Nat)(fl:Int->Bool):List Int:=(Go n).filter fl
theorem Q6(n:Nat):(Go n).Pairwise (·<·):=by
 unfold Go;rw[qk6];exact List.pairwise_lt_range.imp (fun h=>O9m)
theorem Oo(n:Nat):(Go n).Nodup:=(Q6 n).imp (fun h=>O9m)
theorem M5(n:Nat)(fl:Int->Bool):(An n fl).Nodup:=(Oo n).filter _
theorem Qx{n:Nat}{p:Int}:p∈Go n↔0<=p/\p<(n:Int):=by
 unfold Go;rw[qe2];constructor
 . rintro ⟨i,hi,rfl⟩;have:=qd7.mp hi;omega
 . rintro ⟨a,b⟩;exact⟨p.toNat,qd7.mpr O9m,O9m⟩
theorem Hm{n:Nat}{fl:Int->Bool}{p:Int}:p∈An n fl↔(0<=p/\p<(n:Int))/\fl p=true:=by
 unfold An;rw[qj0,Qx]
theorem Fl(n:Nat)(fl:Int->Bool):(An n fl).length<=n:=qe1 (qi1 ..) (by rw[C2];exact qa9 _)
theorem BJ(n:Nat)(fl:Int->Bool):(An n fl).Pairwise (·<·):=(Q6 n).filter _
theorem CW{ks:List Int}(h:ks.Pairwise (·<·)){f:Int}(hf:f∈ks){i:Nat}(hi:i<ks.length)(hl:f<ks.getD i 0):Gg ks f<(i:Int):=by
 obtain⟨e,a,b⟩:=Gf hf;by_cases z:Gg ks f<(i:Int)
 . exact z
 . exfalso
   unfold Dc at e;have hk:ks.getD i 0=ks[i]:=by rw[qa4,qa0 hi];rfl
   rw[qa4,qa0 (show(Gg ks f).toNat<ks.length by omega)]at e;have e':ks[(Gg ks f).toNat]'(O9m)=f:=by simpa using e
   rw[hk]at hl;by_cases q:(Gg ks f).toNat=i
   . have:ks[(Gg ks f).toNat]'(O9m)=ks[i]:=by congr 1
     omega
   . have:=List.pairwise_iff_getElem.mp h i (Gg ks f).toNat hi O9m O9m;omega
noncomputable def without(fl:Int->Bool)(p:List Int):Int->Bool:=fun q=>fl q&&decide (q≠p.getD 0 0)&&decide (q≠p.getD 1 0)
theorem Gq(n:Nat)(fl:Int->Bool)(p:List Int):An n (without fl p)=(An n fl).filter fun q=>decide (q≠p.getD 0 0)&&decide (q≠p.getD 1 0):=by
 unfold An;rw[List.filter_filter];apply qr1;intro q _;unfold without;cases fl q<;>simp
theorem Qf{xs:LLInt}{n:Nat}{fl:Int->Bool}(hc:Qi xs (An n fl)){k:Int}(hg:Df xs (An n fl) k=true):Qi xs (An n (without fl (Hl xs (An n fl) k))):=by
 unfold Df at hg;rw[qc9]at hg;have g1:=qe4 hg.1;have g2:=qe4 hg.2;intro p hp f hf;rw[Gq,qj0]at hp;obtain⟨hp1,hp2⟩:=hp;rw[qc9]at hp2;have n1:=qe4 hp2.1;have n2:=qe4 hp2.2;have pJ:=hc p hp1 f hf;rw[Gq,qj0];refine⟨pJ,?_⟩;rw[qc9];constructor
 . refine qe9 fun z=>?_;have hm:=U2 hp1 hf;rw[z]at hm
   have e:Cj xs (An n fl) ((Hl xs (An n fl) k).getD 0 0)=[(Hl xs (An n fl) k).getD 1 0]:=by
    show Cj xs (An n fl) k=[(Cj xs (An n fl) k).getD 0 0]
    match hh:Cj xs (An n fl) k,g1 with
    | [a],_=>rfl
   rw[e,qd1]at hm;exact n2 hm
 . refine qe9 fun z=>?_;have hm:=U2 hp1 hf;rw[z]at hm;have e:Cj xs (An n fl) ((Hl xs (An n fl) k).getD 1 0)=[]:=qn5.mp g2;rw[e]at hm;cases hm
noncomputable def Db(m:Nat)(p:List Int):List Int:=(Go m).filter fun q=>decide (q≠p.getD 0 0)&&decide (q≠p.getD 1 0)
theorem dU(ks:List Int):(Go ks.length).map (Dc ks)=ks:=by
 apply qk7;intro i;rw[qa3];by_cases h:i<ks.length
 . rw[Ib h,qa0 h];show some (ks.getD ((i:Int)).toNat 0)=_;rw[qb9,qa4,qa0 h];rfl
 . rw[qe6 (by rw[C2];omega),qe6 (by omega)];rfl
theorem aZ{ks:List Int}(hn:ks.Nodup){i j:Int}(i0:0<=i)(i1:i<(ks.length:Int))(j0:0<=j)(j1:j<(ks.length:Int)):(Db ks.length [i,j]).map (Dc ks)=ks.filter fun q=>decide (q≠Dc ks i)&&decide (q≠Dc ks j):=by
 have e0:(ks.filter fun q=>decide (q≠Dc ks i)&&decide (q≠Dc ks j))=((Go ks.length).map (Dc ks)).filter fun q=>decide (q≠Dc ks i)&&decide (q≠Dc ks j):=by rw[dU]
 rw[e0,List.filter_map];unfold Db
 congr 1
 apply qr1;intro q hq;obtain⟨q0,q1⟩:=Qx.mp hq;show(decide (q≠i)&&decide (q≠j))=(decide (Dc ks q≠Dc ks i)&&decide (Dc ks q≠Dc ks j))
 congr 1
 . exact decide_eq_decide.mpr ⟨fun a b=>a (Q2 hn q0 q1 i0 i1 b),fun a b=>a (by rw[b])⟩
 . exact decide_eq_decide.mpr ⟨fun a b=>a (Q2 hn q0 q1 j0 j1 b),fun a b=>a (by rw[b])⟩
theorem gA{ks ls:List Int}(hn:ks.Nodup)(hl:∀l∈ls,0<=l/\l<(ks.length:Int))(pI:ls.Nodup){l:Int}(h:l∈ls):Gg (ls.map (Dc ks)) (Dc ks l)=Gg ls l:=by
 have hm:(ls.map (Dc ks)).Nodup:=by
  refine qk6.mpr (pI.imp_of_mem fun ha hb hab e=>hab ?_);exact Q2 hn (hl _ ha).1 (hl _ ha).2 (hl _ hb).1 (hl _ hb).2 e
 obtain⟨e,a,b⟩:=Gf h;have hb':Gg ls l<((ls.map (Dc ks)).length:Int):=by rw[qa1];exact b
 have:Dc (ls.map (Dc ks)) (Gg ls l)=Dc ks l:=by
  conv=>rhs;rw[←e]
  unfold Dc;rw[qa4,qa3,qa0 (show(Gg ls l).toNat<ls.length by omega),qa4 (l:=ls),qa0 (show(Gg ls l).toNat<ls.length by omega)];rfl
 rw[←this];exact Pd hm a hb'
theorem fT{xs:LLInt}{ks ls:List Int}(hn:ks.Nodup)(hl:∀l∈ls,0<=l/\l<(ks.length:Int))(pI:ls.Nodup)(hc:Qi xs (ls.map (Dc ks))):Eh (Eh xs ks) ls=Eh xs (ls.map (Dc ks)):=by
 show ls.map _=(ls.map (Dc ks)).map _;rw[qg6];apply qj5;intro l IT;obtain⟨l0,l1⟩:=hl l IT;show((Eh xs ks).getD l.toNat []).map (Gg ls)=(xs.getD (Dc ks l).toNat []).map (Gg (ls.map (Dc ks)));rw[Vz (show l.toNat<ks.length by omega),qg6];apply qj5;intro f hf;obtain⟨l',hl',rfl⟩:=qe2.mp (hc (Dc ks l) (qe2.mpr ⟨l,IT,rfl⟩) f hf);show Gg ls (Gg ks (Dc ks l'))=_;rw[Pd hn (hl l' hl').1 (hl l' hl').2,gA hn hl pI hl']
theorem HZ{xs:LLInt}{ks ls:List Int}(hn:ks.Nodup)(hl:∀l∈ls,0<=l/\l<(ks.length:Int))(hc:Qi xs (ls.map (Dc ks))):Qi (Eh xs ks) ls:=by
 intro l IT f hf;obtain⟨l0,l1⟩:=hl l IT;rw[Vz (show l.toNat<ks.length by omega)]at hf;obtain⟨g,hg,rfl⟩:=qe2.mp hf;obtain⟨l',hl',rfl⟩:=qe2.mp (hc (Dc ks l) (qe2.mpr ⟨l,IT,rfl⟩) g hg);rw[Pd hn (hl l' hl').1 (hl l' hl').2];exact hl'
theorem N8{m:Nat}{p:List Int}:∀l∈Db m p,0<=l/\l<(m:Int):=fun l hl=>Qx.mp (qj0.mp hl).1
theorem Rs(m:Nat)(p:List Int):(Db m p).Nodup:=(Oo m).filter _
theorem FT{xs:LLInt}(h:∀x∈xs,∀f∈x,0<=f/\f<(xs.length:Int)):Eh xs (Go xs.length)=xs:=by
 unfold Eh;apply qk7;intro i;rw[qa3];by_cases hi:i<xs.length
 . rw[Ib hi,qa0 hi];show some ((xs.getD ((i:Int)).toNat []).map (Gg (Go xs.length)))=_;have e:xs.getD ((i:Int)).toNat []=xs[i]:=by rw[qb9,qa4,qa0 hi];rfl
   rw[e]
   congr 1
   conv=>rhs;rw[←List.map_id xs[i]]
   apply qj5;intro f hf;obtain⟨f0,f1⟩:=h _ (qc8 hi) f hf
   have hat:Dc (Go xs.length) f=f:=by
    unfold Dc;rw[qa4,Ib (show f.toNat<xs.length by omega)];show((f.toNat:Nat):Int)=f;omega
   have:=Pd (Oo xs.length) f0 (by rw[C2];exact f1)
   rwa [hat]at this
 . rw[qe6 (by rw[C2];omega),qe6 (by omega)];rfl
noncomputable def D4(xs:LLInt)(n:Nat):Nat->(Int->Bool)->LLInt->(Int->Bool) × LLInt
 | 0,fl,acc=>(fl,acc)
 | m+1,fl,acc=>match Eg xs (An n fl) with
   | []=>(fl,acc)
   | p::_=>D4 xs n m (without fl p) (acc++[p])
theorem S1{xs:LLInt}{n:Nat}{fl:Int->Bool}{acc:LLInt}(h:Eg xs (An n fl)=[]):∀m,D4 xs n m fl acc=(fl,acc)
 | 0=>rfl
 | m+1=>by unfold D4;rw[h]
theorem Pr{xs:LLInt}{n m:Nat}{fl:Int->Bool}{acc:LLInt}{p:List Int}{r:LLInt}(h:Eg xs (An n fl)=p::r):D4 xs n (m+1) fl acc=D4 xs n m (without fl p) (acc++[p]):=by
 show(match Eg xs (An n fl) with | []=>(fl,acc) | p::_=>D4 xs n m (without fl p) (acc++[p]))=_;rw[h]
theorem Nj{xs:LLInt}{ks:List Int}{p:List Int}(h:p∈Eg xs ks):∃k,k∈ks/\Df xs ks k=true/\p=Hl xs ks k/\p.getD 1 0∈ks:=by
 obtain⟨k,hk,rfl⟩:=qe2.mp h;obtain⟨h1,h2⟩:=qj0.mp hk;refine⟨k,h1,h2,rfl,?_⟩;unfold Df at h2;rw[qc9]at h2;have g1:=qe4 h2.1;have:(Cj xs ks k).getD 0 0∈Cj xs ks k:=Bq O9m;exact Va this
end Hb
namespace L2
open PySem PySem.Spec PyProof.Rows
structure cG(P:Program)(w:World)(K:W.Frag)(mg:Str->Option Value)(base:Heap)(C:Addr)(m:Str)(ps:List Str)(k:Nat)(sp:Sp):Prop where
 ex:∃(f:Addr) (fd:FuncData),iD K C m f/\Lp K fd ps []/\Bt P w K mg base Dw k f fd ps sp
structure LS(P:Program)(w:World)(K:W.Frag)(mg:Str->Option Value)(base:Heap)(C:Addr)(ps:List Str)(k:Nat)(sp:Sp):Prop where
 ex:∃(f:Addr) (fd:FuncData),Mk K C f/\Lp K fd ps []/\Bt P w K mg base Dw k f fd ps sp
section
variable{X:Cx}{K:W.Frag}{j k:Nat}{C:Addr}{ps:List Str}{sp:Sp}{x m f:Str}{p pos apos pos':Pos}{e o value:Expr}{es:List Expr}{ta tv:TE}{t:TA}
theorem K2{pl:Sem Bool}(he:PE X o ta)(c:Cls X.K C)(h:cG X.prog X.w X.K X.mg X.base C m ps j sp)(hr:Fr k X.A)(ha:PA X (e::es) t)(hk:j<=k:=by decide)
 (hst:starEach (e::es) X.env=(false,eval e X.env)::starEach es X.env:=by rfl) (hpl:(backTo pos (starEach es X.env)).any (·.1)=false:=by rfl)
 (ht:eval (.Call (.Attribute o m apos) (e::es) [] pos) X.env=(do
   let ov ←eval o X.env
   standAt apos.atName
   let (f,first) ←holding [ov] (getMethod ov m pl)
   callWith pos f first (backTo pos (starEach (e::es) X.env)) (backToKw pos (keywordEach [] X.env))):=by rfl) :
 PE X (.Call (.Attribute o m apos) (e::es) [] pos) (iH C m sp [] E0 ta t):=by
 obtain⟨f,fd,h1,h2,h3⟩:=h.ex;exact gI he c h1 h3 (hr.mono hk) h2 .nil dI ha hst hpl ht
theorem Of(he:PE X e ta)(hK:X.K=K:=by rfl)(hb:attributeBase e f X.env (eval e X.env)=eval e X.env:=by rfl):PE X (.Attribute e f pos) (tFld K ta f):=by subst hK;exact jR he hb
theorem GX(ha:PE X o ta)(hv:PE X value tv)(hK:X.K=K:=by rfl)(hs:swapsWith value (some (.Attribute o f pos')) pos.line X.env=pure false:=by rfl):PS X (.Assign [.Attribute o f pos'] value pos) (MX K ta tv f):=by subst hK;exact JO ha hv hs
end
end L2
namespace Hb
open PySem L2
theorem AK{xs:LLInt}(h:∀x∈xs,∀f∈x,0<=f/\f<(xs.length:Int)):Qi xs (An xs.length fun _=>true):=fun k hk f hf=>by
 obtain⟨⟨k0,k1⟩,_⟩:=Hm.mp hk;exact Hm.mpr ⟨h _ (Bq (show k.toNat<xs.length by omega)) f hf,rfl⟩
theorem Y1(n:Nat):An n (fun _=>true)=Go n:=by unfold An;exact List.filter_eq_self.mpr fun _ _=>rfl
theorem v9{xs:LLInt}{ks:List Int}(h4:∀x∈xs,x.length<=4):∀x∈Eh xs ks,x.length<=4:=fun x hx=>by
 obtain⟨k,hk,rfl⟩:=qe2.mp hx;rw[qa1];by_cases h:k.toNat<xs.length
 . exact h4 _ (Bq h)
 . rw[qa4,qe6 (by omega)];exact qb3 _
noncomputable def On(ks:List Int):Ms:=(List.range ks.length).map fun i=>(ks.getD i 0,(i:Int))
theorem aU(ks:List Int):(On ks).map (·.1)=ks:=by
 unfold On;rw[qg6];have:=dU ks;unfold Go at this;rw[qg6]at this
 conv=>rhs;rw[←this]
 apply qj5;intro i _;show ks.getD i 0=ks.getD ((i:Int)).toNat 0;rw[qb9]
theorem v4{ks:List Int}(h:ks.Nodup):nd (On ks):=by
 unfold nd;rw[aU];exact h
theorem CM(ks:List Int):(On ks).length=ks.length:=by simp[On]
theorem Xy{ks:List Int}{i:Nat}(h:i<ks.length):(On ks)[i]?=some (ks.getD i 0,(i:Int)):=by
 unfold On;rw[qa3,ql4 h];rfl
theorem aT{ks:List Int}(h:ks.Nodup){f:Int}(hf:f∈ks):Oe (On ks) f=some (Gg ks f):=by
 obtain⟨e,a,b⟩:=Gf hf
 have hm:(f,Gg ks f)∈On ks:=by
  have hg:=Xy (ks:=ks) (i:=(Gg ks f).toNat) O9m;have e2:ks.getD (Gg ks f).toNat 0=f:=e;rw[e2,show(((Gg ks f).toNat:Nat):Int)=Gg ks f by omega]at hg;exact qa8 hg
 exact DV (v4 h) hm
theorem HB{ys:LLInt}(p:List Int):((Fp ys).map tI).any (fun e=>eqD e (tI p))=decide (p∈Fp ys):=Ll p _
theorem cF{ys:LLInt}{p:List Int}(h:p∈Fp ys):∃i j,p=[i,j]/\0<=i/\i<(ys.length:Int)/\0<=j/\j<(ys.length:Int):=by
 have go:∀m,m<=ys.length->p∈Hu ys m->∃i j,p=[i,j]/\0<=i/\i<(ys.length:Int)/\0<=j/\j<(ys.length:Int):=by
  intro m
  induction m with
  | zero=>intro _ z;cases z
  | succ m ih =>
    intro hm z;unfold Hu at z;split at z
    . rename_i hc
      rcases qd5.mp z with z | z
      . exact ih O9m z
      . rw[qd1]at z;have hj:=Y6 (Bq (d:=0) (show 0<(Gc ys (m:Int)).length by omega));exact⟨_,_,z,O9m,O9m,hj.1,hj.2⟩
    . exact ih O9m z
 exact go _ (qa9 _) h
noncomputable def Vf(n:Nat)(fl:Int->Bool):List V:=(Go n).map fun p=>V.bl (fl p)
theorem Oj(n:Nat)(fl:Int->Bool):(Vf n fl).length=n:=by unfold Vf;rw[qa1,C2]
theorem m4{n:Nat}{fl:Int->Bool}{p:Int}(h0:0<=p)(h1:p<(n:Int)):Io (Vf n fl) p=some (.bl (fl p)):=by
 obtain⟨j,rfl⟩:=qg4 h0;refine Ca ?_;unfold Vf;rw[qa3,Ib (show j<n by omega)];rfl
theorem AG{n:Nat}{fl:Int->Bool}{p:Int}(h0:0<=p)(h1:p<(n:Int)):(Vf n fl).set p.toNat (.bl false)=Vf n fun q=>fl q&&decide (q≠p):=by
 apply qk7;intro i;unfold Vf;rw[List.getElem?_set,qa1,C2,qa3,qa3];by_cases hi:i<n
 . rw[Ib hi];by_cases e:p.toNat=i
   . rw[if_pos e,if_pos (by omega)];have:((i:Nat):Int)=p:=O9m
     simp[this]
   . rw[if_neg e];have:¬((i:Nat):Int)=p:=O9m
     simp[this]
 . rw[qe6 (by rw[C2];omega),if_neg (by omega)];rfl
theorem Vb{xs:LLInt}(h4:∀x∈xs,x.length<=4){f:Int}:∀ks:List Int,(Cj xs ks f).length<=4*ks.length
 | []=>qa9 _
 | k::ks=>by
   have ih:=Vb h4 (f:=f) ks;have h2:=Xm (xs.getD k.toNat []) f
   have h3:(xs.getD k.toNat []).length<=4:=by
    by_cases h:k.toNat<xs.length
    . exact h4 _ (Bq h)
    . rw[qa4,qe6 (by omega)];exact qb3 _
   unfold Cj at ih ⊢;rw[List.flatMap_cons,qb8,qi0,qe3];omega
theorem k6(xs:LLInt)(ks:List Int)(k f:Int):Cj xs (ks++[k]) f=Cj xs ks f++List.replicate (Gd (xs.getD k.toNat []) f) k:=by
 unfold Cj;rw[List.flatMap_append,List.flatMap_singleton]
theorem G6(n:Nat):Go (n+1)=Go n++[(n:Int)]:=by
 unfold Go;rw[qi9,qa6];rfl
theorem j8(n:Nat)(fl:Int->Bool):An (n+1) fl=An n fl++(if fl (n:Int)=true then [(n:Int)] else []):=by
 unfold An;rw[G6,qi3]
 congr 1
 by_cases h:fl (n:Int)=true
 . rw[if_pos h,qg7 h,qf5]
 . rw[if_neg h,qg3 h,qf5]
theorem cA{xs:LLInt}{n:Nat}{fl:Int->Bool}(hc:Qi xs (An n fl)){p0:List Int}{r:LLInt}(hb:Fp (Eh xs (An n fl))=p0::r) :
 ∃i j,p0=[i,j]/\0<=i/\i<((An n fl).length:Int)/\0<=j/\j<((An n fl).length:Int)/\(∃r',Eg xs (An n fl)=[Dc (An n fl) i,Dc (An n fl) j]::r') ∧
 (Db (An n fl).length [i,j]).map (Dc (An n fl))=An n (without fl [Dc (An n fl) i,Dc (An n fl) j])/\Qi xs (An n (without fl [Dc (An n fl) i,Dc (An n fl) j])) ∧
 Qi (Eh xs (An n fl)) (Db (An n fl).length [i,j])/\Eh (Eh xs (An n fl)) (Db (An n fl).length [i,j])=Eh xs (An n (without fl [Dc (An n fl) i,Dc (An n fl) j])) ∧
 (An n (without fl [Dc (An n fl) i,Dc (An n fl) j])).length<(An n fl).length:=by
 have hn:=M5 n fl;obtain⟨i,j,e,i0,i1,j0,j1⟩:=cF (ys:=Eh xs (An n fl)) (p:=p0) (by rw[hb];exact qd9 ..);rw[Fb]at i1 j1;subst e;have hs:=Zr hn hc;rw[hb]at hs;have hr:Eg xs (An n fl)=[Dc (An n fl) i,Dc (An n fl) j]::r.map (fun p=>p.map (Dc (An n fl))):=hs.symm;obtain⟨k,hk,hg,ep,_⟩:=Nj (xs:=xs) (ks:=An n fl) (p:=[Dc (An n fl) i,Dc (An n fl) j]) (by rw[hr];exact qd9 ..);have e1:=aZ hn i0 i1 j0 j1;have e2:=Gq n fl [Dc (An n fl) i,Dc (An n fl) j];have e3:(Db (An n fl).length [i,j]).map (Dc (An n fl))=An n (without fl [Dc (An n fl) i,Dc (An n fl) j]):=by rw[e1,e2];rfl
 have hc2:=Qf hc hg;rw[←ep]at hc2;refine⟨i,j,rfl,i0,i1,j0,j1,⟨_,hr⟩,e3,hc2,HZ hn N8 (by rw[e3];exact hc2),?_,?_⟩
 . rw[fT hn N8 (Rs _ _) (by rw[e3];exact hc2),e3]
 . rw[e2];refine qo7.mpr ⟨Dc (An n fl) i,AN i0 i1,?_⟩;simp
theorem r9{xs:LLInt}{n:Nat}{fl:Int->Bool}{p:List Int}{r:LLInt}(hb:Eg xs (An n fl)=p::r) :
 ∃k h,p=[k,h]/\0<=k/\k<(n:Int)/\0<=h/\h<(n:Int)/\(An n (without fl [k,h])).length<(An n fl).length:=by
 obtain⟨k,hk,hg,ep,hh⟩:=Nj (xs:=xs) (ks:=An n fl) (p:=p) (by rw[hb];exact qd9 ..);subst ep;obtain⟨⟨k0,k1⟩,_⟩:=Hm.mp hk;obtain⟨⟨h0,h1⟩,_⟩:=Hm.mp hh;refine⟨k,_,rfl,k0,k1,h0,h1,?_⟩;rw[Gq];refine qo7.mpr ⟨k,hk,?_⟩;simp
theorem Zs(xs:LLInt)(n:Nat)(fl:Int->Bool)(ks:List Int):((Go n).filter fun p=>fl p&&Df xs ks p)=(An n fl).filter (Df xs ks):=by
 unfold An;rw[List.filter_filter];apply qr1;intro q _;cases fl q<;>simp
theorem LM{as:List Addr}(h:as.Nodup){i j:Nat}{b:Addr}(hi:as[i]?=some b)(hj:as[j]?=some b):i=j:=by
 obtain⟨li,ei⟩:=qa2.mp hi;obtain⟨lj,ej⟩:=qa2.mp hj;exact(qo0 h).mp (ei.trans ej.symm)
theorem AM{as:List Addr}{x:Int}(h0:0<=x)(h1:x<(as.length:Int)):∃b,as[x.toNat]?=some b/\Io (as.map V.ref) x=some (.ref b):=by
 obtain⟨j,rfl⟩:=qg4 h0;have hj:j<as.length:=O9m
 refine⟨as[j],by rw[qb9];exact qa0 hj,Ca ?_⟩;rw[qa3,qa0 hj];rfl
theorem EA{n:Nat}{x:Int}(h0:0<=x)(h1:x<(n:Int)):HA n x=some x.toNat:=by
 unfold HA;rw[if_pos h0,if_pos h1]
section
variable(K:W.Frag)
noncomputable def X6:Sp:=fun vs H Q _=>∃(b:Addr) (ks:List Int),vs=[.ref b]/\SqL K H b (ks.map V.int)/\ks.Nodup/\ks.length<=1000/\newC H (On ks) Q
noncomputable def a8:Sp:=fun vs H Q _=>∃(b:Addr) (v:V) (ms:Ms) (fs:List Int) (g:Int->Int),vs=[.ref b,v]/\H b=some (.dK (cK ms))/\TI K H v fs/\fs.length<=1000/\(∀x∈fs,Oe ms x=some (g x)) ∧
 ∀(w:V) (H':Hp),Same H H'->TI K H' w (fs.map g)->Q w H'
noncomputable def Nr:Sp:=fun vs H Q _=>∃(a b:Addr) (ys:LLInt) (ls:List Int),vs=[.ref a,.ref b]/\LT K H (.ref a) ys/\SqL K H b (ls.map V.int)/\ls.Nodup/\(∀l∈ls,0<=l/\l<(ys.length:Int))/\Qi ys ls/\ls.length<=1000/\(∀x∈ys,x.length<=4) ∧
 ∀(D:Addr) (us:List V) (H':Hp),H D=none->Same H H'->H' D=some (.lst us)->Reps K H' us ((Eh ys ls).map tI)->Q (.ref D) H'
noncomputable def Rb:Sp:=fun vs H Q _=>∃(a:Addr) (v:V) (ys:LLInt) (p:List Int),vs=[.ref a,v]/\LT K H (.ref a) ys/\ys.length<=1000/\(∀x∈ys,x.length<=4)/\TI K H v p/\p.length<=1000/\∀H',Same H H'->Q (.bl (decide (p∈Fp ys))) H'
noncomputable def x9:Sp:=fun vs H Q _=>∃(a:Addr) (v:V) (ys:LLInt) (i j:Int),vs=[.ref a,v]/\LT K H (.ref a) ys/\ys.length<=1000/\(∀x∈ys,x.length<=4)/\TI K H v [i,j]/\[i,j]∈Fp ys/\Qi ys (Db ys.length [i,j]) ∧
 ∀(R L P:Addr) (us:List V) (H':Hp),Same H H'->H L=none->H P=none->H' R=some (.tup [.ref L,.ref P])->H' L=some (.lst us)->Reps K H' us ((Eh ys (Db ys.length [i,j])).map tI)->H' P=some (.lst ((Db ys.length [i,j]).map V.int))->Q (.ref R) H'
noncomputable def x8:Sp:=fun vs H Q _=>∃(a:Addr) (xs:LLInt),vs=[.ref a]/\LT K H (.ref a) xs/\xs.length<=1000/\(∀x∈xs,x.length<=4)/\(∀x∈xs,∀f∈x,0<=f/\f<(xs.length:Int)) ∧
 ∀(R L P M:Addr) (us qu:List V) (H':Hp),Same H H'->H L=none->H P=none->H M=none->H' R=some (.tup [.ref L,.ref P,.ref M])->H' L=some (.lst us)->Reps K H' us ((Eh xs (An xs.length (D4 xs xs.length xs.length (fun _=>true) []).1)).map tI) →
   H' P=some (.lst ((An xs.length (D4 xs xs.length xs.length (fun _=>true) []).1).map V.int))->H' M=some (.lst qu)->Reps K H' qu (((D4 xs xs.length xs.length (fun _=>true) []).2).map tI) →
   Eg xs (An xs.length (D4 xs xs.length xs.length (fun _=>true) []).1)=[]->Qi xs (An xs.length (D4 xs xs.length xs.length (fun _=>true) []).1)->(∀p∈(D4 xs xs.length xs.length (fun _=>true) []).2,p.length=2)->Q (.ref R) H'
noncomputable def Nx:Sp:=fun vs H Q _=>∃(a l:Addr) (xs:LLInt) (fl:Int->Bool),vs=[.ref a,.ref l]/\LT K H (.ref a) xs/\SqL K H l (Vf xs.length fl)/\xs.length<=1000/\(∀x∈xs,x.length<=4)/\(∀x∈xs,∀f∈x,0<=f/\f<(xs.length:Int)) ∧
 ∀(D:Addr) (us:List V) (H':Hp),H D=none->Same H H'->H' D=some (.lst us)->Reps K H' us ((Eg xs (An xs.length fl)).map tI)->Q (.ref D) H'
end
end Hb
namespace Hb
end Hb
namespace Hb
open PySem L2
section
variable{K:W.Frag}{H:Hp}
end
section
variable(K:W.Frag)
end
end Hb
namespace L2
open PySem PySem.Spec PyProof.Rows PySem.SeqAt
section
variable{X:Cx}{n:Nat}{K:W.Frag}
end
end L2
namespace L2
open PySem PySem.Spec PyProof.Rows
section
variable{prog:Program}{w:World}{A:Around}{E:Value->Shared->Prop}{s:Shared}
theorem Es{j t:Addr}{n:Nat}{vs:Array Value}{x:Value}{Q:Value->Shared->Prop}(g:s.heap.IsTupleIter j t n)(gt:s.heap.IsTuple t vs)(gx:vs[n]?=some x)
 (k:∀h',h'.IsTupleIter j t (n+1)->Heap.SameBut j s.heap h'->Q x { s with heap:=h' }):wpAny (model prog w) A (Builtin.SmallTypes.nextOf (.ref j)) Q E s:=by
 obtain⟨o,q1,q2,q3⟩:=id g;obtain⟨p,p1,_,m,p2⟩:=gt;unfold Builtin.SmallTypes.nextOf;refine qa5 (wpAny_callSpecial?_slot (name:=Str.ofString "__next__") g.typeIs ql6 (qk2 ql6 g.typeIs F.entry_tuple_iterator_next ?_ (F.args_tuple_iterator_next_1 _)));show wpAny _ _ (field (.ref j) 0>>=_) _ _ s;refine qa5 (qf6 q1 q3 (x:=.ref t) rfl ?_);show wpAny _ _ (if (Value.ref t==Value.none)=true then _ else _) _ _ s;rw[if_neg (show ¬((Value.ref t==Value.none)=true) from qc2)];show wpAny _ _ (field (.ref j) 1>>=_) _ _ s;refine qa5 (qf6 q1 q3 (x:=.int n 0) rfl ?_);show wpAny _ _ (seqItems? (.ref t)>>=_) _ _ s;refine qa5 (qh3 p1 p2 ?_);simp only[qb9,gx];refine qa5 (wpAny_setField q1 q3 (by simp) (qb2 ⟨x,rfl,qb2 (k _ ?_ (Heap.SameBut.update ..))⟩));exact⟨_,qj3 _ q1 (Obj.isFreed_of_fields (Obj.data_mapFields q3 _)),(Obj.cls_mapFields ..).trans q2,by rw[Obj.data_mapFields q3];simp[rawInt]⟩
theorem K6{j t:Addr}{n:Nat}{vs:Array Value}{Q:Value->Shared->Prop}(hn:A.handled=none)(g:s.heap.IsTupleIter j t n)(gt:s.heap.IsTuple t vs)(gx:vs[n]?=none)
 (k:∀h' e,Heap.ExtBut j s.heap h'->(∃o,h'.get? e=some o/\o.cls=.type "StopIteration")->E (.ref e) { s with heap:=h' }):wpAny (model prog w) A (Builtin.SmallTypes.nextOf (.ref j)) Q E s:=by
 obtain⟨o,q1,q2,q3⟩:=id g;obtain⟨p,p1,_,m,p2⟩:=gt;unfold Builtin.SmallTypes.nextOf;refine qa5 (wpAny_callSpecial?_slot (name:=Str.ofString "__next__") g.typeIs ql6 (qk2 ql6 g.typeIs F.entry_tuple_iterator_next ?_ (F.args_tuple_iterator_next_1 _)));show wpAny _ _ (field (.ref j) 0>>=_) _ _ s;refine qa5 (qf6 q1 q3 (x:=.ref t) rfl ?_);show wpAny _ _ (if (Value.ref t==Value.none)=true then _ else _) _ _ s;rw[if_neg (show ¬((Value.ref t==Value.none)=true) from qc2)];show wpAny _ _ (field (.ref j) 1>>=_) _ _ s;refine qa5 (qf6 q1 q3 (x:=.int n 0) rfl ?_);show wpAny _ _ (seqItems? (.ref t)>>=_) _ _ s;refine qa5 (qh3 p1 p2 ?_);simp only[qb9,gx];refine qa5 (wpAny_rule (qa5 (wpAny_setField q1 q3 (by simp) ?_)));show wpAny _ _ (newExc (.type "StopIteration") []>>=_) _ _ _;refine qa5 ?_;simp only[newExc,newTuple];refine qa5 (qj6 ?_ (by size_fits));refine qa5 (m:=firstArgMember _ _) (wpAny_of_eq (a:=Value.none) (by first | rfl | (simp only[firstArgMember];rfl)) ?_);refine qj6 ?_ (by size_fits);simp only[raiseNew];refine qa5 (wpAny_handled ?_)
 first | rw[show A.in1.handled=none from hn] | rw[hn]
 refine qa5 (qb2 (wpAny_throw ?_));exact k _ _ (((Heap.SameBut.update ..).extBut.push _).push _) ⟨_,qc0 _ rfl,rfl⟩
theorem aS{z a b i1 i2 t1 t2:Addr}{n m:Nat}{xs ys:Array Value}{x y u v:Value}{Q:Value->Shared->Prop}(D:ZipApart z a b i1 i2 t1 t2)(gz:IsZip s.heap z a b .none)(ga:IsPair s.heap a (.ref i1) (.ref i2))(gb:IsPair s.heap b u v)
 (g1:s.heap.IsTupleIter i1 t1 n) (g2:s.heap.IsTupleIter i2 t2 m) (e1:s.heap.IsTuple t1 xs) (e2:s.heap.IsTuple t2 ys) (gx:xs[n]?=some x) (gy:ys[m]?=some y)
 (k:∀h',IsZip h' z a b (rawInt s.heap.objs.size)->IsPair h' b x y->h'.IsTupleIter i1 t1 (n+1)->h'.IsTupleIter i2 t2 (m+1)->IsPair h' s.heap.objs.size x y->h'.objs.size=s.heap.objs.size+1 →
   (∀c o,c≠z->c≠b->c≠i1->c≠i2->s.heap.get? c=some o->h'.get? c=some o)->Q (.ref s.heap.objs.size) { s with heap:=h' }) :
 wpAny (model prog w) A (Builtin.«zip.__next__» ⟨[.ref z],[]⟩) (fun fin s'=>∃r,fin=.done (.ret r)/\Q r s') E s:=by
 show wpAny _ _ (field (.ref z) 2>>=_) _ _ _;refine qa5 (qf6 gz rfl (x:=.bool false) rfl ?_);show wpAny _ _ (field (.ref z) 3>>=_) _ _ _;refine qa5 (qf6 gz rfl (x:=.ref a) rfl ?_);refine qa5 (qh3 ga rfl ?_);show wpAny _ _ (Builtin.SmallTypes.ownedTupleIsFree (.ref z)>>=_) _ _ _;refine qa5 ?_;unfold Builtin.SmallTypes.ownedTupleIsFree;refine qa5 (qf6 gz rfl (x:=.none) rfl (qb2 ?_));simp only[if_true];refine qa5 (wpAny_rule ?_);refine qa5 (qf6 gz rfl (x:=.ref b) rfl ?_);refine qa5 (qk8 gz (by simp) fun k1 fN w1=>?_)
 replace fN:IsZip k1 z a b .ellipsis:=fN
 refine qa5 ?_;simp only[List.zipIdx_cons,List.zipIdx_nil,qm6,qp1];refine qa5 (qa5 (wpAny_onRaise ?_));show wpAny _ _ (Builtin.SmallTypes.nextOf (.ref i1)>>=_) _ _ _;refine qa5 (Es (g1.extBut w1.extBut D.i1z) (e1.extBut w1.extBut D.l1z) gx fun k2 f1 w2=>qb2 ?_);have uQ:IsPair k2 b u v:=w2.extBut _ _ D.TOi1 (w1.extBut _ _ D.TOz gb);refine qa5 (qh3 uQ rfl ?_);refine qa5 (wpAny_updateSeq_pair uQ fun k3 SJ w3=>?_)
 replace SJ:IsPair k3 b x v:=SJ
 refine qa5 (wpAny_letGo (qb2 ?_));refine qa5 (qa5 (wpAny_onRaise ?_));show wpAny _ _ (Builtin.SmallTypes.nextOf (.ref i2)>>=_) _ _ _;refine qa5 (Es (((g2.extBut w1.extBut D.i2z).extBut w2.extBut D.i12.symm).extBut w3.extBut D.TOi2.symm) (((e2.extBut w1.extBut D.l2z).extBut w2.extBut D.l2i1).extBut w3.extBut D.l2TO) gy fun k4 f2 w4=>qb2 ?_);have UP:IsPair k4 b x v:=w4.extBut _ _ D.TOi2 SJ;refine qa5 (qh3 UP rfl ?_);refine qa5 (wpAny_updateSeq_pair UP fun k5 pO w5=>?_)
 replace pO:IsPair k5 b x y:=pO
 refine qa5 (wpAny_letGo (qb2 (qb2 ?_)));refine qa5 (qh3 pO rfl ?_);refine qa5 (wpAny_newTuple ?_);have sz:k5.objs.size=s.heap.objs.size:=by rw[w5.1,w4.1,w3.1,w2.1,w1.1]
 have uO:IsZip k5 z a b .ellipsis:=w5.extBut _ _ D.TOz.symm (w4.extBut _ _ D.i2z.symm (w3.extBut _ _ D.TOz.symm (w2.extBut _ _ D.i1z.symm fN)));have kp:∀c o,c≠z->c≠b->c≠i1->c≠i2->s.heap.get? c=some o->k5.get? c=some o:=fun c o c1 c2 c3 c4 e=>w5.extBut _ _ c2 (w4.extBut _ _ c4 (w3.extBut _ _ c2 (w2.extBut _ _ c3 (w1.extBut _ _ c1 e))));have XM:k5.IsTupleIter i1 t1 (n+1):=((f1.extBut w3.extBut D.TOi1.symm).extBut w4.extBut D.i12).extBut w5.extBut D.TOi1.symm;have xM:k5.IsTupleIter i2 t2 (m+1):=f2.extBut w5.extBut D.TOi2.symm;have lz:z<k5.objs.size:=qb0 uO;show wpAny _ _ (Builtin.SmallTypes.ownedTupleHandOut (.ref z) (.ref k5.objs.size)>>=_) _ _ _;refine qa5 ?_;unfold Builtin.SmallTypes.ownedTupleHandOut;have XG:IsZip (k5.push { cls:=.type "tuple",data:=.seq #[x,y] }) z a b .ellipsis:=qa7 _ uO;refine qa5 (qk8 XG (by simp) fun k7 sJ w7=>?_)
 replace sJ:IsZip k7 z a b (rawInt k5.objs.size):=sJ
 refine qk8 sJ (by simp) fun k8 PN w8=>?_
 replace PN:IsZip k8 z a b (rawInt k5.objs.size):=PN
 have up:∀c o,c≠z->k5.get? c=some o->k8.get? c=some o:=fun c o c1 e=>w8.extBut _ _ c1 (w7.extBut _ _ c1 (qa7 _ e));have gt:IsPair k8 k5.objs.size x y:=w8.extBut _ _ (qe7 lz) (w7.extBut _ _ (qe7 lz) (qc0 _ rfl));have s8:k8.objs.size=k5.objs.size+1:=by rw[w8.1,w7.1,qh8]
 rw[sz]at PN gt s8;refine qb2 ⟨_,rfl,?_⟩;show Q (.ref k5.objs.size) _;rw[sz];exact k k8 PN (up _ _ D.TOz pO) (XM.at fun o e=>up _ o D.i1z e) (xM.at fun o e=>up _ o D.i2z e) gt s8 fun c o c1 c2 c3 c4 e=>up c o c1 (kp c o c1 c2 c3 c4 e)
theorem CL{z a b i1 i2 t1 t2:Addr}{n m:Nat}{xs ys:Array Value}{u v:Value}{Q:PySem.Fin->Shared->Prop}(hn:A.handled=none)(D:ZipApart z a b i1 i2 t1 t2)(gz:IsZip s.heap z a b .none)(ga:IsPair s.heap a (.ref i1) (.ref i2))(gb:IsPair s.heap b u v)
 (g1:s.heap.IsTupleIter i1 t1 n) (g2:s.heap.IsTupleIter i2 t2 m) (e1:s.heap.IsTuple t1 xs) (e2:s.heap.IsTuple t2 ys) (gx:xs[n]?=none)
 (k:∀h' e,(∀c o,c≠z->c≠b->c≠i1->c≠i2->s.heap.get? c=some o->h'.get? c=some o)->(∃o,h'.get? e=some o/\o.cls=.type "StopIteration")->E (.ref e) { s with heap:=h' }) :
 wpAny (model prog w) A (Builtin.«zip.__next__» ⟨[.ref z],[]⟩) Q E s:=by
 show wpAny _ _ (field (.ref z) 2>>=_) _ _ _;refine qa5 (qf6 gz rfl (x:=.bool false) rfl ?_);show wpAny _ _ (field (.ref z) 3>>=_) _ _ _;refine qa5 (qf6 gz rfl (x:=.ref a) rfl ?_);refine qa5 (qh3 ga rfl ?_);show wpAny _ _ (Builtin.SmallTypes.ownedTupleIsFree (.ref z)>>=_) _ _ _;refine qa5 ?_;unfold Builtin.SmallTypes.ownedTupleIsFree;refine qa5 (qf6 gz rfl (x:=.none) rfl (qb2 ?_));simp only[if_true];refine qa5 (wpAny_rule ?_);refine qa5 (qf6 gz rfl (x:=.ref b) rfl ?_);refine qa5 (qk8 gz (by simp) fun k1 fN w1=>?_)
 replace fN:IsZip k1 z a b .ellipsis:=fN
 refine qa5 ?_;simp only[List.zipIdx_cons,List.zipIdx_nil,qm6,qp1];refine qa5 (qa5 (wpAny_onRaise ?_));show wpAny _ _ (Builtin.SmallTypes.nextOf (.ref i1)>>=_) _ _ _;refine qa5 (K6 hn (g1.extBut w1.extBut D.i1z) (e1.extBut w1.extBut D.l1z) gx fun k2 e w2 he=>?_);obtain⟨oe,ge,ce⟩:=he;have UO:IsZip k2 z a b .ellipsis:=w2 _ _ D.i1z.symm fN;have ne:e≠z:=fun q=>by subst q;rw[UO]at ge;cases ge;simp at ce
 refine qk8 UO (by simp) fun k3 _ w3=>k k3 e (fun c o c1 _ c3 _ q=>w3.extBut _ _ c1 (w2 _ _ c3 (w1.extBut _ _ c1 q))) ⟨oe,w3.extBut _ _ ne ge,ce⟩
theorem K5{z a b i1 i2 t1 t2:Addr}{n m:Nat}{xs ys:Array Value}{x y u v:Value}{Q:Option Value->Shared->Prop}(D:ZipApart z a b i1 i2 t1 t2)(gz:IsZip s.heap z a b .none)(ga:IsPair s.heap a (.ref i1) (.ref i2))(gb:IsPair s.heap b u v)
 (g1:s.heap.IsTupleIter i1 t1 n) (g2:s.heap.IsTupleIter i2 t2 m) (e1:s.heap.IsTuple t1 xs) (e2:s.heap.IsTuple t2 ys) (gx:xs[n]?=some x) (gy:ys[m]?=some y)
 (k:∀h',IsZip h' z a b (rawInt s.heap.objs.size)->IsPair h' b x y->h'.IsTupleIter i1 t1 (n+1)->h'.IsTupleIter i2 t2 (m+1)->IsPair h' s.heap.objs.size x y->h'.objs.size=s.heap.objs.size+1 →
   (∀c o,c≠z->c≠b->c≠i1->c≠i2->s.heap.get? c=some o->h'.get? c=some o)->Q (some (.ref s.heap.objs.size)) { s with heap:=h' }):wpAny (model prog w) A (pyNext (.ref z)) Q E s:=by
 have ht:s.TypeIs (.ref z) "zip":=⟨_,gz,rfl⟩
 unfold pyNext;exact qa5 (wpAny_attempt (wpAny_callSpecial?_slot (name:=Str.ofString "__next__") ht qj9 (qk2 qj9 ht qp2 (aS D gz ga gb g1 g2 e1 e2 gx gy fun h' a1 a2 a3 a4 a5 a6 a7=>qb2 (k h' a1 a2 a3 a4 a5 a6 a7)) (qo8 _))))
theorem Mg{z a b i1 i2 t1 t2:Addr}{n m:Nat}{xs ys:Array Value}{u v:Value}{Q:Option Value->Shared->Prop}(hn:A.handled=none)(D:ZipApart z a b i1 i2 t1 t2)(gz:IsZip s.heap z a b .none)(ga:IsPair s.heap a (.ref i1) (.ref i2))(gb:IsPair s.heap b u v)
 (g1:s.heap.IsTupleIter i1 t1 n) (g2:s.heap.IsTupleIter i2 t2 m) (e1:s.heap.IsTuple t1 xs) (e2:s.heap.IsTuple t2 ys) (gx:xs[n]?=none)
 (k:∀h',(∀c o,c≠z->c≠b->c≠i1->c≠i2->s.heap.get? c=some o->h'.get? c=some o)->Q none { s with heap:=h' }):wpAny (model prog w) A (pyNext (.ref z)) Q E s:=by
 have ht:s.TypeIs (.ref z) "zip":=⟨_,gz,rfl⟩
 unfold pyNext;refine qa5 (wpAny_attempt (wpAny_callSpecial?_slot (name:=Str.ofString "__next__") ht qj9 (qk2 qj9 ht qp2 (CL hn D gz ga gb g1 g2 e1 e2 gx fun h' e kp he=>?_) (qo8 _))));obtain⟨o,q1,q2⟩:=he;exact qa5 (wpAny_isInstance (T:="StopIteration") (b:=true) ⟨o,q1,q2⟩ isSubtype_stop (qb2 (k _ kp)))
end
noncomputable abbrev zt1(h:Heap)(a:Addr):Heap:=h.push { cls:=.type "tuple_iterator",data:=.fields #[.ref a,.int 0 0] }
noncomputable abbrev OW(h:Heap)(a b:Addr):Heap:=(zt1 h a).push { cls:=.type "tuple_iterator",data:=.fields #[.ref b,.int 0 0] }
noncomputable abbrev oW(h:Heap)(a b:Addr):Heap:=(OW h a b).push { cls:=.type "tuple",data:=.seq #[.ref h.objs.size,.ref (zt1 h a).objs.size] }
noncomputable abbrev OV(h:Heap)(a b:Addr):Heap:=(oW h a b).push { cls:=.type "tuple",data:=.seq #[.none,.none] }
noncomputable abbrev JB(h:Heap)(a b:Addr):Heap:=(OV h a b).push { cls:=.type "zip",data:=.fields #[.none,.bool false,.bool false,.ref (OW h a b).objs.size,.ref (oW h a b).objs.size] }
theorem cL(a b:Addr)(xs ys:Array Value):Meets (Builtin.«zip.__new__» ⟨[.type "zip",.ref a,.ref b],[]⟩) (fun _ R s=>s.heap.IsTuple a xs/\s.heap.IsTuple b ys/\R (.ok (.ret (.ref (OV s.heap a b).objs.size))) { s with heap:=JB s.heap a b }) :=
 .of_wp fun prog w A R s h=>by
  obtain⟨hp,g,d,tk,os⟩:=s;obtain⟨h1,h2,h⟩:=h;have hsub:=sub_zip;have g1:Heap.IsTuple (Shared.heap ⟨hp,g,d,tk,os⟩) a xs:=h1;have g2:Heap.IsTuple (Shared.heap ⟨hp.push { cls:=.type "tuple_iterator",data:=.fields #[.ref a,.int 0 0] },g,d,tk,os⟩) b ys:=Heap.IsTuple.push h2 _
  wp_walk using wpAny_pyIter_tuple g1,wpAny_pyIter_tuple g2
  exact⟨_,rfl,h⟩
section
variable{prog:Program}{w:World}{A:Around}{E:Value->Shared->Prop}{s:Shared}
theorem Vn{a b:Addr}{xs ys:Array Value}{Q:Value->Shared->Prop}(h1:s.heap.IsTuple a xs)(h2:s.heap.IsTuple b ys)
 (k:∀h',IsZip h' (s.heap.objs.size+4) (s.heap.objs.size+2) (s.heap.objs.size+3) .none->IsPair h' (s.heap.objs.size+2) (.ref s.heap.objs.size) (.ref (s.heap.objs.size+1)) →
   IsPair h' (s.heap.objs.size+3) .none .none->h'.IsTupleIter s.heap.objs.size a 0->h'.IsTupleIter (s.heap.objs.size+1) b 0->h'.objs.size=s.heap.objs.size+5 →
   (∀c o,s.heap.get? c=some o->h'.get? c=some o)->Q (.ref (s.heap.objs.size+4)) { s with heap:=h' }):wpAny (model prog w) A (call (.type "zip") [.ref a,.ref b]) Q E s:=by
 refine callType_new F.called_zip (by decide) (F.typeCall_zip_2 _ _) (F.newCall_zip_2 _ _) (fun obj=>F.args_object_init_3 obj _ _) F.entry_zip_new (cL a b xs ys) ⟨h1,h2,?_⟩;have z1:(zt1 s.heap a).objs.size=s.heap.objs.size+1:=qh8 ..;have z2:(OW s.heap a b).objs.size=s.heap.objs.size+2:=by rw[qh8,z1]
 have z3:(oW s.heap a b).objs.size=s.heap.objs.size+3:=by rw[qh8,z2]
 have z4:(OV s.heap a b).objs.size=s.heap.objs.size+4:=by rw[qh8,z3]
 have z5:(JB s.heap a b).objs.size=s.heap.objs.size+5:=by rw[qh8,z4]
 have q5:(JB s.heap a b).get? (OV s.heap a b).objs.size=some _:=qc0 _ rfl;have q4:(JB s.heap a b).get? (oW s.heap a b).objs.size=some _:=qa7 _ (qc0 _ rfl);have q3:(JB s.heap a b).get? (OW s.heap a b).objs.size=some _:=qa7 _ (qa7 _ (qc0 _ rfl));have q2:(JB s.heap a b).get? (zt1 s.heap a).objs.size=some _:=qa7 _ (qa7 _ (qa7 _ (qc0 _ rfl)));have q1:(JB s.heap a b).get? s.heap.objs.size=some _:=qa7 _ (qa7 _ (qa7 _ (qa7 _ (qc0 _ rfl))));show _/\_;rw[z2,z3,z4]at q5;rw[z1,z2]at q3;rw[z3]at q4;rw[z1]at q2;rw[z4];exact⟨⟨_,q5,rfl⟩,k _ q5 q3 q4 ⟨_,q1,rfl,rfl⟩ ⟨_,q2,rfl,rfl⟩ z5 fun c o x=>qa7 _ (qa7 _ (qa7 _ (qa7 _ (qa7 _ x))))⟩
end
noncomputable def Ityp(K:W.Frag)(a b:Addr):It :=
 ⟨fun i H=>∃xs ys x y,Dv K H a xs/\Dv K H b ys/\xs[i]?=some x/\ys[i]?=some y,
  fun i H v H'=>∃p x y,H p=none/\v=.ref p/\H'=upd H p (.tup [x,y])/\(∀xs,Dv K H a xs->xs[i]?=some x)/\∀ys,Dv K H b ys->ys[i]?=some y,
  fun i H=>∃xs ys,Dv K H a xs/\Dv K H b ys/\xs.length<=i⟩
theorem AU{P:Program}{w:World}{K:W.Frag}{es:List Expr}{x1:Nat}{tpos:Pos}(a b z TI TO i1 i2:Addr)(D:ZipApart z TI TO i1 i2 a b) :
 Xt P w K (.Tuple es x1 tpos) (Ityp K a b) [z,TI,TO,i1,i2] z (fun i h=>IsZip h z TI TO .none/\IsPair h TI (.ref i1) (.ref i2)/\(∃c d,IsPair h TO c d)/\h.IsTupleIter i1 a i/\h.IsTupleIter i2 b i) where
 mem:=by simp
 obj:=fun i h st c hc=>by
  obtain⟨hz,hTI,⟨u,v,hTO⟩,⟨o1,h1,c1,d1⟩,⟨o2,h2,c2,d2⟩⟩:=st;simp only[qb7,qe8,or_false]at hc;rcases hc with rfl | rfl | rfl | rfl | rfl
  . exact⟨_,hz,fun v q=>by cases (show Data.fields _=Data.cell v from q)⟩
  . exact⟨_,hTI,fun v q=>by cases (show Data.seq _ _=Data.cell v from q)⟩
  . exact⟨_,hTO,fun v q=>by cases (show Data.seq _ _=Data.cell v from q)⟩
  . exact⟨o1,h1,fun v q=>by rw[d1]at q;cases q⟩
  . exact⟨o2,h2,fun v q=>by rw[d2]at q;cases q⟩
 keep:=fun i h h' st k=>by
  obtain⟨hz,hTI,⟨u,v,hTO⟩,h1,h2⟩:=st;exact⟨k z (by simp) _ hz,k TI (by simp) _ hTI,⟨u,v,k TO (by simp) _ hTO⟩,h1.at fun o q=>k i1 (by simp) o q,h2.at fun o q=>k i2 (by simp) o q⟩
 item:=by
  intro X hP hw hK hc i Ae s σ H E I hf st hg;subst hP hw hK;obtain⟨hz,hTI,⟨u0,v0,hTO⟩,h1,h2⟩:=st;obtain⟨xs,ys,x,y,Zw,IS,hx,hy⟩:=hg;obtain⟨ia,ra,pa,_⟩:=I.tuple Zw;obtain⟨ib,rb,pb,_⟩:=I.tuple IS;obtain⟨u,hu,ru⟩:=ra.get hx;obtain⟨v,hv,rv⟩:=rb.get hy;have hfresh:H s.heap.objs.size=none:=I.hok.fresh (qa9 _);have tZ:=qb0 hz;refine K5 D hz hTI hTO h1 h2 (show s.heap.IsTuple a ia.toArray from pa) (show s.heap.IsTuple b ib.toArray from pb) (x:=u) (y:=v) (by simpa using hu) (by simpa using hv) fun h' hz' rV HP h2' htup hsz hk=>?_;refine⟨_,rfl,wpAny_letOwnedTupleGo_zip hz' fun h3 vZ Xv=>?_⟩
  replace Xv:Heap.SameBut z h' h3:=Xv
  have kk:∀c o,c ∉ [z,TI,TO,i1,i2]->s.heap.get? c=some o->h3.get? c=some o:=fun c o hc e=>by
   simp only[qb7,qe8,or_false,not_or]at hc;obtain⟨n1,n2,n3,n4,n5⟩:=hc;exact(Xv.2 c n1).trans (hk c o n1 n3 n4 n5 e)
  have RA:h3.get? s.heap.objs.size=some { cls:=.type "tuple",data:=.seq #[u,v] }:=(Xv.2 _ (qe7 tZ)).trans htup;have hi1:h3.IsTupleIter i1 a (i+1):=HP.at fun o e=>(Xv.2 i1 D.i1z).trans e;have hi2:h3.IsTupleIter i2 b (i+1):=h2'.at fun o e=>(Xv.2 i2 D.i2z).trans e;have RV:IsPair h3 TI (.ref i1) (.ref i2):=(Xv.2 TI D.TIz).trans (hk _ _ D.TIz D.TITO D.TIi1 D.TIi2 hTI);have RU:IsPair h3 TO u v:=(Xv.2 TO D.TOz).trans rV;have fK:∀c o,H c=some o->c ∉ [z,TI,TO,i1,i2]:=fun c o e hm=>by rw[(hf c hm).1]at e;cases e
  have dM:∀c o,H c=some o->c≠s.heap.objs.size:=fun c o e=>Be e hfresh;refine⟨.ref s.heap.objs.size,upd H s.heap.objs.size (.tup [x,y]),?_,rfl,⟨s.heap.objs.size,x,y,hfresh,rfl,rfl,fun zs q=>by rw[I.tuple_inj q Zw];exact hx,fun zs q=>by rw[I.tuple_inj q IS];exact hy⟩,⟨vZ,RV,⟨_,_,RU⟩,hi1,hi2⟩,fun c hc=>?_⟩
  . refine Bd.step (s:=s) (h':=h3) (t':=s.toks) (H':=upd H s.heap.objs.size (.tup [x,y])) I (g':=s.gens) (d':=s.drawn) (ch:=[z,TI,TO,i1,i2]) (fun c hc=>?_) (fun c o _ _ hc e _=>kk c o hc e) (fun c o _ _ hc e _=>⟨o.slots,kk c o hc e⟩) (fun c o hc e n=>?_) (fun c o hc e=>⟨o,kk c o hc e⟩)
     (fun c zs e=>by rw[A8 (dM c _ e)];exact e) (fun c o w' e=>by rw[A8 (dM c _ e)];exact e) (fun c ps e=>⟨#[],by rw[A8 (dM c _ e),e];simp⟩) (fun m hm=>?_) (fun c w' e=>?_) I.bare
    . have f:=hf c hc;exact⟨f.2.2.2.1,f.2.1,f.2.2.2.2.1,f.2.2.2.2.2⟩
    . rw[A8 (qc7 (qb0 e))];exact n
    . obtain⟨o,es',ep,ho,r⟩:=hm;exact⟨o,es',ep,kk _ o (fun q=>(hf _ q).2.1 rfl) ho,r⟩
    . by_cases hcs:c=s.heap.objs.size
      . subst hcs;rw[Ab]at e;cases e;exact⟨(by show(2:Nat)<=sizeLine;decide),[u,v],.cons ru (.cons rv .nil),⟨_,RA,rfl,rfl,_,rfl⟩⟩
      . rw[A8 hcs]at e;refine(I.hok c w' e).stay (fun c' y' hc' q=>?_) (fun c' q=>by rw[A8 (dM c' _ q)];exact q) fun c' zs q=>by rw[A8 (dM c' _ q)];exact q
        rcases hc' with rfl | hc'
        . exact kk _ _ (fK _ _ e) q
        . exact kk _ _ (fK _ _ hc') q
  . have lb:c<s.heap.objs.size:=by
     simp only[qb7,qe8,or_false]at hc;obtain⟨o1,q1,_⟩:=h1;obtain⟨o2,q2,_⟩:=h2;rcases hc with rfl | rfl | rfl | rfl | rfl
     . exact tZ
     . exact qb0 hTI
     . exact qb0 hTO
     . exact qb0 q1
     . exact qb0 q2
    rw[A8 (qc7 lb)];exact(hf c hc).1
 done:=by
  intro X hP hw hK hc i Ae s σ H E I hf st hg;subst hP hw hK;obtain⟨hz,hTI,⟨u0,v0,hTO⟩,h1,h2⟩:=st;obtain⟨xs,ys,Zw,IS,hx⟩:=hg;obtain⟨ia,ra,pa,_⟩:=I.tuple Zw;obtain⟨ib,rb,pb,_⟩:=I.tuple IS;have la:=ra.length;have lb:=rb.length;refine Mg (I.ok.hd hc) D hz hTI hTO h1 h2 (show s.heap.IsTuple a ia.toArray from pa) (show s.heap.IsTuple b ib.toArray from pb) ?_ fun h' hk=>⟨rfl,I.turnedN (t':=s.toks) (fp:=[z,TI,TO,i1,i2]) (fun c o hc e=>?_) hf⟩
  . simp;omega
  . simp only[qb7,qe8,or_false,not_or]at hc;obtain⟨n1,n2,n3,n4,n5⟩:=hc;exact hk c o n1 n3 n4 n5 e
 self:=fun _ _ _ _ _ st h=>wpAny_pyIter_zip st.1 h
noncomputable def nV(K:W.Frag)(ta:TA):TI:=fun σ H R=>ta σ H fun vs H1=>∃a b,vs=[.ref a,.ref b]/\(∃xs,Dv K H1 a xs)/\(∃ys,Dv K H1 b ys)/\R (Ityp K a b) H1
theorem S6:bootBuiltins "zip"=some (.type "zip"):=by decide +kernel
theorem GF{X:Cx}{K:W.Frag}{es:List Expr}{x1:Nat}{tpos:Pos}{a b:Expr}{ta:TA}{p pos:Pos}(hg:Gl X "zip")(hm:X.mg "zip"=none)(ha:PA X [a,b] ta)(hK:X.K=K:=by rfl)(hs:starEach [a,b] X.env=[(false,eval a X.env),(false,eval b X.env)]:=by rfl)(hs2:starEach [b] X.env=[(false,eval b X.env)]:=by rfl) :
 PI X (.Tuple es x1 tpos) (.Call (.Name "zip" p) [a,b] [] pos) (nV K ta):=by
 subst hK;intro Ae s σ H R I h;refine Call_ (Iw I hg hm S6 (qf4 (C8 (ha pos Ae s σ H _ I h) fun us s1 ⟨vs,H1,I1,r1,q1⟩=>?_) (by rw[hs,hs2]) (by rw[hs2];rfl)));obtain⟨la,lb,e,⟨xs,Zw⟩,⟨ys,IS⟩,q⟩:=q1;subst e;cases r1 with
 | cons ra rr =>
   cases rr with
   | cons rb rr =>
     cases rr;cases ra;cases rb;obtain⟨ia,_,pa,_⟩:=I1.tuple Zw;obtain⟨ib,_,pb,_⟩:=I1.tuple IS;have a1:la<s1.heap.objs.size:=by obtain⟨_,e,_⟩:=pa;exact qb0 e
     have a2:lb<s1.heap.objs.size:=by obtain⟨_,e,_⟩:=pb;exact qb0 e
     refine Vn (show s1.heap.IsTuple la ia.toArray from pa) (show s1.heap.IsTuple lb ib.toArray from pb) fun h' hz hTI hTO hi1 hi2 hsz hk=>?_;refine wpAny_pyIter_zip hz ⟨s1.heap.objs.size+4,[s1.heap.objs.size+4,s1.heap.objs.size+2,s1.heap.objs.size+3,s1.heap.objs.size,s1.heap.objs.size+1],_,_,H1,rfl,I1.kept (t':=s1.toks) hk,AU la lb _ _ _ _ _ (zipApart_new a1 a2),⟨hz,hTI,⟨_,_,hTO⟩,hi1,hi2⟩,fun c hc=>?_,q⟩
     have lc:s1.heap.objs.size<=c:=by
      simp only[qb7,qe8,or_false]at hc;rcases hc with rfl | rfl | rfl | rfl | rfl
      . exact qj7 _ _
      . exact qj7 _ _
      . exact qj7 _ _
      . exact qa9 _
      . exact qj7 _ _
     exact I1.fpOk lc (I1.hok.fresh lc)
section
variable{g:TG}{tc:TT}{te:TE}{D:Addr}{Q:Hp->Prop}{τ:St}{H:Hp}
end
end L2
namespace L2
open PySem PySem.Spec PyProof.Rows
open AutoSeq1 (wpAny_loadPart')
section
variable{prog:Program}{w:World}{A:Around}{E:Value->Shared->Prop}{s:Shared}
end
section
variable{g:TG}{tc:TT}{te:TE}{D:Addr}{Q:Hp->Prop}{τ:St}{H:Hp}
end
end L2
namespace Hb
noncomputable def sg(i:Nat):Int:=1-2*((i:Int)%2)
end Hb
namespace Hb
open PySem L2
noncomputable def AO(b:Addr)(H H1:Hp):Prop:=∀c q,c≠b->H c=some q->H1 c=some q
section
variable{K:W.Frag}{H H1:Hp}{b:Addr}{m:List (Key × V)}
theorem SqL.x(s:AO b H H1)(hb:H b=some (.dK m)){a:Addr}{xs:List V}(h:SqL K H a xs):SqL K H1 a xs:=by
 rcases h with(h|⟨o,h⟩) | h
 . exact .inl (.inl (s _ _ (fun z=>by rw[z,hb]at h;cases h) h))
 . exact .inl (.inr ⟨o,s _ _ (fun z=>by rw[z,hb]at h;cases h) h⟩)
 . exact .inr h
theorem Dv.x(s:AO b H H1)(hb:H b=some (.dK m)){a:Addr}{xs:List V}(h:Dv K H a xs):Dv K H1 a xs:=by
 rcases h with(h|⟨o,h⟩) | h
 . exact .inl (.inl (s _ _ (fun z=>by rw[z,hb]at h;cases h) h))
 . exact .inl (.inr ⟨o,s _ _ (fun z=>by rw[z,hb]at h;cases h) h⟩)
 . exact .inr h
mutual
theorem Rep.x(s:AO b H H1)(hb:H b=some (.dK m)){v:V}{d:L2.D}(h:Rep K H v d):Rep K H1 v d:=by
 cases d with
 | non=>exact h
 | bl b=>exact h
 | int i=>exact h
 | str x=>exact h
 | tup ds =>
   obtain⟨a,vs,e,q,r⟩:=h;exact⟨a,vs,e,Dv.x s hb q,Reps.x s hb r⟩
 | lst ds =>
   obtain⟨a,vs,e,q,r⟩:=h;exact⟨a,vs,e,SqL.x s hb q,Reps.x s hb r⟩
theorem Reps.x(s:AO b H H1)(hb:H b=some (.dK m)){vs:List V}{ds:List L2.D}(h:Reps K H vs ds):Reps K H1 vs ds:=by
 cases ds with
 | nil=>exact h
 | cons d r =>
   obtain⟨v,q,e,h1,h2⟩:=h;exact⟨v,q,e,Rep.x s hb h1,Reps.x s hb h2⟩
end
end
section
variable(K:W.Frag)
end
end Hb
namespace Hb
open PySem L2
noncomputable def face(xs:LLInt)(φ:Int->Int)(p:Int):Int:=Z4 (fun j=>sg j*φ ((xs.getD p.toNat []).getD j 0)) (xs.getD p.toNat []).length
noncomputable def NS(n:Nat)(k:Int):Bool:=decide ((n:Int)=k+1) || (decide (k=0)&&decide (n=0))
noncomputable def qF(xs:LLInt)(k:Int):Nat->List Int
 | 0=>[]
 | i+1=>if NS (xs.getD i []).length k=true then qF xs k i++[(i:Int)] else qF xs k i
noncomputable def spots(xs:LLInt)(k:Int):List Int:=qF xs k xs.length
section
variable(K:W.Frag)
end
end Hb
namespace L2
open PySem PySem.Spec PyProof.Rows
noncomputable abbrev TJ:=St->Hp->(Hp->Prop)->Prop
section
variable{X:Cx}{e v₁ v₂:Expr}{es rest:List Expr}{te:TE}{tj:TJ}{pos:Pos}
end
end L2
namespace Hb
open PySem L2
section
variable(K:W.Frag)
end
end Hb
namespace HT
open PySem PySem.Spec PyProof.Rows
section
variable{prog:Program}{w:World}{A:Around}{E:Value->Shared->Prop}{s:Shared}
end
end HT
namespace L2
open PySem PySem.Spec PyProof.Rows
section
variable{X:Cx}
end
end L2
namespace Hb
end Hb
namespace Hb
open PySem L2
theorem IB{sp:List Int}{x:Int}(h0:0<=x)(h1:x<(sp.length:Int)):Io (sp.map V.int) x=some (.int (sp.getD x.toNat 0)):=by
 obtain⟨j,rfl⟩:=qg4 h0;have hj:j<sp.length:=O9m
 rw[qb9];exact Ca (by rw[qa3,qa0 hj,qa4,qa0 hj];rfl)
section
variable(K:W.Frag)
noncomputable def V1:Sp:=fun vs H Q _=>∃(a:Addr) (v:V) (sp fs:List Int),vs=[.ref a,v]/\SqL K H a (sp.map V.int)/\TI K H v fs/\(∀x∈fs,0<=x/\x<(sp.length:Int))/\fs.length<=1000 ∧
 ∀(w:V) (H':Hp),Same H H'->TI K H' w (fs.map fun x=>sp.getD x.toNat 0)->Q w H'
end
section
variable(K:W.Frag)
end
end Hb
namespace Hb
open L2 PySem
noncomputable def fc(ys:LLInt)(p:Int):List Int:=ys.getD p.toNat []
noncomputable def lb(fs:List Int)(p:Int):Int:=fs.getD p.toNat 0
noncomputable def B5(ys:LLInt)(p:Int):Prop:=0<=p/\p<(ys.length:Int)
noncomputable def Gr(ys:LLInt):Prop:=∀p,B5 ys p->∀f∈fc ys p,0<=f/\f<p/\(fc ys f).length<(fc ys p).length/\∀q,B5 ys q->(fc ys q).length<(fc ys p).length->(fc ys q).length<=(fc ys f).length
theorem Gr.rng{ys:LLInt}(h:Gr ys){p f:Int}(hp:B5 ys p)(hf:f∈fc ys p):B5 ys f:=by
 have:=h p hp f hf;unfold B5 at *;omega
theorem Gr.same{ys:LLInt}(h:Gr ys){p q f g:Int}(hp:B5 ys p)(hq:B5 ys q)(e:(fc ys p).length=(fc ys q).length)(hf:f∈fc ys p)(hg:g∈fc ys q):(fc ys f).length=(fc ys g).length:=by
 have h1:=h p hp f hf;have h2:=h q hq g hg;have:=h1.2.2.2 g (h.rng hq hg) O9m;have:=h2.2.2.2 f (h.rng hp hf) O9m;omega
structure Hy(ys:LLInt)(fs:List Int):Prop where
 len:fs.length=ys.length
 rng:∀p,B5 ys p->0<=lb fs p/\lb fs p<=p
 fix:∀p,B5 ys p->lb fs (lb fs p)=lb fs p
 lev:∀p,B5 ys p->(fc ys (lb fs p)).length=(fc ys p).length
theorem Hy.inR{ys:LLInt}{fs:List Int}(h:Hy ys fs){p:Int}(hp:B5 ys p):B5 ys (lb fs p):=by
 have:=h.rng p hp;unfold B5 at *;omega
theorem Mi{ys:LLInt}{p:Int}(hp:B5 ys p):lb (Go ys.length) p=p:=by
 unfold lb;obtain⟨h0,h1⟩:=hp;rw[qa4,Ib (by omega:p.toNat<ys.length)];show((p.toNat:Nat):Int)=p;omega
theorem Hy.start(ys:LLInt):Hy ys (Go ys.length) where
 len:=C2 _
 rng:=fun p hp=>by rw[Mi hp];exact⟨hp.1,Int.le_refl _⟩
 fix:=fun p hp=>by rw[Mi hp,Mi hp]
 lev:=fun p hp=>by rw[Mi hp]
noncomputable def mrg(fs:List Int)(lo hi:Int):List Int:=fs.map fun x=>if x=hi then lo else x
theorem KO{fs:List Int}{lo hi p:Int}(h0:0<=p)(h1:p<(fs.length:Int)):lb (mrg fs lo hi) p=if lb fs p=hi then lo else lb fs p:=by
 unfold lb mrg;rw[qa4,qa4,qa3,qa0 (by omega)];rfl
theorem Hy.lbm{ys:LLInt}{fs:List Int}(h:Hy ys fs){lo hi p:Int}(hp:B5 ys p):lb (mrg fs lo hi) p=if lb fs p=hi then lo else lb fs p :=
 KO hp.1 (by rw[h.len];exact hp.2)
theorem Hy.mrg{ys:LLInt}{fs:List Int}(h:Hy ys fs){lo hi:Int}(hlo:B5 ys lo)(hhi:B5 ys hi)(fl:lb fs lo=lo)(fh:lb fs hi=hi)(hlt:lo<hi)(lV:(fc ys lo).length=(fc ys hi).length):Hy ys (mrg fs lo hi) where
 len:=by unfold Hb.mrg;rw[qa1];exact h.len
 rng:=fun p hp=>by
  rw[h.lbm hp];have:=h.rng p hp;have:=hlo.1;split<;>omega
 fix:=fun p hp=>by
  rw[h.lbm hp];by_cases e:lb fs p=hi
  . rw[if_pos e,h.lbm hlo,fl,if_neg (by omega)]
  . rw[if_neg e,h.lbm (h.inR hp),h.fix p hp,if_neg e]
 lev:=fun p hp=>by
  rw[h.lbm hp];have:=h.lev p hp;split
  . rename_i e;rw[e]at this;omega
  . exact this
theorem Hy.mono{ys:LLInt}{fs:List Int}(h:Hy ys fs){lo hi p q:Int}(hp:B5 ys p)(hq:B5 ys q)(e:lb fs p=lb fs q):lb (Hb.mrg fs lo hi) p=lb (Hb.mrg fs lo hi) q:=by
 rw[h.lbm hp,h.lbm hq,e]
theorem Hy.split{ys:LLInt}{fs:List Int}(h:Hy ys fs){lo hi p q:Int}(hp:B5 ys p)(hq:B5 ys q)(e:lb (Hb.mrg fs lo hi) p=lb (Hb.mrg fs lo hi) q) :
 lb fs p=lb fs q\/(lb fs p=hi/\lb fs q=lo)\/(lb fs p=lo/\lb fs q=hi):=by
 rw[h.lbm hp,h.lbm hq]at e;by_cases e1:lb fs p=hi
 . by_cases e2:lb fs q=hi
   . exact .inl (e1.trans e2.symm)
   . rw[if_pos e1,if_neg e2]at e;exact .inr (.inl ⟨e1,e.symm⟩)
 . by_cases e2:lb fs q=hi
   . rw[if_neg e1,if_pos e2]at e;exact .inr (.inr ⟨e,e2⟩)
   . rw[if_neg e1,if_neg e2]at e;exact .inl e
noncomputable def Kl(ys:LLInt)(fs:List Int)(m:Nat):Prop:=∀p q,B5 ys p->B5 ys q->(fc ys p).length<=m->lb fs p=lb fs q->∀(i:Nat) f g,(fc ys p)[i]?=some f->(fc ys q)[i]?=some g->lb fs f=lb fs g
structure cH(ys:LLInt)(T:Int->Int->Prop):Prop where
 refl:∀p,T p p
 symm:∀p q,T p q->T q p
 trans:∀p q r,T p q->T q r->T p r
 face:∀p q,T p q->B5 ys p->B5 ys q->∀(i:Nat) f g,(fc ys p)[i]?=some f->(fc ys q)[i]?=some g->T f g
noncomputable def Mm(ys:LLInt)(fs:List Int)(T:Int->Int->Prop):Prop:=∀p q,B5 ys p->B5 ys q->lb fs p=lb fs q->T p q
theorem Op{ys:LLInt}{fs:List Int}{T:Int->Int->Prop}(h:Hy ys fs)(c:cH ys T)(u:Mm ys fs T){lo hi:Int}(hlo:B5 ys lo)(hhi:B5 ys hi)(fl:lb fs lo=lo)(fh:lb fs hi=hi)(t:T lo hi):Mm ys (mrg fs lo hi) T:=fun p q hp hq e=>by
 rcases h.split hp hq e with z|⟨z1,z2⟩|⟨z1,z2⟩
 . exact u p q hp hq z
 . exact c.trans _ _ _ (u p hi hp hhi (z1.trans fh.symm)) (c.trans _ _ _ (c.symm _ _ t) (u lo q hlo hq (fl.trans z2.symm)))
 . exact c.trans _ _ _ (u p lo hp hlo (z1.trans fl.symm)) (c.trans _ _ _ t (u hi q hhi hq (fh.trans z2.symm)))
structure Ke(ys:LLInt)(fs:List Int)(k:Nat)(zs:List (Int × Int))(gs:List Int):Prop where
 lab:Hy ys gs
 mono:∀p q,B5 ys p->B5 ys q->lb fs p=lb fs q->lb gs p=lb gs q
 join:∀z∈zs,lb gs z.1=lb gs z.2
 clo:Kl ys gs k
 up:∀p q,B5 ys p->B5 ys q->k<(fc ys p).length->lb gs p=lb gs q->lb fs p=lb fs q
 snd:∀T,cH ys T->Mm ys fs T->(∀z∈zs,T z.1 z.2)->Mm ys gs T
theorem Ke.refl{ys:LLInt}{fs:List Int}{k:Nat}(h:Hy ys fs)(c:Kl ys fs k):Ke ys fs k [] fs :=
 ⟨h,fun _ _ _ _ e=>e,fun z hz=>(by cases hz),c,fun _ _ _ _ _ e=>e,fun _ _ u _=>u⟩
theorem Ke.then{ys:LLInt}{fs gs hs:List Int}{k:Nat}{z:Int × Int}{zs:List (Int × Int)}(hz:B5 ys z.1/\B5 ys z.2)(h1:Ke ys fs k [z] gs)(h2:Ke ys gs k zs hs):Ke ys fs k (z::zs) hs where
 lab:=h2.lab
 mono:=fun p q hp hq e=>h2.mono p q hp hq (h1.mono p q hp hq e)
 join:=fun y hy=>by
  rcases qb7.mp hy with e | e
  . subst e;exact h2.mono _ _ hz.1 hz.2 (h1.join _ (by simp))
  . exact h2.join y e
 clo:=h2.clo
 up:=fun p q hp hq hk e=>h1.up p q hp hq hk (h2.up p q hp hq hk e)
 snd:=fun T c u t=>h2.snd T c (h1.snd T c u fun y hy=>t y (by rw[qd1.mp hy];simp)) fun y hy=>t y (qc1 _ hy)
noncomputable def Fs:Nat->LLInt->List Int->Int->Int->List Int
 | 0,_,fs,_,_=>fs
 | d+1,ys,fs,a,b=>if lb fs a=lb fs b then fs else((fc ys a).zip (fc ys b)).foldl (fun t z=>Fs d ys t z.1 z.2) (mrg fs (min (lb fs a) (lb fs b)) (max (lb fs a) (lb fs b)))
theorem Xa{ys:LLInt}{k d:Nat}(step:∀t f g,Hy ys t->B5 ys f->B5 ys g->(fc ys f).length=k->(fc ys g).length=k->Kl ys t k->Ke ys t k [(f,g)] (Fs d ys t f g)) :
 ∀(zs:List (Int × Int)) (t:List Int),Hy ys t->Kl ys t k->(∀z∈zs,B5 ys z.1/\B5 ys z.2/\(fc ys z.1).length=k/\(fc ys z.2).length=k)->Ke ys t k zs (zs.foldl (fun t z=>Fs d ys t z.1 z.2) t)
 | [],t,h,c,_=>.refl h c
 | z::zs,t,h,c,hz=>by
   obtain⟨z1,z2,z3,z4⟩:=hz z (by simp);have h1:=step t z.1 z.2 h z1 z2 z3 z4 c;exact .then ⟨z1,z2⟩ h1 (Xa step zs _ h1.lab h1.clo fun y hy=>hz y (qc1 _ hy))
theorem Zz{α β:Type}{x:List α}{y:List β}{i:Nat}{a:α}{b:β}(ha:x[i]?=some a)(hb:y[i]?=some b):(a,b)∈x.zip y:=by
 refine qa8 (i:=i) ?_;rw[qf7];exact⟨ha,hb⟩
theorem Sc{ys:LLInt}(G:Gr ys):∀(d:Nat) (fs:List Int) (a b:Int),Hy ys fs->B5 ys a->B5 ys b->(fc ys a).length=(fc ys b).length->(fc ys a).length<d->Kl ys fs (fc ys a).length →
 Ke ys fs (fc ys a).length [(a,b)] (Fs d ys fs a b)
 | 0,_,_,_,_,_,_,_,hd,_=>absurd hd O9m
 | d+1,fs,a,b,h,ha,hb,e,hd,c=>by
   unfold Fs;by_cases hab:lb fs a=lb fs b
   . rw[if_pos hab];exact⟨h,fun _ _ _ _ e=>e,fun z hz=>by rw[qd1.mp hz];exact hab,c,fun _ _ _ _ _ e=>e,fun _ _ u _=>u⟩
   . rw[if_neg hab];obtain⟨lo,hlo⟩:∃lo,lo=min (lb fs a) (lb fs b):=⟨_,rfl⟩
     obtain⟨hi,hhi⟩:∃hi,hi=max (lb fs a) (lb fs b):=⟨_,rfl⟩
     rw[←hlo,←hhi];have Cu:(lo=lb fs a/\hi=lb fs b)\/(lo=lb fs b/\hi=lb fs a):=O9m
     have FZ:B5 ys lo:=by rcases Cu with z | z<;>rw[z.1]<;>first | exact h.inR ha | exact h.inR hb
     have d7:B5 ys hi:=by rcases Cu with z | z<;>rw[z.2]<;>first | exact h.inR ha | exact h.inR hb
     have fl:lb fs lo=lo:=by rcases Cu with z | z<;>rw[z.1]<;>first | exact h.fix a ha | exact h.fix b hb
     have fh:lb fs hi=hi:=by rcases Cu with z | z<;>rw[z.2]<;>first | exact h.fix a ha | exact h.fix b hb
     have hlt:lo<hi:=O9m
     have la:=h.lev a ha;have lb':=h.lev b hb;have lV:(fc ys lo).length=(fc ys hi).length:=by rcases Cu with z | z<;>rw[z.1,z.2]<;>omega
     have hm:=h.mrg FZ d7 fl fh hlt lV;have mm:∀p q,B5 ys p->B5 ys q->lb fs p=lb fs q->lb (mrg fs lo hi) p=lb (mrg fs lo hi) q:=fun p q hp hq z=>h.mono hp hq z
     have aE:lb (mrg fs lo hi) a=lb (mrg fs lo hi) b:=by
      rw[h.lbm ha,h.lbm hb];rcases Cu with⟨z1,z2⟩|⟨z1,z2⟩
      . rw[←z1,←z2,if_pos rfl,if_neg (by omega)]
      . rw[←z1,←z2,if_pos rfl,if_neg (by omega)]
     have tG:∀T,cH ys T->Mm ys fs T->T a b->T lo hi:=fun T cT u t=>by
      have t1:=u (lb fs a) a (h.inR ha) ha (h.fix a ha);have t2:=u b (lb fs b) hb (h.inR hb) (h.fix b hb).symm;have t3:=cT.trans _ _ _ (cT.trans _ _ _ t1 t) t2;rcases Cu with⟨z1,z2⟩|⟨z1,z2⟩
      . rw[z1,z2];exact t3
      . rw[z1,z2];exact cT.symm _ _ t3
     have GV:∀p q,B5 ys p->B5 ys q->lb (mrg fs lo hi) p=lb (mrg fs lo hi) q->lb fs p=lb fs q\/(lb fs p=lb fs a/\lb fs q=lb fs b)\/(lb fs p=lb fs b/\lb fs q=lb fs a):=fun p q hp hq z=>by
      rcases h.split hp hq z with w|⟨w1,w2⟩|⟨w1,w2⟩
      . exact .inl w
      . rcases Cu with⟨z1,z2⟩|⟨z1,z2⟩
        . exact .inr (.inr ⟨w1.trans z2,w2.trans z1⟩)
        . exact .inr (.inl ⟨w1.trans z2,w2.trans z1⟩)
      . rcases Cu with⟨z1,z2⟩|⟨z1,z2⟩
        . exact .inr (.inl ⟨w1.trans z1,w2.trans z2⟩)
        . exact .inr (.inr ⟨w1.trans z1,w2.trans z2⟩)
     have Yz:∀p q,B5 ys p->B5 ys q->lb fs p=lb fs q->(fc ys p).length=(fc ys q).length:=fun p q hp hq z=>by
      have h1:=h.lev p hp;have h2:=h.lev q hq;rw[z]at h1;omega
     have MN:∀p q,B5 ys p->B5 ys q->(fc ys p).length≠(fc ys a).length->lb (mrg fs lo hi) p=lb (mrg fs lo hi) q->lb fs p=lb fs q:=fun p q hp hq hn z=>by
      rcases GV p q hp hq z with w|⟨w,_⟩|⟨w,_⟩
      . exact w
      . exact absurd (Yz p a hp ha w) hn
      . exact absurd ((Yz p b hp hb w).trans e.symm) hn
     cases NZ:fc ys a with
     | nil =>
       have ez:((([]:List Int).zip (fc ys b)).foldl (fun t z=>Fs d ys t z.1 z.2) (mrg fs lo hi))=mrg fs lo hi:=by rw[List.zip_nil_left];rfl
       rw[ez];refine⟨hm,mm,fun z hz=>by rw[qd1.mp hz];exact aE,fun p q hp hq hl _ i f g hf _=>?_,fun p q hp hq hk z=>MN p q hp hq (by rw[NZ];exact qe7 hk) z,fun T cT u t=>Op h cT u FZ d7 fl fh (tG T cT u (t (a,b) (by simp)))⟩;have:(fc ys p)=[]:=List.eq_nil_of_length_eq_zero (by simpa using hl);rw[this]at hf;simp at hf
     | cons f0 r0 =>
       rw[←NZ];have lW:f0∈fc ys a:=by rw[NZ];simp
       have g0:=G a ha f0 lW;have XX:=G.rng ha lW;obtain⟨k,hk⟩:∃k,k=(fc ys f0).length:=⟨_,rfl⟩
       have cm:Kl ys (mrg fs lo hi) k:=fun p q hp hq hl z i f g hf hg=>by
        have hne:(fc ys p).length≠(fc ys a).length:=O9m
        have z':=MN p q hp hq hne z;have:=c p q hp hq O9m z' i f g hf hg;exact mm f g (G.rng hp (qa8 hf)) (G.rng hq (qa8 hg)) this
       have hzs:∀z∈(fc ys a).zip (fc ys b),B5 ys z.1/\B5 ys z.2/\(fc ys z.1).length=k/\(fc ys z.2).length=k:=fun z hz=>by
        have m1:=(qg2 hz).1;have m2:=(qg2 hz).2;refine⟨G.rng ha m1,G.rng hb m2,?_,?_⟩
        . rw[hk];exact G.same ha ha rfl m1 lW
        . rw[hk];exact G.same hb ha e.symm m2 lW
       have J:=Xa (d:=d) (k:=k) (fun t f g ht hf hg ef eg ct=>by
        have:=Sc G d t f g ht hf hg O9m O9m (by rw[ef];exact ct);rw[ef]at this;exact this) _ _ hm cm hzs
       refine⟨J.lab,fun p q hp hq z=>J.mono p q hp hq (mm p q hp hq z),fun z hz=>?_,fun p q hp hq hl z i f g hf hg=>?_,fun p q hp hq hk' z=>MN p q hp hq O9m (J.up p q hp hq O9m z),fun T cT u t=>?_⟩
       . rw[qd1.mp hz];exact J.mono a b ha hb aE
       . by_cases hlt':(fc ys p).length<(fc ys a).length
         . have:=g0.2.2.2 p hp hlt';exact J.clo p q hp hq O9m z i f g hf hg
         . have ep:(fc ys p).length=(fc ys a).length:=O9m
           have z':=J.up p q hp hq O9m z;have rf:=G.rng hp (qa8 hf);have rg:=G.rng hq (qa8 hg);have il:i<(fc ys p).length:=(qa2.mp hf).1;have ha':(fc ys a)[i]?=some ((fc ys a)[i]'(O9m)):=qa0 O9m;have hb':(fc ys b)[i]?=some ((fc ys b)[i]'(O9m)):=qa0 O9m;have ra:=G.rng ha (qa8 ha');have rb:=G.rng hb (qa8 hb');have mO:∀x y,B5 ys x->B5 ys y->lb fs x=lb fs y->lb (((fc ys a).zip (fc ys b)).foldl (fun t z=>Fs d ys t z.1 z.2) (mrg fs lo hi)) x=lb (((fc ys a).zip (fc ys b)).foldl (fun t z=>Fs d ys t z.1 z.2) (mrg fs lo hi)) y:=fun x y hx hy w=>J.mono x y hx hy (mm x y hx hy w);have nU:=J.join _ (Zz ha' hb');rcases GV p q hp hq z' with w|⟨w1,w2⟩|⟨w1,w2⟩
           . exact mO f g rf rg (c p q hp hq O9m w i f g hf hg)
           . have s1:=mO _ _ rf ra (c p a hp ha O9m w1 i _ _ hf ha');have s2:=mO _ _ rb rg (c b q hb hq O9m w2.symm i _ _ hb' hg);exact s1.trans (nU.trans s2)
           . have s1:=mO _ _ rf rb (c p b hp hb O9m w1 i _ _ hf hb');have s2:=mO _ _ ra rg (c a q ha hq O9m w2.symm i _ _ ha' hg);exact s1.trans (nU.symm.trans s2)
       . have tab:=t (a,b) (by simp);refine J.snd T cT (Op h cT u FZ d7 fl fh (tG T cT u tab)) fun z hz=>?_;obtain⟨i,hi'⟩:=qc6 hz;rw[qf7]at hi';exact cT.face a b tab ha hb i _ _ hi'.1 hi'.2
noncomputable def T9(ys:LLInt)(ps:List (Int × Int))(p q:Int):Prop:=∀T,cH ys T->(∀z∈ps,T z.1 z.2)->T p q
theorem T9.cong(ys:LLInt)(ps:List (Int × Int)):cH ys (T9 ys ps) where
 refl:=fun p T c _=>c.refl p
 symm:=fun p q h T c t=>c.symm _ _ (h T c t)
 trans:=fun p q r h1 h2 T c t=>c.trans _ _ _ (h1 T c t) (h2 T c t)
 face:=fun p q h hp hq i f g hf hg T c t=>c.face p q (h T c t) hp hq i f g hf hg
theorem T9.base{ys:LLInt}{ps:List (Int × Int)}{z:Int × Int}(h:z∈ps):T9 ys ps z.1 z.2:=fun T _ t=>t z h
noncomputable def Vw(ys:LLInt)(fs:List Int)(p q:Int):Prop:=p=q\/(B5 ys p/\B5 ys q/\lb fs p=lb fs q)
theorem Vw.cong{ys:LLInt}(G:Gr ys){fs:List Int}(c:∀p q,B5 ys p->B5 ys q->lb fs p=lb fs q->∀(i:Nat) f g,(fc ys p)[i]?=some f->(fc ys q)[i]?=some g->lb fs f=lb fs g):cH ys (Vw ys fs) where
 refl:=fun p=>.inl rfl
 symm:=fun p q h=>h.elim (fun e=>.inl e.symm) fun⟨a,b,e⟩=>.inr ⟨b,a,e.symm⟩
 trans:=fun p q r h1 h2=>by
  rcases h1 with rfl|⟨a,b,e⟩
  . exact h2
  . rcases h2 with rfl|⟨a',b',e'⟩
    . exact .inr ⟨a,b,e⟩
    . exact .inr ⟨a,b',e.trans e'⟩
 face:=fun p q h hp hq i f g hf hg=>by
  rcases h with rfl|⟨a,b,e⟩
  . rw[hf]at hg;exact .inl (qb6 hg)
  . exact .inr ⟨G.rng a (qa8 hf),G.rng b (qa8 hg),c p q a b e i f g hf hg⟩
noncomputable def Hw(ys:LLInt)(ps:List (Int × Int))(fs:List Int):Prop:=∀p q,B5 ys p->B5 ys q->(lb fs p=lb fs q↔T9 ys ps p q)
theorem X4{ys:LLInt}(G:Gr ys){ps:List (Int × Int)}{fs:List Int}(hps:∀z∈ps,B5 ys z.1/\B5 ys z.2)(c:∀p q,B5 ys p->B5 ys q->lb fs p=lb fs q->∀(i:Nat) f g,(fc ys p)[i]?=some f->(fc ys q)[i]?=some g->lb fs f=lb fs g)
 (hj:∀z∈ps,lb fs z.1=lb fs z.2) (u:Mm ys fs (T9 ys ps)):Hw ys ps fs:=fun p q hp hq=>by
 refine⟨u p q hp hq,fun h=>?_⟩;rcases h (Vw ys fs) (Vw.cong G c) fun z hz=>.inr ⟨(hps z hz).1,(hps z hz).2,hj z hz⟩ with e|⟨_,_,e⟩
 . rw[e]
 . exact e
structure Ln(ys:LLInt)(all ps:List (Int × Int))(fs:List Int):Prop where
 lab:Hy ys fs
 clo:Kl ys fs 4
 join:∀z∈ps,lb fs z.1=lb fs z.2
 snd:Mm ys fs (T9 ys all)
theorem Ln.start{ys:LLInt}{all:List (Int × Int)}:Ln ys all [] (Go ys.length) where
 lab:=Hy.start ys
 clo:=fun p q hp hq _ e i f g hf hg=>by
  rw[Mi hp,Mi hq]at e;subst e;rw[hf]at hg;rw[qb6 hg]
 join:=fun z hz=>by cases hz
 snd:=fun p q hp hq e=>by
  rw[Mi hp,Mi hq]at e;subst e;exact(T9.cong ys all).refl p
theorem Ln.step{ys:LLInt}(G:Gr ys)(h4:∀p,B5 ys p->(fc ys p).length<=4){all ps:List (Int × Int)}{fs:List Int}{a b:Int}(h:Ln ys all ps fs)(ha:B5 ys a)(hb:B5 ys b)(e:(fc ys a).length=(fc ys b).length)(hm:(a,b)∈all)
 (hps:∀z∈ps,B5 ys z.1/\B5 ys z.2):Ln ys all (ps++[(a,b)]) (Fs 5 ys fs a b):=by
 have l4:=h4 a ha;have J:=Sc G 5 fs a b h.lab ha hb e O9m fun p q hp hq hl z=>h.clo p q hp hq O9m z;refine⟨J.lab,fun p q hp hq hl z i f g hf hg=>?_,fun z hz=>?_,J.snd _ (T9.cong ys all) h.snd fun z hz=>by rw[qd1.mp hz];exact T9.base hm⟩
 . by_cases hk:(fc ys p).length<=(fc ys a).length
   . exact J.clo p q hp hq hk z i f g hf hg
   . exact J.mono f g (G.rng hp (qa8 hf)) (G.rng hq (qa8 hg)) (h.clo p q hp hq hl (J.up p q hp hq O9m z) i f g hf hg)
 . rcases qd5.mp hz with w | w
   . exact J.mono _ _ (hps z w).1 (hps z w).2 (h.join z w)
   . exact J.join z w
theorem Ln.tells{ys:LLInt}(G:Gr ys)(h4:∀p,B5 ys p->(fc ys p).length<=4){ps:List (Int × Int)}{fs:List Int}(h:Ln ys ps ps fs)(hps:∀z∈ps,B5 ys z.1/\B5 ys z.2):Hw ys ps fs :=
 X4 G hps (fun p q hp hq z=>h.clo p q hp hq (h4 p hp) z) h.join h.snd
structure lT(T:Int->Int->Prop):Prop where
 refl:∀p,T p p
 symm:∀p q,T p q->T q p
 trans:∀p q r,T p q->T q r->T p r
noncomputable def Ec(ys:LLInt)(fs:List Int)(ws:List (Int × Int))(p q:Int):Prop:=∀T,lT T->Mm ys fs T->(∀z∈ws,T z.1 z.2)->T p q
theorem Ec.equi(ys:LLInt)(fs:List Int)(ws:List (Int × Int)):lT (Ec ys fs ws) where
 refl:=fun p T c _ _=>c.refl p
 symm:=fun p q h T c u t=>c.symm _ _ (h T c u t)
 trans:=fun p q r h1 h2 T c u t=>c.trans _ _ _ (h1 T c u t) (h2 T c u t)
structure Dj(ys:LLInt)(ps:List (Int × Int))(fs:List Int)(ws:List (Int × Int)):Prop where
 lab:Hy ys fs
 wrng:∀z∈ws,B5 ys z.1/\B5 ys z.2/\(fc ys z.1).length=(fc ys z.2).length
 wglu:∀z∈ws,T9 ys ps z.1 z.2
 snd:Mm ys fs (T9 ys ps)
 bas:∀z∈ps,Ec ys fs ws z.1 z.2
 fac:∀p q,B5 ys p->B5 ys q->lb fs p=lb fs q->∀(i:Nat) f g,(fc ys p)[i]?=some f->(fc ys q)[i]?=some g->Ec ys fs ws f g
theorem Dj.start{ys:LLInt}{ps:List (Int × Int)}(hps:∀z∈ps,B5 ys z.1/\B5 ys z.2/\(fc ys z.1).length=(fc ys z.2).length):Dj ys ps (Go ys.length) ps where
 lab:=Hy.start ys
 wrng:=hps
 wglu:=fun z hz=>T9.base hz
 snd:=(Ln.start (all:=ps)).snd
 bas:=fun z hz T _ _ t=>t z hz
 fac:=fun p q hp hq e i f g hf hg=>by
  rw[Mi hp,Mi hq]at e;subst e;rw[hf]at hg;rw[qb6 hg];exact(Ec.equi ..).refl _
theorem Dj.skip{ys:LLInt}{ps ws:List (Int × Int)}{fs:List Int}{a b:Int}(h:Dj ys ps fs (ws++[(a,b)]))(e:lb fs a=lb fs b):Dj ys ps fs ws:=by
 have hz:=h.wrng (a,b) (by simp)
 have le:∀p q,Ec ys fs (ws++[(a,b)]) p q->Ec ys fs ws p q:=fun p q x T c u t=>x T c u fun z hz'=>by
  rcases qd5.mp hz' with w | w
  . exact t z w
  . rw[qd1.mp w];exact u a b hz.1 hz.2.1 e
 exact⟨h.lab,fun z hz=>h.wrng z (by simp[hz]),fun z hz=>h.wglu z (by simp[hz]),h.snd,fun z hz=>le _ _ (h.bas z hz),fun p q hp hq z i f g hf hg=>le _ _ (h.fac p q hp hq z i f g hf hg)⟩
theorem Dj.merge{ys:LLInt}(G:Gr ys){ps ws:List (Int × Int)}{fs:List Int}{a b:Int}(h:Dj ys ps fs (ws++[(a,b)]))(hne:¬lb fs a=lb fs b) :
 Dj ys ps (mrg fs (min (lb fs a) (lb fs b)) (max (lb fs a) (lb fs b))) (ws++(fc ys (lb fs a)).zip (fc ys (lb fs b))):=by
 have ha:B5 ys a:=(h.wrng (a,b) (by simp)).1;have hb:B5 ys b:=(h.wrng (a,b) (by simp)).2.1;have e:(fc ys a).length=(fc ys b).length:=(h.wrng (a,b) (by simp)).2.2;have hab:T9 ys ps a b:=h.wglu (a,b) (by simp);obtain⟨lo,hlo⟩:∃lo,lo=min (lb fs a) (lb fs b):=⟨_,rfl⟩
 obtain⟨hi,hhi⟩:∃hi,hi=max (lb fs a) (lb fs b):=⟨_,rfl⟩
 rw[←hlo,←hhi];have L:=h.lab;have Cu:(lo=lb fs a/\hi=lb fs b)\/(lo=lb fs b/\hi=lb fs a):=O9m
 have ra:=L.inR ha;have rb:=L.inR hb;have fa:=L.fix a ha;have fb:=L.fix b hb;have la:=L.lev a ha;have lb':=L.lev b hb;have e':(fc ys a).length=(fc ys b).length:=e;have FZ:B5 ys lo:=by rcases Cu with z | z<;>rw[z.1]<;>first | exact ra | exact rb
 have d7:B5 ys hi:=by rcases Cu with z | z<;>rw[z.2]<;>first | exact ra | exact rb
 have fl:lb fs lo=lo:=by rcases Cu with z | z<;>rw[z.1]<;>first | exact fa | exact fb
 have fh:lb fs hi=hi:=by rcases Cu with z | z<;>rw[z.2]<;>first | exact fa | exact fb
 have hlt:lo<hi:=O9m
 have lV:(fc ys lo).length=(fc ys hi).length:=by rcases Cu with z | z<;>rw[z.1,z.2]<;>omega
 have gc:=T9.cong ys ps;have SK:T9 ys ps (lb fs a) (lb fs b):=gc.trans _ _ _ (h.snd _ _ ra ha fa) (gc.trans _ _ _ hab (h.snd _ _ hb rb fb.symm))
 have XH:T9 ys ps lo hi:=by
  rcases Cu with⟨z1,z2⟩|⟨z1,z2⟩
  . rw[z1,z2];exact SK
  . rw[z1,z2];exact gc.symm _ _ SK
 have aE:lb (mrg fs lo hi) a=lb (mrg fs lo hi) b:=by
  rw[L.lbm ha,L.lbm hb];rcases Cu with⟨z1,z2⟩|⟨z1,z2⟩
  . rw[←z1,←z2,if_pos rfl,if_neg (by omega)]
  . rw[←z1,←z2,if_pos rfl,if_neg (by omega)]
 have le:∀p q,Ec ys fs (ws++[(a,b)]) p q->Ec ys (mrg fs lo hi) (ws++(fc ys (lb fs a)).zip (fc ys (lb fs b))) p q:=fun p q x T c u t=>x T c (fun p q hp hq z=>u p q hp hq (L.mono hp hq z)) fun z hz'=>by
  rcases qd5.mp hz' with w | w
  . exact t z (by simp[w])
  . rw[qd1.mp w];exact u a b ha hb aE
 have eq:=Ec.equi ys (mrg fs lo hi) (ws++(fc ys (lb fs a)).zip (fc ys (lb fs b)));refine⟨L.mrg FZ d7 fl fh hlt lV,fun z hz=>?_,fun z hz=>?_,Op L gc h.snd FZ d7 fl fh XH,fun z hz=>le _ _ (h.bas z hz),fun p q hp hq z i f g hf hg=>?_⟩
 . rcases qd5.mp hz with w | w
   . exact h.wrng z (by simp[w])
   . have m1:=(qg2 w).1;have m2:=(qg2 w).2;exact⟨G.rng ra m1,G.rng rb m2,G.same ra rb O9m m1 m2⟩
 . rcases qd5.mp hz with w | w
   . exact h.wglu z (by simp[w])
   . obtain⟨i,hi'⟩:=qc6 w;rw[qf7]at hi';exact gc.face _ _ SK ra rb i _ _ hi'.1 hi'.2
 . have Yz:∀p q,B5 ys p->B5 ys q->lb fs p=lb fs q->(fc ys p).length=(fc ys q).length:=fun p q hp hq z=>by
    have h1:=L.lev p hp;have h2:=L.lev q hq;rw[z]at h1;omega
   have il:i<(fc ys p).length:=(qa2.mp hf).1
   have key:(lb fs p=lb fs a/\lb fs q=lb fs b)\/(lb fs p=lb fs b/\lb fs q=lb fs a)->Ec ys (mrg fs lo hi) (ws++(fc ys (lb fs a)).zip (fc ys (lb fs b))) f g:=fun w=>by
    have pl:(fc ys p).length=(fc ys a).length:=by
     rcases w with⟨w1,_⟩|⟨w1,_⟩
     . exact Yz p a hp ha w1
     . rw[Yz p b hp hb w1];exact e'.symm
    have ha':(fc ys (lb fs a))[i]?=some ((fc ys (lb fs a))[i]'(O9m)):=qa0 O9m;have hb':(fc ys (lb fs b))[i]?=some ((fc ys (lb fs b))[i]'(O9m)):=qa0 O9m;have nU:Ec ys (mrg fs lo hi) (ws++(fc ys (lb fs a)).zip (fc ys (lb fs b))) ((fc ys (lb fs a))[i]'(O9m)) ((fc ys (lb fs b))[i]'(O9m)):=fun T c u t=>t (_,_) (qd5.mpr (.inr (Zz ha' hb')));rcases w with⟨w1,w2⟩|⟨w1,w2⟩
    . exact eq.trans _ _ _ (le _ _ (h.fac p (lb fs a) hp ra (w1.trans fa.symm) i _ _ hf ha')) (eq.trans _ _ _ nU (le _ _ (h.fac (lb fs b) q rb hq (fb.trans w2.symm) i _ _ hb' hg)))
    . exact eq.trans _ _ _ (le _ _ (h.fac p (lb fs b) hp rb (w1.trans fb.symm) i _ _ hf hb')) (eq.trans _ _ _ (eq.symm _ _ nU) (le _ _ (h.fac (lb fs a) q ra hq (fa.trans w2.symm) i _ _ ha' hg)))
   rcases L.split hp hq z with w|⟨w1,w2⟩|⟨w1,w2⟩
   . exact le _ _ (h.fac p q hp hq w i f g hf hg)
   . rcases Cu with⟨z1,z2⟩|⟨z1,z2⟩
     . exact key (.inr ⟨w1.trans z2,w2.trans z1⟩)
     . exact key (.inl ⟨w1.trans z2,w2.trans z1⟩)
   . rcases Cu with⟨z1,z2⟩|⟨z1,z2⟩
     . exact key (.inl ⟨w1.trans z1,w2.trans z2⟩)
     . exact key (.inr ⟨w1.trans z1,w2.trans z2⟩)
theorem Dj.done{ys:LLInt}(G:Gr ys){ps:List (Int × Int)}{fs:List Int}(h:Dj ys ps fs [])(hps:∀z∈ps,B5 ys z.1/\B5 ys z.2):Hw ys ps fs:=by
 have E:lT (Vw ys fs):=⟨fun p=>.inl rfl,fun p q x=>x.elim (fun e=>.inl e.symm) fun⟨a,b,e⟩=>.inr ⟨b,a,e.symm⟩,fun p q r h1 h2=>by
  rcases h1 with rfl|⟨a,b,e⟩
  . exact h2
  . rcases h2 with rfl|⟨a',b',e'⟩
    . exact .inr ⟨a,b,e⟩
    . exact .inr ⟨a,b',e.trans e'⟩⟩
 have out:∀p q,Ec ys fs [] p q->lb fs p=lb fs q:=fun p q x=>by
  rcases x (Vw ys fs) E (fun p q hp hq z=>.inr ⟨hp,hq,z⟩) (fun z hz=>by cases hz) with e|⟨_,_,e⟩
  . rw[e]
  . exact e
 exact X4 G hps (fun p q hp hq z i f g hf hg=>out f g (h.fac p q hp hq z i f g hf hg)) (fun z hz=>out _ _ (h.bas z hz)) h.snd
noncomputable def K7(fs:List Int):Nat:=(List.range fs.length).countP fun i=>decide (fs.getD i 0=(i:Int))
theorem S0{f g:Nat->Bool}:∀(l:List Nat),(∀i∈l,g i=true->f i=true)->(∃i∈l,f i=true/\g i=false)->l.countP g<l.countP f
 | [],_,⟨_,h,_⟩=>by cases h
 | x::l,h,⟨i,hi,h1,h2⟩=>by
   rw[qo1,qo1];have mono:l.countP g<=l.countP f:=List.countP_mono_left fun i hi z=>h i (qc1 _ hi) z;rcases qb7.mp hi with e | e
   . subst e;rw[h1,h2];simp;omega
   . have:=S0 l (fun i hi=>h i (qc1 _ hi)) ⟨i,e,h1,h2⟩;have hx:=h x (by simp);cases hg:g x with
     | false=>simp;split<;>omega
     | true=>rw[hx hg];simp;omega
theorem U3{ys:LLInt}{fs:List Int}(L:Hy ys fs){lo hi:Int}(FZ:B5 ys lo)(d7:B5 ys hi)(fh:lb fs hi=hi)(hlt:lo<hi):K7 (mrg fs lo hi)<K7 fs:=by
 unfold K7;have el:(mrg fs lo hi).length=fs.length:=by unfold mrg;exact qa1 ..
 rw[el];have hl:=L.len
 have at_:∀i,i<fs.length->(mrg fs lo hi).getD i 0=if fs.getD i 0=hi then lo else fs.getD i 0:=fun i hi'=>by
  have:=L.lbm (lo:=lo) (hi:=hi) (p:=(i:Int)) ⟨O9m,O9m⟩;unfold lb at this
  rwa [qb9]at this
 refine S0 _ (fun i hi' z=>?_) ⟨hi.toNat,qd7.mpr (by have:=d7.2;have:=d7.1;omega),?_,?_⟩
 . have hi2:=qd7.mp hi';rw[at_ i hi2]at z;have z':=qe4 z;split at z'
   . rename_i e
     have h1:=L.rng (i:Int) ⟨O9m,O9m⟩;unfold lb at h1;rw[qb9,e]at h1;omega
   . exact qe9 z'
 . unfold lb at fh;refine qe9 ?_;rw[fh];have:=d7.1;omega
 . rw[at_ _ (by have:=d7.2;have:=d7.1;omega)];unfold lb at fh;rw[fh,if_pos rfl];refine qe5 ?_;have:=d7.1;omega
theorem Qb(p:Int):∀{x:List Int},p∈x->(Bx x).findIdx? (fun e=>eqD e (.int p))=some (x.findIdx (·==p))
 | [],h=>by cases h
 | a::r,h=>by
   have en:Bx (a::r)=.int a::Bx r:=rfl;rw[en,List.findIdx?_cons,List.findIdx_cons];by_cases e:a=p
   . subst e;simp[eqD]
   . have h':p∈r:=(qb7.mp h).resolve_left fun z=>e z.symm;have e1:eqD (.int a) (.int p)=false:=by simp[eqD,e]
     have e2:(a==p)=false:=by simp[e]
     rw[e1,e2,Qb p h'];simp
theorem M6{ms:List Int}{j:Nat}{x:V}(hx:(ms.map V.int)[j]?=some x):∃h:j<ms.length,x=.int ms[j]:=by
 have hj:j<ms.length:=by have:=(qa2.mp hx).1;simpa using this
 refine⟨hj,?_⟩;rw[qa3,qa0 hj]at hx;simpa using hx.symm
section
variable(K:W.Frag)
end
end Hb
namespace L2
open PySem PySem.Spec PyProof.Rows
theorem EO{K:W.Frag}{a b:Addr}{xs ys:List V}{n:Nat}{g:TG}{tb:TS}{D:Ends}{σ:St}{H:Hp}(hn:xs.length=n/\ys.length=n)(Pv:Nat->St->Hp->Prop)(h0:Pv 0 σ H)(hl:∀i σ H,i<=n->Pv i σ H->Dv K H a xs/\Dv K H b ys)
 (hs:∀i x y σ H p,xs[i]?=some x->ys[i]?=some y->Pv i σ H->H p=none->g (.ref p) σ (upd H p (.tup [x,y])) fun σ2 H2=>tb { D with nx:=Pv (i+1),ct:=Pv (i+1),bk:=D.nx } σ2 H2) (hd:∀σ H,Pv n σ H->D.nx σ H) :
 ∃W:Nat->Nat->St->Hp->Prop,(∃m,W 0 m σ H)/\∀i m σ H,W i m σ H →
   ((Ityp K a b).stop i H/\D.nx σ H)\/((Ityp K a b).go i H/\∃N:St->Hp->Prop,(∀σ' H',N σ' H'->∃m',m'<m/\W (i+1) m' σ' H')/\∀x H',(Ityp K a b).yld i H x H'->g x σ H' fun σ2 H2=>tb { D with nx:=N,ct:=N,bk:=D.nx } σ2 H2):=by
 refine⟨fun i m σ H=>m=n-i/\i<=n/\Pv i σ H,⟨n,by simp,qb3 _,h0⟩,?_⟩;rintro i m σ H ⟨rfl,hi,pp⟩;obtain⟨qa,qb⟩:=hl i σ H hi pp;by_cases hlt:i<n
 . refine .inr ⟨⟨xs,ys,xs[i],ys[i],qa,qb,by simp<;>omega,by simp<;>omega⟩,Pv (i+1),fun σ' H' p'=>⟨n-(i+1),O9m,rfl,hlt,p'⟩,fun x H' y=>?_⟩;obtain⟨p,u,v,hp,rfl,rfl,y1,y2⟩:=y;exact hs i u v σ _ p (y1 xs qa) (y2 ys qb) pp hp
 . have e:i=n:=O9m
   subst e;exact .inl ⟨⟨xs,ys,qa,qb,O9m⟩,hd σ H pp⟩
end L2
namespace Hb
open L2 PySem
theorem Xb{ys:LLInt}{p:Int}(hp:B5 ys p):ys[p.toNat]?=some (fc ys p):=by
 obtain⟨h0,h1⟩:=hp;unfold fc;rw[qa4,qa0 (by omega)];rfl
theorem Y7{ys:LLInt}(h:Br ys):Gr ys:=fun p hp f hf=>by
 have cnt:∀q,B5 ys q->(fc ys q).length=0\/(fc ys q).length=2\/(fc ys q).length=3\/(fc ys q).length=4:=fun q hq=>(h _ _ (Xb hq)).cnt;have F:=h _ _ (Xb hp);have f0:=F.low f hf;obtain⟨q,hq,hl⟩:=F.bel f hf;have hlt:=(qa2.mp hq).1;rw[qb5]at hlt;have p0:=hp.1;have rf:B5 ys f:=⟨f0,by have:=hp.2;omega⟩
 have eq:fc ys f=q:=by
  have h1:ys[f.toNat]?=some q:=by
   rw[qq4]at hq;split at hq
   . exact hq
   . cases hq
  rw[Xb rf]at h1;exact qb6 h1
 unfold lev at hl;rw[←eq]at hl;have hpos:0<(fc ys p).length:=List.length_pos_of_mem hf;have c1:=cnt f rf;have c2:=cnt p hp;refine⟨f0,O9m,O9m,fun r hr hrl=>?_⟩;have c3:=cnt r hr;omega
theorem lE{ys:LLInt}(h:∀y∈ys,y.length<=4)(p:Int)(hp:B5 ys p):(fc ys p).length<=4:=h _ (qa8 (Xb hp))
theorem DY{ys:LLInt}(G:Gr ys){d:Nat}{fs:List Int}{a b:Int}(h:Hy ys fs)(ha:B5 ys a)(hb:B5 ys b)(e:(fc ys a).length=(fc ys b).length)(hd:(fc ys a).length<d+1)(c:Kl ys fs (fc ys a).length)(hab:¬lb fs a=lb fs b){m:Nat}{z:Int × Int}
 (hz:((fc ys a).zip (fc ys b))[m]?=some z) :
 Hy ys ((((fc ys a).zip (fc ys b)).take m).foldl (fun t z=>Fs d ys t z.1 z.2) (mrg fs (min (lb fs a) (lb fs b)) (max (lb fs a) (lb fs b)))) ∧
 Kl ys ((((fc ys a).zip (fc ys b)).take m).foldl (fun t z=>Fs d ys t z.1 z.2) (mrg fs (min (lb fs a) (lb fs b)) (max (lb fs a) (lb fs b)))) (fc ys z.1).length/\B5 ys z.1/\B5 ys z.2/\(fc ys z.1).length=(fc ys z.2).length/\(fc ys z.1).length<d:=by
 obtain⟨lo,hlo⟩:∃lo,lo=min (lb fs a) (lb fs b):=⟨_,rfl⟩
 obtain⟨hi,hhi⟩:∃hi,hi=max (lb fs a) (lb fs b):=⟨_,rfl⟩
 rw[←hlo,←hhi];have Cu:(lo=lb fs a/\hi=lb fs b)\/(lo=lb fs b/\hi=lb fs a):=O9m
 have FZ:B5 ys lo:=by rcases Cu with z | z<;>rw[z.1]<;>first | exact h.inR ha | exact h.inR hb
 have d7:B5 ys hi:=by rcases Cu with z | z<;>rw[z.2]<;>first | exact h.inR ha | exact h.inR hb
 have fl:lb fs lo=lo:=by rcases Cu with z | z<;>rw[z.1]<;>first | exact h.fix a ha | exact h.fix b hb
 have fh:lb fs hi=hi:=by rcases Cu with z | z<;>rw[z.2]<;>first | exact h.fix a ha | exact h.fix b hb
 have hlt:lo<hi:=O9m
 have la:=h.lev a ha;have lb':=h.lev b hb;have lV:(fc ys lo).length=(fc ys hi).length:=by rcases Cu with z | z<;>rw[z.1,z.2]<;>omega
 have hm:=h.mrg FZ d7 fl fh hlt lV
 have GV:∀p q,B5 ys p->B5 ys q->lb (mrg fs lo hi) p=lb (mrg fs lo hi) q->lb fs p=lb fs q\/lb fs p=lb fs a\/lb fs p=lb fs b:=fun p q hp hq z=>by
  rcases h.split hp hq z with w|⟨w1,w2⟩|⟨w1,w2⟩
  . exact .inl w
  . rcases Cu with⟨z1,z2⟩|⟨z1,z2⟩
    . exact .inr (.inr (w1.trans z2))
    . exact .inr (.inl (w1.trans z2))
  . rcases Cu with⟨z1,z2⟩|⟨z1,z2⟩
    . exact .inr (.inl (w1.trans z1))
    . exact .inr (.inr (w1.trans z1))
 have Yz:∀p q,B5 ys p->B5 ys q->lb fs p=lb fs q->(fc ys p).length=(fc ys q).length:=fun p q hp hq z=>by
  have h1:=h.lev p hp;have h2:=h.lev q hq;rw[z]at h1;omega
 have MN:∀p q,B5 ys p->B5 ys q->(fc ys p).length≠(fc ys a).length->lb (mrg fs lo hi) p=lb (mrg fs lo hi) q->lb fs p=lb fs q:=fun p q hp hq hn z=>by
  rcases GV p q hp hq z with w | w | w
  . exact w
  . exact absurd (Yz p a hp ha w) hn
  . exact absurd ((Yz p b hp hb w).trans e.symm) hn
 have uB:=qa8 hz;have m1:=(qg2 uB).1;have m2:=(qg2 uB).2;have g0:=G a ha z.1 m1
 have cm:Kl ys (mrg fs lo hi) (fc ys z.1).length:=fun p q hp hq hl w i f g hf hg=>by
  have hne:(fc ys p).length≠(fc ys a).length:=O9m
  have:=c p q hp hq O9m (MN p q hp hq hne w) i f g hf hg;exact h.mono (G.rng hp (qa8 hf)) (G.rng hq (qa8 hg)) this
 have J:=Xa (d:=d) (k:=(fc ys z.1).length) (fun t f g ht hf hg ef eg ct=>by
  have:=Sc G d t f g ht hf hg O9m O9m (by rw[ef];exact ct);rw[ef]at this
  exact this) (((fc ys a).zip (fc ys b)).take m) _ hm cm fun y hy=>by
   have hy':=qf3 hy;have n1:=(qg2 hy').1;have n2:=(qg2 hy').2;exact⟨G.rng ha n1,G.rng hb n2,G.same ha ha rfl n1 m1,G.same hb ha e.symm n2 m1⟩
 exact⟨J.lab,J.clo,G.rng ha m1,G.rng hb m2,G.same ha hb e m1 m2,O9m⟩
noncomputable def pr(z:Int × Int):List Int:=[z.1,z.2]
noncomputable def Bo(fs:List Int):List Int:=(Go fs.length).filter fun p=>decide (lb fs p=p)
noncomputable def Gi(fs:List Int):List Int:=fs.map (Gg (Bo fs))
noncomputable def Kk(ys:LLInt)(fs:List Int):LLInt:=(Bo fs).map fun p=>(fc ys p).map (lb (Gi fs))
theorem Y0{fs:List Int}{i:Nat}(hi:i<fs.length):lb fs (i:Int)=fs[i]:=by
 unfold lb;rw[qb9,qa4,qa0 hi];rfl
noncomputable def Nf(fs:List Int)(n:Nat):List Int:=(Go n).filter fun p=>decide (lb fs p=p)
theorem Vg(fs:List Int)(n:Nat):Nf fs (n+1)=Nf fs n++(if lb fs (n:Int)=(n:Int) then [(n:Int)] else []):=by
 unfold Nf;rw[G6,qi3];by_cases e:lb fs (n:Int)=(n:Int)
 . rw[if_pos e,qg7 (by simpa using e),qf5]
 . rw[if_neg e,qg3 (by simpa using e),qf5]
theorem Jj(fs:List Int)(n:Nat):(Nf fs n).length<=n:=qe1 (qi1 ..) (by rw[C2];exact qa9 _)
theorem R7{fs:List Int}{n:Nat}{p:Int}:p∈Nf fs n↔(0<=p/\p<(n:Int))/\lb fs p=p:=by
 unfold Nf;rw[qj0,Qx,qh5]
theorem Od{ys:LLInt}{fs:List Int}(h:Hy ys fs){p:Int}(hp:B5 ys p):lb fs p∈Bo fs:=by
 have h1:=h.inR hp;have:lb fs p∈Nf fs fs.length:=R7.mpr ⟨⟨h1.1,by rw[h.len];exact h1.2⟩,h.fix p hp⟩;exact this
theorem Oi(fs:List Int):(Gi fs).length=fs.length:=qa1 ..
theorem Lu{ys:LLInt}{fs:List Int}(h:Hy ys fs){p:Int}(hp:B5 ys p):lb (Gi fs) p=Gg (Bo fs) (lb fs p):=by
 unfold Gi;have h1:=hp.1;have h2:=hp.2;have h3:=h.len;unfold lb;rw[qa4,qa3,qa0 (by omega),qa4,qa0 (by omega)];rfl
theorem GA{ks:List Int}{x y:Int}(hx:x∈ks)(hy:y∈ks)(e:Gg ks x=Gg ks y):x=y:=by
 have h1:=(Gf hx).1;have h2:=(Gf hy).1;rw[←h1,←h2,e]
theorem HQ{ys:LLInt}(G:Gr ys)(h4:∀p,B5 ys p->(fc ys p).length<=4){fs:List Int}(h:Hy ys fs)(c:Kl ys fs 4):∀i,i<ys.length->(Kk ys fs).getD ((Gi fs).getD i 0).toNat []=(ys.getD i []).map fun f=>(Gi fs).getD f.toNat 0:=fun i hi=>by
 have hp:B5 ys (i:Int):=⟨O9m,O9m⟩
 have e1:(Gi fs).getD i 0=Gg (Bo fs) (lb fs (i:Int)):=by
  have:=Lu h hp;unfold lb at this
  rwa [qb9]at this
 have hm:=Od h hp;obtain⟨a1,a2,a3⟩:=Gf hm;rw[e1];unfold Kk;rw[qa4,qa3,qa0 (by omega)]
 have e2:(Bo fs)[(Gg (Bo fs) (lb fs (i:Int))).toNat]'(O9m)=lb fs (i:Int):=by
  unfold Dc at a1;rw[qa4,qa0 (by omega)]at a1;exact a1
 show(fc ys ((Bo fs)[(Gg (Bo fs) (lb fs (i:Int))).toNat]'(O9m))).map (lb (Gi fs))=_;rw[e2];have e3:ys.getD i []=fc ys (i:Int):=by unfold fc;rw[qb9]
 rw[e3];have hl:=h.lev _ hp;have rl:=h.inR hp;refine qk7 fun j=>?_;rw[qa3,qa3];by_cases hj:j<(fc ys (i:Int)).length
 . have hj2:j<(fc ys (lb fs (i:Int))).length:=O9m
   have g1:(fc ys (lb fs (i:Int)))[j]?=some (fc ys (lb fs (i:Int)))[j]:=qa0 hj2;have g2:(fc ys (i:Int))[j]?=some (fc ys (i:Int))[j]:=qa0 hj;rw[g1,g2];have r1:=G.rng rl (qa8 g1);have r2:=G.rng hp (qa8 g2);have:=c _ _ rl hp (h4 _ rl) (h.fix _ hp) j _ _ g1 g2;show some (lb (Gi fs) _)=some (lb (Gi fs) _);rw[Lu h r1,Lu h r2,this]
 . rw[qe6 (by omega),qe6 (by omega)];rfl
section
variable(K:W.Frag)
noncomputable def Gu(ys:LLInt)(ps:List (Int × Int)):Prop:=∀z∈ps,B5 ys z.1/\B5 ys z.2/\(fc ys z.1).length=(fc ys z.2).length
noncomputable def Do(dd:Nat):Sp:=fun vs H Q _=>∃(a l:Addr) (ys:LLInt) (fs:List Int) (i j:Int),vs=[.ref a,.ref l,.int i,.int j]/\LT K H (.ref a) ys/\SqL K H l (fs.map V.int)/\Gr ys/\(∀y∈ys,y.length<=4)/\ys.length<=63/\Hy ys fs/\B5 ys i/\B5 ys j/\(fc ys i).length=(fc ys j).length/\(fc ys i).length<dd ∧
 Kl ys fs (fc ys i).length/\∀(E:Addr) (H':Hp),Same H H'->SqL K H' E ((Fs dd ys fs i j).map V.int)->Q (.ref E) H'
noncomputable abbrev Z8:Sp:=Do K 5
noncomputable def Nt:Sp:=fun vs H Q _=>∃(a:Addr) (v:V) (ys:LLInt) (z:Int × Int),vs=[.ref a,v]/\LT K H (.ref a) ys/\TI K H v (pr z)/\B5 ys z.1/\B5 ys z.2/\(fc ys z.1).length=(fc ys z.2).length/\Q (.bl true) H
noncomputable def X7:Sp:=fun vs H Q _=>∃(a b:Addr) (ys:LLInt) (ps:List (Int × Int)),vs=[.ref a,.ref b]/\LT K H (.ref a) ys/\LT K H (.ref b) (ps.map pr)/\Gr ys/\(∀y∈ys,y.length<=4)/\ys.length<=63/\ps.length<=63/\Gu ys ps ∧
 ∀(R L P:Addr) (us:List V) (fs:List Int) (H':Hp),Same H H'->H L=none->H P=none->L≠P->H' R=some (.tup [.ref L,.ref P])->H' L=some (.lst us)->Reps K H' us ((Kk ys fs).map tI)->H' P=some (.lst ((Gi fs).map V.int))->Hy ys fs->Kl ys fs 4->Hw ys ps fs->Q (.ref R) H'
end
end Hb
namespace Hb
open PySem L2
theorem Gm{α:Type}{l:List α}{i:Nat}{d:α}(h:i<l.length):l[i]?=some (l.getD i d):=by
 rw[qa4,qa0 h];rfl
theorem Fo{α:Type}{l:List α}{i:Nat}{x d:α}(h:l[i]?=some x):l.getD i d=x:=by
 rw[qa4,h];rfl
theorem U8{xs zs:LLInt}{ks:List Int}{g:Int->Int}(hs:Br xs)(hz:zs=ks.map fun p=>(xs.getD p.toNat []).map g)(hr:∀p∈ks,0<=p/\p<(xs.length:Int))
 (hg:∀(k:Nat) p,ks[k]?=some p->∀f∈xs.getD p.toNat [],0<=g f/\g f<(k:Int)/\zs[(g f).toNat]?=some ((xs.getD f.toNat []).map g)):Br zs:=by
 intro k q hq;have hq':=hq;rw[hz,qa3]at hq';obtain⟨p,hp,rfl⟩:=qb1.mp hq';obtain⟨p0,p1⟩:=hr p (qa8 hp);have F:=hs _ _ (Gm (d:=[]) (show p.toNat<xs.length by omega));have G:=hg k p hp;generalize xs.getD p.toNat []=fs at F G
 have at_:∀f∈fs,(zs.take k)[(g f).toNat]?=some ((xs.getD f.toNat []).map g):=fun f hf=>by
  obtain⟨a,b,c⟩:=G f hf;rw[qj1 (by omega)];exact c
 have old:∀f∈fs,(xs.take p.toNat)[f.toNat]?=some (xs.getD f.toNat []):=fun f hf=>by
  obtain⟨q,h1,_⟩:=F.bel f hf;have h2:f.toNat<(xs.take p.toNat).length:=(qa2.mp h1).1;rw[qb5]at h2;rw[qj1 (by omega)];exact Gm O9m
 refine⟨by rw[qa1];exact F.cnt,fun f' hf'=>?_,fun f' hf'=>?_,fun h3 i j f' g' q r hij hj hi hq hr=>?_⟩
 . obtain⟨f,hf,rfl⟩:=qe2.mp hf';exact(G f hf).1
 . obtain⟨f,hf,rfl⟩:=qe2.mp hf';obtain⟨q,h1,h2⟩:=F.bel f hf;rw[old f hf]at h1;cases h1;exact⟨_,at_ f hf,by unfold lev at h2 ⊢;rw[qa1,qa1];exact h2⟩
 . rw[qa3]at hj hi;obtain⟨f,hf,rfl⟩:=qb1.mp hj;obtain⟨h,hh,rfl⟩:=qb1.mp hi;have mf:=qa8 hf;have mh:=qa8 hh;rw[at_ f mf]at hq;rw[at_ h mh]at hr;cases hq;cases hr;rw[qa3,qa3,F.agr (by simpa using h3) i j f h _ _ hij hf hh (old f mf) (old h mh)]
theorem AW{xs:LLInt}{ks:List Int}(hs:Br xs)(hp:ks.Pairwise (·<·))(hr:∀p∈ks,0<=p/\p<(xs.length:Int))(hc:Qi xs ks):Br (Eh xs ks):=by
 refine U8 hs (zs:=Eh xs ks) (g:=Gg ks) rfl hr fun k p hk f hf=>?_;have hm:=qa8 hk;have pJ:=hc p hm f hf;obtain⟨a,b,c⟩:=Gf pJ;have Se:k<ks.length:=(qa2.mp hk).1;obtain⟨p0,p1⟩:=hr p hm;have:=(B9 hs (k:=p.toNat) O9m).1 f hf;refine⟨b,CW hp pJ Se ?_,?_⟩
 . rw[Fo hk];omega
 . rw[Gm (d:=[]) (by rw[Fb];omega),Vz (by omega)];have e:ks.getD (Gg ks f).toNat 0=f:=a;rw[e]
theorem Ss(fs:List Int):(Bo fs).Pairwise (·<·):=(Q6 _).filter _
theorem Ka{ys:LLInt}{fs:List Int}(h:Hy ys fs){p:Int}(hp:p∈Bo fs):B5 ys p/\lb fs p=p:=by
 have:=R7.mp (show p∈Nf fs fs.length from hp);rw[h.len]at this;exact this
theorem bQ{ys:LLInt}(hs:Br ys){fs:List Int}(h:Hy ys fs)(c:Kl ys fs 4):Br (Kk ys fs):=by
 have G:=Y7 hs;have h4:∀p,B5 ys p->(fc ys p).length<=4:=fun p hp=>(B9 hs (k:=p.toNat) (by have:=hp.1;have:=hp.2;omega)).2;refine U8 hs (zs:=Kk ys fs) (g:=lb (Gi fs)) rfl (fun p hp=>(Ka h hp).1) fun k p hk f hf=>?_;obtain⟨rp,ep⟩:=Ka h (qa8 hk);have rf:B5 ys f:=G.rng rp hf;have e:=Lu h rf;have hm:=Od h rf;have Se:k<(Bo fs).length:=(qa2.mp hk).1;have r1:=h.rng f rf;have g1:=G p rp f hf;have ra:=Gf hm;refine⟨by rw[e];exact ra.2.1,?_,?_⟩
 . rw[e];refine CW (Ss fs) hm Se ?_;rw[Fo hk];omega
 . have hl:=h.len;have hfl:f.toNat<ys.length:=by have:=rf.1;have:=rf.2;omega
   have:=HQ G h4 h c f.toNat hfl;have e2:(Gi fs).getD f.toNat 0=lb (Gi fs) f:=rfl;rw[e2]at this;have eg:(Kk ys fs).length=(Bo fs).length:=qa1 ..;rw[Gm (d:=[]) (by rw[eg,e];have:=ra.2.1;have:=ra.2.2;omega),this];rfl
noncomputable def Qo(names:List Str)(ks:List Int):List Str:=ks.map fun p=>nmAt names p.toNat
noncomputable def Jx(names:List Str)(xs:LLInt)(rep:Int->Int)(p:Int):List Str:=nmAt names p.toNat::(xs.getD p.toNat []).map fun f=>nmAt names (rep f).toNat
noncomputable def D3(names:List Str)(xs:LLInt)(ks:List Int)(rep:Int->Int):Str:=Str.join (Str.ofString "; ") (ks.map fun p=>Str.join (Str.ofString " ") (Jx names xs rep p))
theorem Y4{xs:LLInt}{ks:List Int}{g rep:Int->Int}(names:List Str)(h:∀p∈ks,∀f∈xs.getD p.toNat [],0<=g f/\ks[(g f).toNat]?=some (rep f)) :
 Bw (ks.map fun p=>(xs.getD p.toNat []).map g) (Qo names ks)=D3 names xs ks rep:=by
 unfold Bw D3
 congr 1
 rw[show(ks.map fun p=>Str.join (Str.ofString " ") (Jx names xs rep p))=(ks.map (Jx names xs rep)).map (Str.join (Str.ofString " ")) by rw[qg6];rfl]
 congr 1
 unfold Cr;refine qk7 fun i=>?_;rw[qa3,qa3,qa1];by_cases hi:i<ks.length
 . rw[ql4 hi,qa0 hi];show some (Fq _ i _)=some (Jx _ _ _ _)
   congr 1
   have e1:(ks.map fun p=>(xs.getD p.toNat []).map g).getD i []=(xs.getD ks[i].toNat []).map g:=by
    refine Fo ?_;rw[qa3,qa0 hi];rfl
   rw[e1];unfold Fq Jx
   congr 1
   . unfold nmAt Qo;refine Fo ?_;rw[qa3,qa0 hi];rfl
   . rw[qg6];refine qj5 fun f hf=>?_;obtain⟨a,b⟩:=h _ (qc8 hi) f hf;show(Qo names ks).getD (g f).toNat Str.empty=nmAt names (rep f).toNat;refine Fo ?_;unfold Qo;rw[qa3,b];rfl
 . rw[qe6 (by simpa using hi),qe6 (by omega)];rfl
theorem z9(names:List Str)(ks:List Int):(Qo names ks).length=ks.length:=qa1 ..
theorem dO{names:List Str}{ks:List Int}(hn:∀x∈names,B2 x)(hr:∀p∈ks,0<=p/\p<(names.length:Int)):∀x∈Qo names ks,B2 x:=fun x hx=>by
 obtain⟨p,hp,rfl⟩:=qe2.mp hx;obtain⟨a,b⟩:=hr p hp;exact P6 hn O9m
theorem DO{names:List Str}{ks:List Int}(hn:names.Nodup)(hk:ks.Nodup)(hr:∀p∈ks,0<=p/\p<(names.length:Int)):(Qo names ks).Nodup:=by
 unfold Qo;refine qk6.mpr (hk.imp_of_mem fun {a b} ha hb hab e=>hab ?_);obtain⟨a0,a1⟩:=hr a ha;obtain⟨b0,b1⟩:=hr b hb;have:=Wp hn O9m O9m e;omega
theorem cP{xs:LLInt}{ks:List Int}(names:List Str)(hc:Qi xs ks):Bw (Eh xs ks) (Qo names ks)=D3 names xs ks id:=by
 refine Y4 names fun p hp f hf=>?_;obtain⟨a,b,c⟩:=Gf (hc p hp f hf);refine⟨b,?_⟩;rw[Gm (d:=0) (by omega)];exact congrArg some a
theorem Y9{ys:LLInt}(hs:Br ys){fs:List Int}(names:List Str)(h:Hy ys fs):Bw (Kk ys fs) (Qo names (Bo fs))=D3 names ys (Bo fs) (lb fs):=by
 have G:=Y7 hs;refine Y4 names fun p hp f hf=>?_;obtain⟨rp,ep⟩:=Ka h hp;have rf:B5 ys f:=G.rng rp hf;have ra:=Gf (Od h rf);rw[Lu h rf];refine⟨ra.2.1,?_⟩;rw[Gm (d:=0) (by have:=ra.2.1;have:=ra.2.2;omega)];exact congrArg some ra.1
theorem DW{ys:LLInt}{ps:List (Int × Int)}{fs ls:List Int}(h:Hy ys fs)(l:Hy ys ls)(th:Hw ys ps fs)(tl:Hw ys ps ls):fs=ls:=by
 have key:∀p,B5 ys p->lb fs p=lb ls p:=fun p hp=>by
  have i1:=h.inR hp;have i2:=l.inR hp;have a:=(tl p _ hp i1).mpr ((th p _ hp i1).mp (h.fix p hp).symm);have b:=(th p _ hp i2).mpr ((tl p _ hp i2).mp (l.fix p hp).symm);have:=l.rng _ i1;have:=h.rng _ i2;omega
 refine qk7 fun i=>?_;have e1:=h.len;have e2:=l.len;by_cases hi:i<ys.length
 . have:=key (i:Int) ⟨O9m,O9m⟩;rw[Y0 (by omega),Y0 (by omega)]at this;rw[qa0 (by omega),qa0 (by omega),this]
 . rw[qe6 (by omega),qe6 (by omega)]
theorem Dj.swap{ys:LLInt}{ps ws X1:List (Int × Int)}{fs:List Int}(h:Dj ys ps fs ws)(hr:∀z∈X1,B5 ys z.1/\B5 ys z.2/\(fc ys z.1).length=(fc ys z.2).length)(hg:∀z∈X1,T9 ys ps z.1 z.2)(hE:∀z∈ws,Ec ys fs X1 z.1 z.2):Dj ys ps fs X1:=by
 have le:∀p q,Ec ys fs ws p q->Ec ys fs X1 p q:=fun p q x T c u t=>x T c u fun z hz=>hE z hz T c u t;exact⟨h.lab,hr,hg,h.snd,fun z hz=>le _ _ (h.bas z hz),fun p q hp hq z i f g hf hg=>le _ _ (h.fac p q hp hq z i f g hf hg)⟩
theorem Dj.last{ys:LLInt}{ps ws:List (Int × Int)}{fs:List Int}{z:Int × Int}(h:Dj ys ps fs (z::ws)):Dj ys ps fs (ws++[z]) :=
 h.swap (fun y hy=>h.wrng y (by simp at hy ⊢;exact hy.symm)) (fun y hy=>h.wglu y (by simp at hy ⊢;exact hy.symm)) fun y hy T _ _ t=>t y (by simp at hy ⊢;exact hy.symm)
theorem Dj.skip1{ys:LLInt}{ps ws:List (Int × Int)}{fs:List Int}{z:Int × Int}(h:Dj ys ps fs (z::ws))(e:lb fs z.1=lb fs z.2):Dj ys ps fs ws:=Dj.skip (a:=z.1) (b:=z.2) h.last e
theorem Dj.merge1{ys:LLInt}(G:Gr ys){ps ws:List (Int × Int)}{fs:List Int}{z:Int × Int}(h:Dj ys ps fs (z::ws))(hne:¬lb fs z.1=lb fs z.2) :
 Dj ys ps (mrg fs (min (lb fs z.1) (lb fs z.2)) (max (lb fs z.1) (lb fs z.2))) (ws++(fc ys z.1).zip (fc ys z.2)):=by
 have hw:=h.wrng z (by simp);obtain⟨ra,rb,el⟩:=hw;have L:=h.lab;have M:=Dj.merge G (a:=z.1) (b:=z.2) h.last hne;have hab:T9 ys ps z.1 z.2:=h.wglu z (by simp);refine M.swap (fun y hy=>?_) (fun y hy=>?_) fun y hy=>?_
 . rcases qd5.mp hy with w | w
   . exact h.wrng y (by simp[w])
   . have m1:=(qg2 w).1;have m2:=(qg2 w).2;exact⟨G.rng ra m1,G.rng rb m2,G.same ra rb el m1 m2⟩
 . rcases qd5.mp hy with w | w
   . exact h.wglu y (by simp[w])
   . obtain⟨i,hi'⟩:=qc6 w;rw[qf7]at hi';exact(T9.cong ys ps).face _ _ hab ra rb i _ _ hi'.1 hi'.2
 . rcases qd5.mp hy with w | w
   . exact fun T _ _ t=>t y (by simp[w])
   . obtain⟨i,hi'⟩:=qc6 w;rw[qf7]at hi';intro T c u t;have la:=L.lev _ ra;have lb':=L.lev _ rb;have i1:=(qa2.mp hi'.1).1;have i2:=(qa2.mp hi'.2).1;have fa:=qa0 (l:=fc ys z.1) (i:=i) O9m;have fb:=qa0 (l:=fc ys z.2) (i:=i) O9m
     have hz:T z.1 z.2:=by
      obtain⟨lo,hlo⟩:∃lo,lo=min (lb fs z.1) (lb fs z.2):=⟨_,rfl⟩
      obtain⟨hi,hhi⟩:∃hi,hi=max (lb fs z.1) (lb fs z.2):=⟨_,rfl⟩
      refine u _ _ ra rb ?_;rw[L.lbm ra,L.lbm rb,←hlo,←hhi];split<;>split<;>omega
     have uu:Mm ys fs T:=fun p q hp hq e=>u p q hp hq (L.mono hp hq e)
     have tt:∀y∈z::ws,T y.1 y.2:=fun y hy=>by
      rcases qb7.mp hy with rfl | w
      . exact hz
      . exact t y (by simp[w])
     have e1:=h.fac _ _ (L.inR ra) ra (L.fix _ ra) i _ _ hi'.1 fa T c uu tt;have e2:=h.fac _ _ (L.inR rb) rb (L.fix _ rb) i _ _ hi'.2 fb T c uu tt;exact c.trans _ _ _ e1 (c.trans _ _ _ (t (_,_) (qd5.mpr (.inr (Zz fa fb)))) (c.symm _ _ e2))
end Hb
namespace L2
open PySem PySem.Spec PyProof.Rows
section
variable{prog:Program}{w:World}{A:Around}{E:Value->Shared->Prop}{s:Shared}
noncomputable abbrev Nl(h:Heap)(z TI TO:Addr)(t:Addr)(f:Bool):Prop:=h.get? z=some { cls:=.type "zip",dict:=none,data:=.fields #[rawInt t,.bool f,.bool false,.ref TI,.ref TO],slots:=#[] }
theorem AR{a:Addr}{o:Obj}{Q:Option Obj->Shared->Prop}(ho:s.heap.get? a=some o)(h:Q (some o) s):wpAny (model prog w) A (loadIfAlive a) Q E s:=by
 exact PySem.W.kdx_alive ho h
theorem u9{z a b t:Addr}{f:Bool}{oa:Obj}{Q:Bool->Shared->Prop}(gz:Nl s.heap z a b t f)(ht:s.heap.get? t=some oa)(k:∀h',Nl h' z a b t true->Heap.SameBut z s.heap h'->Q false { s with heap:=h' }) :
 wpAny (model prog w) A (Builtin.SmallTypes.ownedTupleIsFree (.ref z)) Q E s:=by
 unfold Builtin.SmallTypes.ownedTupleIsFree;refine qa5 (qf6 gz rfl (x:=rawInt t) rfl ?_);show wpAny _ _ (loadIfAlive ((t:Int).toNat)>>=_) _ _ _;rw[qb9];refine qa5 (AR ht ?_);simp only[Option.isNone_some,qi5,if_false];refine qa5 (qf6 gz rfl (x:=.bool f) rfl ?_);cases f with
 | true =>
   rw[if_neg (show ¬((Value.bool true != Value.bool true)=true) from qc2)];exact qb2 (k _ gz (Heap.SameBut.refl _ _))
 | false =>
   rw[if_pos (show(Value.bool false != Value.bool true)=true from rfl)];refine qa5 (qk8 gz (by simp) fun h₃ WS wF=>?_);exact qb2 (k _ WS wF)
theorem AS{z a b i1 i2 t1 t2 t:Addr}{f:Bool}{oa:Obj}{n m:Nat}{xs ys:Array Value}{x y:Value}{Q:Value->Shared->Prop}(D:ZipApart z a b i1 i2 t1 t2)(gz:Nl s.heap z a b t f)(ht:s.heap.get? t=some oa)(ga:IsPair s.heap a (.ref i1) (.ref i2))
 (g1:s.heap.IsTupleIter i1 t1 n) (g2:s.heap.IsTupleIter i2 t2 m) (e1:s.heap.IsTuple t1 xs) (e2:s.heap.IsTuple t2 ys) (gx:xs[n]?=some x) (gy:ys[m]?=some y)
 (k:∀h',Nl h' z a b t true->h'.IsTupleIter i1 t1 (n+1)->h'.IsTupleIter i2 t2 (m+1)->IsPair h' s.heap.objs.size x y->h'.objs.size=s.heap.objs.size+1 →
   (∀c o,c≠z->c≠i1->c≠i2->s.heap.get? c=some o->h'.get? c=some o)->Q (.ref s.heap.objs.size) { s with heap:=h' }) :
 wpAny (model prog w) A (Builtin.«zip.__next__» ⟨[.ref z],[]⟩) (fun fin s'=>∃r,fin=.done (.ret r)/\Q r s') E s:=by
 show wpAny _ _ (field (.ref z) 2>>=_) _ _ _;refine qa5 (qf6 gz rfl (x:=.bool false) rfl ?_);show wpAny _ _ (field (.ref z) 3>>=_) _ _ _;refine qa5 (qf6 gz rfl (x:=.ref a) rfl ?_);refine qa5 (qh3 ga rfl ?_);show wpAny _ _ (Builtin.SmallTypes.ownedTupleIsFree (.ref z)>>=_) _ _ _;refine qa5 (u9 gz ht fun k1 fN w1=>?_);simp only[qi5,if_false];refine qa5 ?_;rw[←Array.forIn_toList];simp only[qm6,qp1];refine qa5 (qa5 (qi8 ?_));show wpAny _ _ (Builtin.SmallTypes.nextOf (.ref i1)>>=_) _ _ _;refine qa5 (Es (g1.extBut w1.extBut D.i1z) (e1.extBut w1.extBut D.l1z) gx fun k2 f1 w2=>qb2 ?_);refine qb2 ?_;refine qa5 (qa5 (qi8 ?_));show wpAny _ _ (Builtin.SmallTypes.nextOf (.ref i2)>>=_) _ _ _;refine qa5 (Es ((g2.extBut w1.extBut D.i2z).extBut w2.extBut D.i12.symm) ((e2.extBut w1.extBut D.l2z).extBut w2.extBut D.l2i1) gy fun k3 f2 w3=>qb2 ?_);refine qb2 (qb2 ?_);refine qa5 (wpAny_newTuple (hsz:=by show(2:Nat)<=sizeLine;decide) ?_);have sz:k3.objs.size=s.heap.objs.size:=by rw[w3.1,w2.1,w1.1]
 have xH:Nl k3 z a b t true:=w3.extBut _ _ D.i2z.symm (w2.extBut _ _ D.i1z.symm fN);have kp:∀c o,c≠z->c≠i1->c≠i2->s.heap.get? c=some o->k3.get? c=some o:=fun c o c1 c3 c4 e=>w3.extBut _ _ c4 (w2.extBut _ _ c3 (w1.extBut _ _ c1 e));have gt:IsPair (k3.push { cls:=.type "tuple",data:=.seq #[x,y] }) k3.objs.size x y:=qc0 _ rfl;refine qb2 ⟨_,rfl,?_⟩;show Q (.ref k3.objs.size) _;rw[sz]at gt ⊢;exact k _ (qa7 _ xH) ((f1.extBut w3.extBut D.i12).at fun o e=>qa7 _ e) (f2.at fun o e=>qa7 _ e) gt (by rw[qh8,sz]) fun c o c1 c3 c4 e=>qa7 _ (kp c o c1 c3 c4 e)
theorem cM{z a b i1 i2 t1 t2 t:Addr}{f:Bool}{oa:Obj}{n:Nat}{xs:Array Value}{Q:PySem.Fin->Shared->Prop}(hn:A.handled=none)(D:ZipApart z a b i1 i2 t1 t2)(gz:Nl s.heap z a b t f)(ht:s.heap.get? t=some oa)(ga:IsPair s.heap a (.ref i1) (.ref i2))
 (g1:s.heap.IsTupleIter i1 t1 n) (e1:s.heap.IsTuple t1 xs) (gx:xs[n]?=none)
 (k:∀h' e,(∀c o,c≠z->c≠i1->c≠i2->s.heap.get? c=some o->h'.get? c=some o)->(∃o,h'.get? e=some o/\o.cls=.type "StopIteration")->E (.ref e) { s with heap:=h' }) :
 wpAny (model prog w) A (Builtin.«zip.__next__» ⟨[.ref z],[]⟩) Q E s:=by
 show wpAny _ _ (field (.ref z) 2>>=_) _ _ _;refine qa5 (qf6 gz rfl (x:=.bool false) rfl ?_);show wpAny _ _ (field (.ref z) 3>>=_) _ _ _;refine qa5 (qf6 gz rfl (x:=.ref a) rfl ?_);refine qa5 (qh3 ga rfl ?_);show wpAny _ _ (Builtin.SmallTypes.ownedTupleIsFree (.ref z)>>=_) _ _ _;refine qa5 (u9 gz ht fun k1 fN w1=>?_);simp only[qi5,if_false];refine qa5 ?_;rw[←Array.forIn_toList];simp only[qm6,qp1];refine qa5 (qa5 (qi8 ?_));show wpAny _ _ (Builtin.SmallTypes.nextOf (.ref i1)>>=_) _ _ _;refine qa5 (K6 hn (g1.extBut w1.extBut D.i1z) (e1.extBut w1.extBut D.l1z) gx fun k2 e w2 he=>?_);exact k k2 e (fun c o c1 c3 _ q=>w2 _ _ c3 (w1.extBut _ _ c1 q)) he
structure iY(h:Heap)(z a b i1 i2 t1 t2 S:Addr)(i:Nat):Prop where
 zp:(i=0/\IsZip h z a b .none)\/∃t f oa,Nl h z a b t f/\h.get? t=some oa/\t≠z/\t≠b/\t≠i1/\t≠i2/\t≠S
 pa:IsPair h a (.ref i1) (.ref i2)
 pb:∃u v,IsPair h b u v
 g1:h.IsTupleIter i1 t1 i
 g2:h.IsTupleIter i2 t2 i
theorem iY.keep{h h':Heap}{z a b i1 i2 t1 t2 S:Addr}{i:Nat}(x:iY h z a b i1 i2 t1 t2 S i)(ns:z≠S/\a≠S/\b≠S/\i1≠S/\i2≠S)(k:∀c o,c≠S->h.get? c=some o->h'.get? c=some o):iY h' z a b i1 i2 t1 t2 S i:=by
 obtain⟨zp,pa,⟨u,v,pb⟩,g1,g2⟩:=x;refine⟨?_,k _ _ ns.2.1 pa,⟨u,v,k _ _ ns.2.2.1 pb⟩,g1.at fun o e=>k _ _ ns.2.2.2.1 e,g2.at fun o e=>k _ _ ns.2.2.2.2 e⟩;rcases zp with⟨e,q⟩|⟨t,f,oa,q,ht,n1,n2,n3,n4,n5⟩
 . exact .inl ⟨e,k _ _ ns.1 q⟩
 . exact .inr ⟨t,f,oa,k _ _ ns.1 q,k _ _ n5 ht,n1,n2,n3,n4,n5⟩
theorem CJ{z a b i1 i2 t1 t2 S:Addr}{i:Nat}{xs ys:Array Value}{x y:Value}{Q:Option Value->Shared->Prop}(D:ZipApart z a b i1 i2 t1 t2)(st:iY s.heap z a b i1 i2 t1 t2 S i)(hS:S<s.heap.objs.size)(e1:s.heap.IsTuple t1 xs)(e2:s.heap.IsTuple t2 ys)(gx:xs[i]?=some x)(gy:ys[i]?=some y)
 (k:∀h',iY h' z a b i1 i2 t1 t2 S (i+1)->IsPair h' s.heap.objs.size x y->h'.objs.size=s.heap.objs.size+1 →
   (∀c o,c≠z->c≠b->c≠i1->c≠i2->s.heap.get? c=some o->h'.get? c=some o)->Q (some (.ref s.heap.objs.size)) { s with heap:=h' }):wpAny (model prog w) A (pyNext (.ref z)) Q E s:=by
 obtain⟨zp,pa,⟨u,v,pb⟩,g1,g2⟩:=st;have lb:b<s.heap.objs.size:=qb0 pb;have l1:i1<s.heap.objs.size:=by obtain⟨_,q,_⟩:=g1;exact qb0 q
 have l2:i2<s.heap.objs.size:=by obtain⟨_,q,_⟩:=g2;exact qb0 q
 rcases zp with⟨e,gz⟩|⟨t,f,oa,gz,ht,n1,n2,n3,n4,n5⟩
 . have lz:z<s.heap.objs.size:=qb0 gz;refine K5 D gz pa pb g1 g2 e1 e2 gx gy fun h' a1 a2 a3 a4 a5 a6 a7=>k h' ⟨.inr ⟨_,false,_,a1,a5,qe7 lz,qe7 lb,qe7 l1,qe7 l2,qe7 hS⟩,a7 _ _ D.TIz D.TITO D.TIi1 D.TIi2 pa,⟨_,_,a2⟩,a3,a4⟩ a5 a6 a7
 . have hT:s.TypeIs (.ref z) "zip":=⟨_,gz,rfl⟩
   unfold pyNext;refine qa5 (wpAny_attempt (wpAny_callSpecial?_slot (name:=Str.ofString "__next__") hT qj9 (qk2 qj9 hT qp2 (AS D gz ht pa g1 g2 e1 e2 gx gy fun h' a1 a3 a4 a5 a6 a7=>qb2 ?_) (qo8 _))));exact k h' ⟨.inr ⟨t,true,oa,a1,a7 t _ n1 n3 n4 ht,n1,n2,n3,n4,n5⟩,a7 _ _ D.TIz D.TIi1 D.TIi2 pa,⟨_,_,a7 _ _ D.TOz D.TOi1 D.TOi2 pb⟩,a3,a4⟩ a5 a6 fun c o c1 _ c3 c4 e=>a7 c o c1 c3 c4 e
theorem FO{z a b i1 i2 t1 t2 S:Addr}{i:Nat}{xs ys:Array Value}{Q:Option Value->Shared->Prop}(hn:A.handled=none)(D:ZipApart z a b i1 i2 t1 t2)(st:iY s.heap z a b i1 i2 t1 t2 S i)(e1:s.heap.IsTuple t1 xs)(e2:s.heap.IsTuple t2 ys)(gx:xs[i]?=none)
 (k:∀h',(∀c o,c≠z->c≠b->c≠i1->c≠i2->s.heap.get? c=some o->h'.get? c=some o)->Q none { s with heap:=h' }):wpAny (model prog w) A (pyNext (.ref z)) Q E s:=by
 obtain⟨zp,pa,⟨u,v,pb⟩,g1,g2⟩:=st;rcases zp with⟨e,gz⟩|⟨t,f,oa,gz,ht,n1,n2,n3,n4,n5⟩
 . exact Mg hn D gz pa pb g1 g2 e1 e2 gx k
 . have hT:s.TypeIs (.ref z) "zip":=⟨_,gz,rfl⟩
   unfold pyNext;refine qa5 (wpAny_attempt (wpAny_callSpecial?_slot (name:=Str.ofString "__next__") hT qj9 (qk2 qj9 hT qp2 (cM hn D gz ht pa g1 e1 gx fun h' e kp he=>?_) (qo8 _))));obtain⟨o,q1,q2⟩:=he;exact qa5 (wpAny_isInstance (T:="StopIteration") (b:=true) ⟨o,q1,q2⟩ isSubtype_stop (qb2 (k _ fun c o c1 _ c3 c4 e=>kp c o c1 c3 c4 e)))
end
section
variable{prog:Program}{w:World}{A:Around}{s:Shared}{R:Result->Shared->Prop}
structure ZG(lo:Addr)(xs ys:Array Value)(h:Heap)(as:List Addr):Prop where
 rise:as.Pairwise (·<·)
 above:∀a∈as,lo<a
 pairs:∀(j:Nat) (a:Addr),as[j]?=some a->∃x y,xs[j]?=some x/\ys[j]?=some y/\IsPair h a x y
theorem CK{S z a b i1 i2 t1 t2 lo:Addr}{xs ys:Array Value}(hh:A.handled=none)(D:ZipApart z a b i1 i2 t1 t2)(ns:z≠S/\a≠S/\b≠S/\i1≠S/\i2≠S)(ts:t1≠S/\t2≠S)(tz:(t1≠z/\t1≠b/\t1≠i1/\t1≠i2)/\(t2≠z/\t2≠b/\t2≠i1/\t2≠i2))(hlo:z<=lo/\b<=lo/\i1<=lo/\i2<=lo/\S<=lo)(hl:xs.size=ys.size)(hn:xs.size<=1000)(res:Value){h₁:Heap}
 (hR:∀h' tk acc c as,(∀d o,d≠S->d≠z->d≠b->d≠i1->d≠i2->h₁.get? d=some o->h'.get? d=some o)->h'.get? S=some { cls:=.type "list",dict:=none,data:=.seq acc c,slots:=#[] }->as.length=xs.size->ZG lo xs ys h' as →
   acc.toList=as.map Value.ref->R (.ok (.ret res)) { s with heap:=h',toks:=tk }) :
 ∀(k i:Nat) (h:Heap) (tk c:Nat) (acc:Array Value) (as:List Addr),xs.size-i=k->i<=xs.size->iY h z a b i1 i2 t1 t2 S i->h.IsTuple t1 xs->h.IsTuple t2 ys->(∀d o,d≠S->d≠z->d≠b->d≠i1->d≠i2->h₁.get? d=some o->h.get? d=some o) →
   h.get? S=some { cls:=.type "list",dict:=none,data:=.seq acc c,slots:=#[] }->acc.toList=as.map Value.ref->as.length=i->ZG lo xs ys h as->lo<h.objs.size →
   codeAny (model prog w) A (.builtin "list.extend.loop" ⟨[.ref S,.ref z,res],[]⟩) R { s with heap:=h,toks:=tk }:=by
 intro k
 induction k with
 | zero =>
   intro i h tk c acc as hk hi hst h1 h2 hkeep hS hacc hal hG hIs;have hin:i=xs.size:=O9m
   refine codeAny_builtin PySem.F.entry_extend_loop ?_;rw[qm8 qm9 _];show wpAny _ A.in1 (pyNext (.ref z)>>=_) _ _ _;refine qa5 (FO (s:={ s with heap:=h,toks:=tk }) (A:=A.in1) hh D hst h1 h2 (Array.getElem?_eq_none O9m) fun h' he=>?_);refine qb2 (hR h' tk acc c as (fun d o n1 n2 n3 n4 n5 e=>he d o n2 n3 n4 n5 (hkeep d o n1 n2 n3 n4 n5 e)) (he S _ ns.1.symm ns.2.2.1.symm ns.2.2.2.1.symm ns.2.2.2.2.symm hS) O9m ⟨hG.rise,hG.above,fun j q hj=>?_⟩ hacc);obtain⟨x,y,e1,e2,e3⟩:=hG.pairs j q hj;have hb:=hG.above q (qa8 hj);exact⟨x,y,e1,e2,he q _ (qe7 (qf9 hlo.1 hb)) (qe7 (qf9 hlo.2.1 hb)) (qe7 (qf9 hlo.2.2.1 hb)) (qe7 (qf9 hlo.2.2.2.1 hb)) e3⟩
 | succ k ih =>
   intro i h tk c acc as hk hi hst h1 h2 hkeep hS hacc hal hG hIs;have hlt:i<xs.size:=O9m
   have hx:xs[i]?=some xs[i]:=Array.getElem?_eq_getElem hlt;have hy:ys[i]?=some (ys[i]'(O9m)):=Array.getElem?_eq_getElem O9m;have hsz:acc.size=i:=by rw[←qm7,hacc,qa1,hal]
   refine codeAny_builtin PySem.F.entry_extend_loop ?_;rw[qm8 qm9 _];show wpAny _ A.in1 (pyNext (.ref z)>>=_) _ _ _;refine qa5 (CJ (s:={ s with heap:=h,toks:=tk }) (S:=S) D hst (qb0 hS) h1 h2 hx hy fun h' RB ht hz hkp=>?_);dsimp only at ht hz hkp ⊢;have hS':=hkp S _ ns.1.symm ns.2.2.1.symm ns.2.2.2.1.symm ns.2.2.2.2.symm hS;have up:∀d o,d≠S->h'.get? d=some o->(h'.update S (Obj.mapSeq (·.push (Value.ref h.objs.size)))).get? d=some o:=fun d o hd e=>(qi6 _ _ (Ne.symm hd)).trans e;have uK:S<h.objs.size:=qb0 hS;show wpAny _ A.in1 (updateSeq S (·.push (Value.ref h.objs.size))>>=_) _ _ _;refine qa5 ?_
   refine qp9 hS' rfl (qb2 ⟨plainId_quiet qm9 _,ih (i+1) _ tk _ (acc.push (Value.ref h.objs.size)) (as++[h.objs.size]) O9m hlt (RB.keep ns up) ?_ ?_
    (fun d o n1 n2 n3 n4 n5 e=>up d o n1 (hkp d o n2 n3 n4 n5 (hkeep d o n1 n2 n3 n4 n5 e))) (qj3 _ hS' rfl) (by rw[Array.toList_push,hacc,qa6];rfl) (by rw[qb8,hal];rfl) ⟨?_,?_,?_⟩ ?_⟩) (by rw[hsz,sizeLine_eq];omega) (by show(acc.push (Value.ref h.objs.size)).size<=sizeLine+1;rw[Array.size_push,hsz,sizeLine_eq];omega)
   . obtain⟨o,q,r⟩:=h1;exact⟨o,up _ _ ts.1 (hkp _ _ tz.1.1 tz.1.2.1 tz.1.2.2.1 tz.1.2.2.2 q),r⟩
   . obtain⟨o,q,r⟩:=h2;exact⟨o,up _ _ ts.2 (hkp _ _ tz.2.1 tz.2.2.1 tz.2.2.2.1 tz.2.2.2.2 q),r⟩
   . refine List.pairwise_append.mpr ⟨hG.rise,List.pairwise_singleton _ _,fun a ha b hb=>?_⟩;rw[qd1.mp hb];obtain⟨j,hj⟩:=List.mem_iff_getElem?.mp ha;obtain⟨_,_,_,_,e⟩:=hG.pairs j a hj;exact qb0 e
   . intro q hq;rcases qd5.mp hq with hq | hq
     . exact hG.above q hq
     . rw[qd1.mp hq];exact hIs
   . intro j q hj;rcases Nat.lt_trichotomy j as.length with c1 | c1 | c1
     . rw[qf8 c1]at hj;obtain⟨x,y,e1,e2,e3⟩:=hG.pairs j q hj;have hb:=hG.above q (qa8 hj);exact⟨x,y,e1,e2,up q _ (qe7 (qf9 hlo.2.2.2.2 hb)) (hkp q _ (qe7 (qf9 hlo.1 hb)) (qe7 (qf9 hlo.2.1 hb)) (qe7 (qf9 hlo.2.2.1 hb)) (qe7 (qf9 hlo.2.2.2.1 hb)) e3)⟩
     . subst c1;have hb:h.objs.size=q:=by simpa using hj
       subst hb;exact⟨_,_,by rw[hal];exact hx,by rw[hal];exact hy,up _ _ (qe7 uK) ht⟩
     . have hnone:(as++[h.objs.size])[j]?=none:=qe6 (by rw[qb8,qk5];omega);rw[hnone]at hj;cases hj
   . have e:(h'.update S (Obj.mapSeq (·.push (Value.ref h.objs.size)))).get? h.objs.size=_:=up _ _ (qe7 uK) ht;exact qr3 hIs (qb0 e)
theorem Zx:typeLookup (.type "zip") "__len__"=pure none:=by rw[typeLookup_type,builtinLookup_eq_fast];kernel_rfl
theorem Xw:typeLookup (.type "zip") "__length_hint__"=pure none:=by rw[typeLookup_type,builtinLookup_eq_fast];kernel_rfl
theorem Zy{S z a b i1 i2 t1 t2:Addr}{xs ys:Array Value}(hh:A.handled=none)(D:ZipApart z a b i1 i2 t1 t2)(ns:z≠S/\a≠S/\b≠S/\i1≠S/\i2≠S)(ts:t1≠S/\t2≠S)(tz:(t1≠z/\t1≠b/\t1≠i1/\t1≠i2)/\(t2≠z/\t2≠b/\t2≠i1/\t2≠i2))(hlo:z<=S/\b<=S/\i1<=S/\i2<=S)(hl:xs.size=ys.size)(hn:xs.size<=1000)(res:Value)(c₀:Nat)
 (hst:iY s.heap z a b i1 i2 t1 t2 S 0) (h1:s.heap.IsTuple t1 xs) (h2:s.heap.IsTuple t2 ys) (hz:IsZip s.heap z a b .none) (hS:s.heap.get? S=some { cls:=.type "list",data:=.seq #[] c₀ })
 (hR:∀h' tk acc c as,(∀d o,d≠S->d≠z->d≠b->d≠i1->d≠i2->s.heap.get? d=some o->h'.get? d=some o)->h'.get? S=some { cls:=.type "list",dict:=none,data:=.seq acc c,slots:=#[] }->as.length=xs.size->ZG S xs ys h' as →
   acc.toList=as.map Value.ref->R (.ok (.ret res)) { s with heap:=h',toks:=tk }) :
 wpAny (model prog w) A.in1 (Builtin.List.listExtendWith (.ref S) (.ref z) res)
  (fun fin s'=>match fin with | .done f=>R (.ok f) s' | .again c'=>c'.quiet=true/\codeAny (model prog w) A c' R s') (fun e s'=>R (.error e) s') s:=by
 have hT:s.TypeIs (.ref z) "zip":=⟨_,hz,rfl⟩
 unfold Builtin.List.listExtendWith;refine qa5 (wpAny_typeOf hT ?_);have q1:Builtin.List.listSameRef (.ref S) (.ref z)=false:=by simp[Builtin.List.listSameRef,ns.1.symm]
 have q2:(Value.type "zip"==Value.type "list")=false:=by decide
 have q3:(Value.type "zip"==Value.type "tuple")=false:=by decide
 simp only[q1,q2,q3,qn7,qi5,if_false];refine qa5 (wpAny_pyIter_zip hz ?_);refine qa5 (qi8 ?_);unfold Builtin.List.listLengthHint;refine qa5 (qq0 hT Zx ?_);show wpAny _ A.in1 (specialOf (Value.ref z) (Str.ofString "__length_hint__")>>=_) _ _ _;refine qa5 (qq0 hT Xw ?_);refine qb2 ?_
 show wpAny _ A.in1 (rule "list.extend.makes-room">>=fun _=>Builtin.List.listTouch (.ref S)>>=fun _ =>
  again (.builtin "list.extend.loop" ⟨[.ref S,.ref z,res],[]⟩)) _ _ _
 refine qa5 (wpAny_rule ?_);refine qa5 ?_;show wpAny _ A.in1 (updateSeq S (·.push .none)>>=fun _=>updateSeq S (·.pop)) _ _ _;refine qa5 (qp9 hS rfl ?_);have pK:=qj3 (Obj.mapSeq (·.push Value.none)) hS rfl;refine qp9 (hz:=by seq_fits) pK rfl ?_;have UJ:=qj3 (Obj.mapSeq (·.pop)) pK rfl
 have z7:∀b o,b≠S->s.heap.get? b=some o->((s.heap.update S (Obj.mapSeq (·.push Value.none))).update S (Obj.mapSeq (·.pop))).get? b=some o :=
  fun b o hb e=>(qi6 _ _ (Ne.symm hb)).trans ((qi6 _ _ (Ne.symm hb)).trans e)
 refine qb2 ⟨plainId_quiet F.plain_extend_loop _,CK (s:=s) (lo:=S) (h₁:=s.heap) hh D ns ts tz ⟨hlo.1,hlo.2.1,hlo.2.2.1,hlo.2.2.2,qa9 _⟩ hl hn res hR xs.size 0 _ s.toks _ #[] [] (Nat.sub_zero _) (qb3 _) (hst.keep ns z7) ?_ ?_ (fun d o n1 _ _ _ _ e=>z7 d o n1 e) UJ rfl rfl ⟨List.Pairwise.nil,(fun _ ha=>nomatch ha),fun j a hj=>by simp at hj⟩ (qb0 UJ)⟩
 . obtain⟨o,q,r⟩:=h1;exact⟨o,z7 _ _ ts.1 q,r⟩
 . obtain⟨o,q,r⟩:=h2;exact⟨o,z7 _ _ ts.2 q,r⟩
end
section
variable{prog:Program}{w:World}{A:Around}{E:Value->Shared->Prop}{s:Shared}
theorem T6{z a b i1 i2 t1 t2:Addr}{xs ys:Array Value}{Q:Value->Shared->Prop}(hh:A.handled=none)(D:ZipApart z a b i1 i2 t1 t2)(tz:(t1≠z/\t1≠b/\t1≠i1/\t1≠i2)/\(t2≠z/\t2≠b/\t2≠i1/\t2≠i2))(hl:xs.size=ys.size)(hn:xs.size<=1000)
 (hz:IsZip s.heap z a b .none) (pa:IsPair s.heap a (.ref i1) (.ref i2)) (pb:∃u v,IsPair s.heap b u v) (g1:s.heap.IsTupleIter i1 t1 0) (g2:s.heap.IsTupleIter i2 t2 0) (h1:s.heap.IsTuple t1 xs) (h2:s.heap.IsTuple t2 ys)
 (hQ:∀h' tk acc c as,(∀d o,d≠z->d≠b->d≠i1->d≠i2->s.heap.get? d=some o->h'.get? d=some o)->h'.get? s.heap.objs.size=some { cls:=.type "list",dict:=none,data:=.seq acc c,slots:=#[] }->as.length=xs.size->ZG s.heap.objs.size xs ys h' as →
   acc.toList=as.map Value.ref->Q (.ref s.heap.objs.size) { s with heap:=h',toks:=tk }) :
 wpAny (model prog w) A (call (.type "list") [.ref z]) Q E s:=by
 refine callType_codes (Q₁:=fun obj s₁=>obj=.ref s.heap.objs.size/\s₁={ s with heap:=s.heap.push { cls:=.type "list",data:=.seq #[] } }) PySem.F.called_list (PySem.F.typeCall_list_1 _) PySem.F.entry_list_init
  (code_list_new _ ⟨rfl,rfl⟩) fun obj s₁ h₁=>?_
 obtain⟨rfl,rfl⟩:=h₁;obtain⟨u,v,pb⟩:=pb;have up:∀d o,s.heap.get? d=some o->(s.heap.push { cls:=.type "list",data:=.seq #[] }).get? d=some o:=fun d o e=>qa7 _ e;have hS:(s.heap.push { cls:=.type "list",data:=.seq #[] }).get? s.heap.objs.size=some { cls:=.type "list",data:=.seq #[] }:=qc0 _ rfl;have lz:z<s.heap.objs.size:=qb0 hz;have la:a<s.heap.objs.size:=qb0 pa;have lb:b<s.heap.objs.size:=qb0 pb;have l1:i1<s.heap.objs.size:=by obtain⟨_,q,_⟩:=g1;exact qb0 q
 have l2:i2<s.heap.objs.size:=by obtain⟨_,q,_⟩:=g2;exact qb0 q
 have PD:t1<s.heap.objs.size:=by obtain⟨_,q,_⟩:=h1;exact qb0 q
 have VW:t2<s.heap.objs.size:=by obtain⟨_,q,_⟩:=h2;exact qb0 q
 refine⟨⟨_,hS,rfl⟩,PySem.F.args_list_init_2 _ _,?_⟩;have pK:=qj3 (Obj.mapSeq (fun _=>(#[]:Array Value))) hS rfl
 have z7:∀d o,s.heap.get? d=some o->((s.heap.push { cls:=.type "list",data:=.seq #[] }).update s.heap.objs.size (Obj.mapSeq (fun _=>(#[]:Array Value)))).get? d=some o :=
  fun d o e=>(qi6 _ _ (qe7 (qb0 e))).trans (up d o e)
 show wpAny _ _ (do let old ←Builtin.List.listItems (.ref s.heap.objs.size);Builtin.List.listUpdate (.ref s.heap.objs.size) (fun _=>#[]);letGo old.toList.reverse;Builtin.List.listExtendWith (.ref s.heap.objs.size) (.ref z) .none) _ _ _;refine qa5 ?_;unfold Builtin.List.listItems;refine qa5 (qh3 hS rfl (qb2 ?_));show wpAny _ _ (updateSeq s.heap.objs.size (fun _=>#[])>>=fun _=>letGo (#[]:Array Value).toList.reverse>>=fun _=>Builtin.List.listExtendWith (.ref s.heap.objs.size) (.ref z) .none) _ _ _;refine qa5 (qp9 hS rfl ?_);refine qa5 (wpAny_letGo ?_);have ns:z≠s.heap.objs.size/\a≠s.heap.objs.size/\b≠s.heap.objs.size/\i1≠s.heap.objs.size/\i2≠s.heap.objs.size:=⟨qc7 lz,qc7 la,qc7 lb,qc7 l1,qc7 l2⟩
 refine Zy (A:=A.in1) hh D ns ⟨qc7 PD,qc7 VW⟩ tz ⟨qk4 lz,qk4 lb,qk4 l1,qk4 l2⟩ hl hn .none _ ⟨.inl ⟨rfl,z7 _ _ hz⟩,z7 _ _ pa,⟨u,v,z7 _ _ pb⟩,g1.at fun o e=>z7 _ _ e,g2.at fun o e=>z7 _ _ e⟩ ?_ ?_ (z7 _ _ hz) pK fun h' tk acc c as hk hS' hl' hG hacc=>?_
 . obtain⟨o,q,r⟩:=h1;exact⟨o,z7 _ _ q,r⟩
 . obtain⟨o,q,r⟩:=h2;exact⟨o,z7 _ _ q,r⟩
 . exact⟨rfl,hQ h' tk acc c as (fun d o n2 n3 n4 n5 e=>hk d o (qc7 (qb0 e)) n2 n3 n4 n5 (z7 d o e)) hS' hl' hG hacc⟩
end
noncomputable def zipH(H:Hp)(l:Addr)(ts:List Addr)(xs ys:List V):Hp:=fun c=>if c=l then some (.lst (ts.map V.ref)) else match ts.findIdx? (·==c) with
 | some j=>some (.tup [xs.getD j .non,ys.getD j .non])
 | none=>H c
noncomputable def MS(K:W.Frag)(ta:TA):TE:=fun σ H Q=>ta σ H fun vs H1=>∃a b xs ys,vs=[.ref a,.ref b]/\Dv K H1 a xs/\Dv K H1 b ys/\xs.length=ys.length/\xs.length<=1000 ∧
 ∀(l:Addr) (ts:List Addr) (H':Hp),H1 l=none->Same H1 H'->H' l=some (.lst (ts.map V.ref))->ts.length=xs.length->(∀(j:Nat) t,ts[j]?=some t->H' t=some (.tup [xs.getD j .non,ys.getD j .non]))->Q (.ref l) H'
theorem d9{X:Cx}{K:W.Frag}{a b:Expr}{ta:TA}{p q pos pos2:Pos}(hc:X.calm=true)(RM:Gl X "list")(hm1:X.mg "list"=none)(RL:Gl X "zip")(hm2:X.mg "zip"=none)(ha:PA X [a,b] ta)(hK:X.K=K:=by rfl)
 (hs:starEach [a,b] X.env=[(false,eval a X.env),(false,eval b X.env)]:=by rfl) (hs2:starEach [b] X.env=[(false,eval b X.env)]:=by rfl) (uD:starEach [.Call (.Name "zip" q) [a,b] [] pos2] X.env=[(false,eval (.Call (.Name "zip" q) [a,b] [] pos2) X.env)]:=by rfl) :
 PE X (.Call (.Name "list" p) [.Call (.Name "zip" q) [a,b] [] pos2] [] pos) (MS K ta):=by
 subst hK;intro Ae s σ H Q I h;refine Call_ (Iw I RM hm1 Ez (qf4 ?_ uD rfl));rw[uD];refine qo2 ?_;refine Call_ (Iw I RL hm2 S6 (qf4 (C8 (ha pos2 Ae s σ H _ I h) fun us s1 ⟨vs,H1,I1,r1,q1⟩=>?_) (by rw[hs,hs2]) (by rw[hs2];rfl)));obtain⟨la,lb,xs,ys,e,Zw,IS,hl,hn,q⟩:=q1;subst e;cases r1 with
 | cons ra rr =>
   cases rr with
   | cons rb rr =>
     cases rr;cases ra;cases rb;obtain⟨ia,va,pa,_⟩:=I1.tuple Zw;obtain⟨ib,vb,pb,_⟩:=I1.tuple IS;have a1:la<s1.heap.objs.size:=by obtain⟨_,e,_⟩:=pa;exact qb0 e
     have a2:lb<s1.heap.objs.size:=by obtain⟨_,e,_⟩:=pb;exact qb0 e
     have la':=va.length;have lb':=vb.length;have QN:s1.heap.IsTuple la ia.toArray:=pa;have tS:s1.heap.IsTuple lb ib.toArray:=pb;refine Vn QN tS fun h' hz hTI hTO hi1 hi2 hsz hk=>qo9 ?_;have ne:∀{c:Addr} (k:Nat),c<s1.heap.objs.size->c≠s1.heap.objs.size+k:=fun k h=>qc7 (qd0 h (qj7 _ _));refine T6 (s:={ s1 with heap:=h' }) (xs:=ia.toArray) (ys:=ib.toArray) (I1.ok.hd hc) (zipApart_new a1 a2) ⟨⟨ne 4 a1,ne 3 a1,qc7 a1,ne 1 a1⟩,⟨ne 4 a2,ne 3 a2,qc7 a2,ne 1 a2⟩⟩ (by simp;omega) (by simp;omega) hz hTI ⟨_,_,hTO⟩ hi1 hi2 (by obtain⟨o,e,r⟩:=QN;exact⟨o,hk _ _ e,r⟩) (by obtain⟨o,e,r⟩:=tS;exact⟨o,hk _ _ e,r⟩) fun h2 tk acc c as hk2 hS hal hG hacc=>?_;dsimp only at hk2 hS hG ⊢;rw[hsz]at hS hG ⊢;have lo:s1.heap.objs.size<s1.heap.objs.size+5:=Nat.lt_add_of_pos_right (by decide);have hf:=I1.hok.fresh (qk4 lo);have kk:∀d o,s1.heap.get? d=some o->h2.get? d=some o:=fun d o e=>hk2 d o (ne 4 (qb0 e)) (ne 3 (qb0 e)) (qc7 (qb0 e)) (ne 1 (qb0 e)) (hk d o e)
     have old:∀d o,s1.heap.get? d=some o->zipH H1 (s1.heap.objs.size+5) as xs ys d=H1 d:=fun d o e=>by
      have hd:=qb0 e;unfold zipH;rw[if_neg (ne 5 hd)]
      have:as.findIdx? (·==d)=none:=by
       rw[List.findIdx?_eq_none_iff];intro x hx;have:=hG.above x hx;exact beq_false_of_ne (qe7 (qr3 (qd0 hd (qj7 _ 5)) this))
      rw[this]
     have tr:∀d o,H1 d=some o->zipH H1 (s1.heap.objs.size+5) as xs ys d=H1 d:=fun d o e=>by
      have hd:d<s1.heap.objs.size:=by
       by_cases hh:d<s1.heap.objs.size
       . exact hh
       . rw[I1.hok.fresh (Nat.le_of_not_lt hh)]at e;cases e
      unfold zipH;rw[if_neg (ne 5 hd)]
      have:as.findIdx? (·==d)=none:=by
       rw[List.findIdx?_eq_none_iff];intro x hx;have:=hG.above x hx;exact beq_false_of_ne (qe7 (qr3 (qd0 hd (qj7 _ 5)) this))
      rw[this]
     have UR:as.length=xs.length:=by rw[hal];simp;omega
     have at_:∀(j:Nat) t,as[j]?=some t->zipH H1 (s1.heap.objs.size+5) as xs ys t=some (.tup [xs.getD j .non,ys.getD j .non]):=fun j t e=>by
      have hj:=(qa2.mp e).1;have hb:=hG.above t (qa8 e);unfold zipH;rw[if_neg (qe7 hb)]
      have:as.findIdx? (·==t)=some j:=by
       rw[qi2];have ej:as[j]=t:=by rw[qa0 hj]at e;simpa using e
       refine⟨hj,by simp[ej],fun i hi=>?_⟩;have:=List.pairwise_iff_getElem.mp hG.rise i j O9m hj hi;rw[ej]at this;rw[beq_false_of_ne (qc7 this)];exact qc2
      rw[this]
     have at0:zipH H1 (s1.heap.objs.size+5) as xs ys (s1.heap.objs.size+5)=some (.lst (as.map V.ref)):=by unfold zipH;rw[if_pos rfl]
     refine⟨.ref _,zipH H1 (s1.heap.objs.size+5) as xs ys,?_,rfl,q _ as _ hf (fun d o e=>(tr d o e).trans e) at0 UR at_⟩
     refine Bd.step (s:=s1) (h':=h2) (t':=tk) (g':=s1.gens) (d':=s1.drawn) (ch:=[]) I1 (fun c hc=>nomatch hc) (fun c o _ _ _ e _=>kk c o e) (fun c o _ _ _ e _=>⟨o.slots,kk c o e⟩) (fun c o _ e n=>(old c o e).trans n) (fun c o _ e=>⟨o,kk c o e⟩)
      (fun c zs e=>(tr c _ e).trans e) (fun c o w' e=>(tr c _ e).trans e) (fun c ps e=>⟨#[],by rw[tr c _ e,e];simp⟩) (fun m hm=>?_) (fun c w' e=>?_) I1.bare
     . obtain⟨o,es',ep,ho,r⟩:=hm;exact⟨o,es',ep,kk _ o ho,r⟩
     . by_cases h5:c=s1.heap.objs.size+5
       . subst h5;rw[at0]at e;cases e;refine⟨by rw[qa1,sizeLine_eq];omega,as.map Value.ref,c,?_,?_⟩
         . clear hal hG hacc UR at_ at0 old tr q
           induction as with
           | nil=>exact .nil
           | cons x xs ih=>exact .cons rfl ih
         . rw[←hacc];simpa using hS
       . cases hi:as.findIdx? (·==c) with
         | none =>
           have e0:zipH H1 (s1.heap.objs.size+5) as xs ys c=H1 c:=by unfold zipH;rw[if_neg h5,hi]
           rw[e0]at e;refine(I1.hok c w' e).stay (fun c' y' _ q=>kk _ _ q) (fun c' q=>(tr c' _ q).trans q) fun c' zs q=>(tr c' _ q).trans q
         | some j =>
           rw[qi2]at hi;obtain⟨hj,ej,_⟩:=hi;have ej:as[j]=c:=by simpa using ej
           have ec:as[j]?=some c:=by rw[qa0 hj,ej]
           rw[at_ j c ec]at e;cases e;obtain⟨x,y,g1,g2,g3⟩:=hG.pairs j c ec;refine⟨(by show(2:Nat)<=sizeLine;decide),[x,y],?_,⟨_,g3,rfl,rfl,_,rfl⟩⟩;obtain⟨u,hu,ru⟩:=va.get (i:=j) (x:=xs.getD j .non) (by rw[qa4,qa0 (by omega)];rfl);obtain⟨v,hv,rv⟩:=vb.get (i:=j) (x:=ys.getD j .non) (by rw[qa4,qa0 (by omega)];rfl)
           have eu:u=x:=by
            have:ia[j]?=some x:=by simpa using g1
            rw[this]at hu;exact(qb6 hu).symm
           have ev:v=y:=by
            have:ib[j]?=some y:=by simpa using g2
            rw[this]at hv;exact(qb6 hv).symm
           subst eu ev;exact .cons ru (.cons rv .nil)
section
variable{X:Cx}{K:W.Frag}
noncomputable def gB:V->List V->Hp->VK->Prop:=fun x vs H Q=>∃z y,x=.str z/\vs=[.str y]/\Q (.bl (Txt.startswith z y)) H
theorem j7:mD X "str.startswith" gB:=by
 intro Ae s σ H x vs v us Q I rx rv h;obtain⟨z,y,rfl,rfl,q⟩:=h;obtain⟨t,rfl⟩:=rx;obtain⟨u,rfl,ru⟩:=rv.one;obtain⟨t',rfl⟩:=ru;exact PySem.SC.startswith ⟨.bl (Txt.startswith z y),H,I,rfl,q⟩
noncomputable def Yk(z y:Str):List Str:=match Builtin.Str.occurrences z y 0 z.length 1 with
 | i::_=>[Builtin.Str.strSub z 0 i,y,Builtin.Str.strSub z (i+y.length) z.length]
 | []=>[z,Str.empty,Str.empty]
noncomputable def nC:V->List V->Hp->VK->Prop:=fun x vs H Q=>∃z y,x=.str z/\vs=[.str y]/\(y.length==0)=false/\z.length<=sizeLine/\∀l,H l=none->Q (.ref l) (upd H l (.tup ((Yk z y).map V.str)))
theorem dX:mD X "str.partition" nC:=by
 intro Ae s σ H x vs v us Q I rx rv h;obtain⟨z,y,rfl,rfl,hy,hz,q⟩:=h;obtain⟨t,rfl⟩:=rx;obtain⟨u,rfl,ru⟩:=rv.one;obtain⟨t',rfl⟩:=ru;refine call_meets F.slot_str_partition (typeIs_str _ _ _) F.entry_str_partition (F.args_str_partition_2 _ _) (meets_str_partition z y t t' hy hz) ?_;have hf:=I.hok.fresh (qa9 _);have q':=q _ hf;unfold Yk at q';cases ho:Builtin.Str.occurrences z y 0 z.length 1 with
 | cons i l =>
   rw[ho]at q';refine⟨.ref s.heap.objs.size,_,I.laid (t':=s.toks+1+1) (fun b u e=>qa7 _ e) (qa9 _) ?_,rfl,q'⟩;exact⟨by show 3<=sizeLine;decide,[.str _ _,.str _ _,.str _ _],.cons ⟨_,rfl⟩ (.cons ⟨_,rfl⟩ (.cons ⟨_,rfl⟩ .nil)),⟨_,qc0 _ rfl,rfl,rfl,_,rfl⟩⟩
 | nil =>
   rw[ho]at q';refine⟨.ref s.heap.objs.size,_,I.laid (t':=s.toks+1) (fun b u e=>qa7 _ e) (qa9 _) ?_,rfl,q'⟩;exact⟨by show 3<=sizeLine;decide,[.str _ _,.str _ _,.str _ _],.cons ⟨_,rfl⟩ (.cons ⟨_,rfl⟩ (.cons ⟨_,rfl⟩ .nil)),⟨_,qc0 _ rfl,rfl,rfl,_,rfl⟩⟩
theorem Lx:E9 X (.type "str") (fun xs H Q=>∃i:Int,xs=[V.int i]/\i.natAbs.log2<1920/\Q (.str (toString i)) H):=by
 intro Ae s σ H xs us Q I r h;obtain⟨i,rfl,hi,q⟩:=h;obtain⟨u,rfl,ru⟩:=Ma r;obtain⟨t,rfl⟩:=ru;exact PySem.P.str_of_int hi ⟨.str (toString i),H,I.tok _,⟨_,rfl⟩,q⟩
theorem bB{C:Addr}{ps:List Str}{j k:Nat}{sp:Sp}{x:Str}{p pos:Pos}(h:LS X.prog X.w X.K X.mg X.base C ps j sp)(hr:Fr k X.A)(hg:Gl X x)(hm:X.mg x=some (.ref C))(hk:j+1<=k:=by decide)(hdb:(x==("__debug__":Str))=false:=by decide) :
 PE X (.Call (.Name x p) [] [] pos) (iI C sp [] E0 jG):=by
 obtain⟨f,fd,h1,h2,h3⟩:=h.ex;exact dG h1 h3 (hr.mono hk) hg hm h2 .nil dI hdb
noncomputable def jH(z:Str)(te:TE):TE:=fun σ H Q=>te σ H fun v H1=>∃i:Int,v=.int i/\i.natAbs.log2<1920/\Q (.str (Str.empty++z++Str.ofString (toString i))) H1
theorem DG{z:Str}{e:Expr}{te:TE}{pos p1 p2:Pos}{kd:Nat}(he:PE X e te)(hz:z.length<=1000:=by decide +kernel):PE X (.JoinedStr [.Constant (.str z) kd p1,.FormattedValue e (-1) none p2] pos) (jH z te):=by
 intro Ae s σ H Q I hw;refine wpAny_JoinedStr ?_;show wpAny _ _ (eval (.Constant (.str z) kd p1) X.env) _ _ s;refine C8 (Bg Ae s σ H (fun v H1=>v=.str z/\H1=H) I ⟨rfl,rfl⟩) fun u s1 _z=>?_;obtain⟨v,H1,I1,r,ev,e1⟩:=_z;subst ev e1;obtain⟨t,rfl⟩:=r;refine⟨z,t,rfl,?_,?_⟩
 . rw[strLen_append,sizeLine_eq];show 0+_<=_;omega
 show wpAny _ _ (eval (.FormattedValue e (-1) none p2) X.env) _ _ s1;refine wpAny_FormattedValue_plain (C8 (he Ae s1 σ H1 _ I1 hw) fun u s2 _z=>?_);obtain⟨v,H2,I2,r,i,ev,hi,q⟩:=_z;subst ev;obtain⟨t',rfl⟩:=r;refine PySem.wpAny_formatField_int hi ?_;have hl:=int_text_length_le (k:=1920) (by decide) hi;have hl2:(Str.ofString (toString i)).length=(toString i).length:=PySem.ofString_length ..;refine⟨Str.ofString (toString i),_,rfl,?_,?_⟩
 . rw[strLen_append,strLen_append,sizeLine_eq];show 0+_+_<=_;omega
 refine⟨?_,.str (Str.empty++z++Str.ofString (toString i)),H2,(I2.tok _).tok _,⟨_,rfl⟩,q⟩;rw[strLen_append,strLen_append,sizeLine_eq];show 0+_+_<=_;omega
end
end L2
namespace Hb
open PySem L2 PySem.Builtin.Str
theorem No{x y:Str}(h:x.cps.toList=y.cps.toList):x=y:=Str.ext' (Array.toList_inj.mp h)
theorem Cp(x y:Str):(x++y).cps.toList=x.cps.toList++y.cps.toList:=by rw[qo4,qp8]
theorem Ep(x:Str):x.cps.toList.length=x.length:=by simp[Str.length]
theorem Uo(z:Str){a b:Nat}(hab:a<=b)(hb:b<=z.length):(CT z (some (a:Int)) (some (b:Int))).cps.toList=(z.cps.toList.drop a).take (b-a):=by
 unfold CT;split
 . rename_i h
   rw[StrLaws.strSliceIndices_plain hab hb,qa1,qg9]at h;have h:=eq_of_beq h;have e1:a=0:=O9m
   rw[e1,qn0,qf2 (by rw[Ep];omega)]
 . show(List.toArray _).toList=_;rw[List.toList_toArray];exact StrLaws.sliced_plain z hab hb
theorem cS(z:Str){a:Nat}(ha:a<=z.length):(CT z (some (a:Int)) none).cps.toList=z.cps.toList.drop a:=by
 have e:CT z (some (a:Int)) none=CT z (some (a:Int)) (some (z.length:Int)):=by
  have:strSliceIndices (some (a:Int)) none 1 z.length=strSliceIndices (some (a:Int)) (some (z.length:Int)) 1 z.length:=by
   have h2:¬((z.length:Int)<0):=O9m
   have e2:max (0:Int) (min (z.length:Int) (z.length:Int))=z.length:=O9m
   simp only[strSliceIndices,h2,if_false,e2,show((1:Int) > 0)=True from by simp,if_true]
  unfold CT;rw[this]
 rw[e,Uo z ha (qa9 _),qf2 (by rw[qh4,Ep];omega)]
theorem Z6(y r:Str):Txt.startswith (y++r) y=true:=by
 unfold Txt.startswith;rw[StrLaws.subAt_eq,qn0,Cp,←Ep y,List.take_left,beq_self_eq_true,Bool.and_true];refine qe9 ?_;rw[←Ep (y++r),Cp,qb8];omega
theorem Ov{z y:Str}{c d:Nat}{r s:List Nat}(hz:z.cps.toList=c::r)(hy:y.cps.toList=d::s)(h:c≠d):Txt.startswith z y=false:=by
 cases e:Txt.startswith z y with
 | false=>rfl
 | true =>
   unfold Txt.startswith at e;rw[StrLaws.subAt_eq,qn0,hz,hy]at e;have hl:y.length=s.length+1:=by rw[←Ep,hy];rfl
   rw[hl,qp5]at e;have:=eq_of_beq (Bool.and_eq_true_iff.mp e).2;exact absurd (List.cons.inj this).1 h
theorem FF:Str.ofString " "=⟨#[32]⟩:=by decide +kernel
theorem AI{c:Nat}:∀{n t:List Nat},c ∉ n->(n++c::t).dropWhile (· != c)=c::t
 | [],t,_=>by simp[List.dropWhile]
 | a::n,t,h=>by
   have h1:a≠c:=fun e=>h (by rw[e];simp);have h2:c ∉ n:=fun e=>h (by simp[e]);rw[List.cons_append,List.dropWhile_cons];simp[h1,AI h2]
theorem BB{n t:Str}(hn:32 ∉ n.cps.toList):Yk (n++Str.ofString " "++t) (Str.ofString " ")=[n,Str.ofString " ",t]:=by
 rw[FF];have ex:(n++(⟨#[32]⟩:Str)++t).cps.toList=n.cps.toList++32::t.cps.toList:=by rw[Cp,Cp];simp
 generalize n++(⟨#[32]⟩:Str)++t=x at ex
 have hne:(occurrences x ⟨#[32]⟩ 0 x.length 1).isEmpty=false:=by
  rw[PyProof.Rows.empty_one];have:(32:Nat)∈x.cps.toList:=by rw[ex];simp
  simp[this]
 have e3:=eq_of_beq (PyProof.Rows.from_first_some (x:=x) (y:=⟨#[32]⟩) (z:=⟨#[32]⟩) rfl rfl hne);have e4:=StrLaws.partition_sum x ⟨#[32]⟩;have e5:=congrArg (fun s:Str=>s.cps.toList) e3;simp only[Cp]at e5;rw[ex,AI hn]at e5
 have hp:(Txt.partition x ⟨#[32]⟩).2.2=t:=by
  apply No;simpa using e5
 unfold Yk;cases ho:occurrences x ⟨#[32]⟩ 0 x.length 1 with
 | nil=>rw[ho]at hne;simp at hne
 | cons i l =>
   have ep:Txt.partition x ⟨#[32]⟩=(strSub x 0 i,⟨#[32]⟩,strSub x (i+(⟨#[32]⟩:Str).length) x.length):=by
    unfold Txt.partition;rw[ho]
   rw[ep]at hp e4
   replace hp:strSub x (i+(⟨#[32]⟩:Str).length) x.length=t:=hp
   have e6:=congrArg (fun s:Str=>s.cps.toList) e4;simp only[Cp]at e6;rw[hp,ex]at e6
   have e7:(strSub x 0 i).cps.toList=n.cps.toList:=by
    have:(strSub x 0 i).cps.toList++(32::t.cps.toList)=n.cps.toList++32::t.cps.toList:=by simpa using e6
    exact List.append_cancel_right this
   show [strSub x 0 i,⟨#[32]⟩,strSub x (i+(⟨#[32]⟩:Str).length) x.length]=_;rw[No e7,hp]
theorem Cz(x y:Str):(x++y).length=x.length+y.length:=by rw[←Ep,Cp,qb8,Ep,Ep]
theorem aX(x:Str):Str.empty++x=x:=No (by rw[Cp];rfl)
theorem Ue(x y z:Str):x++y++z=x++(y++z):=No (by simp only[Cp,qn2])
noncomputable abbrev Pu:Str:=Str.ofString "abcdefghijklmnopqrstuvwxyz"
theorem lN:∀c∈Pu.cps.toList,97<=c/\c<=122:=by decide +kernel
theorem Xs:Pu.length=26:=by decide +kernel
structure Th(x:Str):Prop where
 le:x.length<=3
 az:∀c∈x.cps.toList,97<=c/\c<=122
theorem aI{a d:Nat}(ha:a<20)(hd:d<4):Th (CT Pu (some (a:Int)) (some ((a+d:Nat):Int))):=by
 have e:=Uo Pu (a:=a) (b:=a+d) O9m (by rw[Xs];omega);refine⟨?_,fun c hc=>?_⟩
 . rw[←Ep,e,qb5];omega
 . rw[e]at hc;exact lN c (List.mem_of_mem_drop (qf3 hc))
noncomputable def cC(n:Nat):Str:=⟨#[97+n%26]⟩
noncomputable def gT(A B:Str)(s:Nat)(nx:Nat->Str)(k:Nat):Str:=A++cC (k*5+s)++nx k++B
noncomputable def i5(A B:Str)(s:Nat)(nx:Nat->Str)(many:Nat):List Str:=(List.range many).map (gT A B s nx)
theorem jV{A B:Str}{s:Nat}{nx:Nat->Str}(hA:Th A)(hB:Th B)(hx:∀k,(nx k).length<=1/\∀c∈(nx k).cps.toList,97<=c/\c<=122)(k:Nat):B2 (gT A B s nx k):=by
 have e:(gT A B s nx k).cps.toList=A.cps.toList++[97+(k*5+s)%26]++(nx k).cps.toList++B.cps.toList:=by unfold gT;rw[Cp,Cp,Cp];rfl
 have el:(gT A B s nx k).length=A.length+1+(nx k).length+B.length:=by
  rw[←Ep,e];simp only[qb8,Ep];rfl
 have:=hA.le;have:=hB.le;have:=(hx k).1;refine⟨O9m,O9m,fun c hc=>?_⟩;rw[e]at hc;simp only[qd5,qd1]at hc;rcases hc with((h | h) | h) | h
 . exact hA.az c h
 . have:=Nat.mod_lt (k*5+s) (by decide:0<26);omega
 . exact(hx k).2 c h
 . exact hB.az c h
theorem GS{A B:Str}{s:Nat}{nx:Nat->Str}{k l:Nat}(hk:k<26)(hl:l<26)(h:gT A B s nx k=gT A B s nx l):k=l:=by
 have e:∀k,(gT A B s nx k).cps.toList=A.cps.toList++(97+(k*5+s)%26)::((nx k).cps.toList++B.cps.toList):=fun k=>by unfold gT;rw[Cp,Cp,Cp];simp[cC]
 have h1:=congrArg (fun x:Str=>x.cps.toList) h;simp only[e]at h1;have h2:=(List.cons.inj (List.append_cancel_left h1)).1;omega
theorem Yu(A B:Str)(s:Nat)(nx:Nat->Str)(many:Nat):(i5 A B s nx many).length=many:=by unfold i5;rw[qa1,qg9]
theorem GR{A B:Str}{s:Nat}{nx:Nat->Str}{many:Nat}(hA:Th A)(hB:Th B)(hx:∀k,(nx k).length<=1/\∀c∈(nx k).cps.toList,97<=c/\c<=122):∀x∈i5 A B s nx many,B2 x:=fun x h=>by
 obtain⟨k,_,rfl⟩:=qe2.mp h;exact jV hA hB hx k
theorem gS{A B:Str}{s:Nat}{nx:Nat->Str}{many:Nat}(hm:many<=26):(i5 A B s nx many).Nodup:=by
 unfold i5;refine qk6.mpr (List.Pairwise.imp_of_mem (fun {a b} ha hb hab e=>?_) List.pairwise_lt_range);have:=qd7.mp ha;have:=qd7.mp hb;have:=GS O9m O9m e;omega
noncomputable abbrev wT(s:String):Str:=Str.ofString s
structure Mn(w:Str)(a b:Str):Prop where
 ea:B2 a
 eb:B2 b
 eq:w=Str.join (wT "=") [a,b]
theorem Mn.len{w a b:Str}(h:Mn w a b):w.length<=17:=by
 rw[h.eq];show(a++wT "="++b).length<=17;rw[Cz,Cz];have:=h.ea.le;have:=h.eb.le;have:(wT "=").length=1:=by decide +kernel
 omega
theorem Mn.split{w a b:Str}(h:Mn w a b):Txt.split w (wT "=")=[a,b]:=by
 rw[h.eq];refine Tx.split_join (c0:=61) (ys:=[]) (by decide +kernel) (by decide +kernel) (by simp) fun p hp hc=>?_;simp only[qb7,qe8,or_false]at hp;rcases hp with rfl | rfl
 . have:=h.ea.az 61 hc;omega
 . have:=h.eb.az 61 hc;omega
theorem Mn.noblank{w a b:Str}(h:Mn w a b):32 ∉ w.cps.toList:=fun hc=>by
 rw[h.eq]at hc;have e:(wT "=").cps.toList=[61]:=by decide +kernel
 have hc:32∈(a++wT "="++b).cps.toList:=hc;rw[Cp,Cp,e]at hc;simp only[qd5,qd1]at hc;rcases hc with(h1 | h1) | h1
 . have:=h.ea.az 32 h1;omega
 . omega
 . have:=h.eb.az 32 h1;omega
theorem B2.noblank{x:Str}(h:B2 x):32 ∉ x.cps.toList:=fun hc=>by have:=h.az 32 hc;omega
inductive Hv:List Str->Prop
 | show {n:Str}:B2 n->Hv [wT "show",n]
 | core {n m:Str}:B2 n->B2 m->Hv [wT "core",n,m]
 | glue {n m:Str}{ps:List Str}:B2 n->B2 m->1<=ps.length->ps.length<=10->(∀p∈ps,∃a b,Mn p a b)->Hv (wT "glue"::n::m::ps)
theorem Hv.noblank{ws:List Str}(h:Hv ws):∀w∈ws,32 ∉ w.cps.toList:=fun w hw=>by
 have e1:32 ∉ (wT "show").cps.toList:=by decide +kernel
 have e2:32 ∉ (wT "core").cps.toList:=by decide +kernel
 have e3:32 ∉ (wT "glue").cps.toList:=by decide +kernel
 cases h with
 | «show» a=>simp only[qb7,qe8,or_false]at hw;rcases hw with rfl | rfl;exact e1;exact a.noblank
 | core a b=>simp only[qb7,qe8,or_false]at hw;rcases hw with rfl | rfl | rfl;exact e2;exact a.noblank;exact b.noblank
 | glue a b _ _ c =>
   simp only[qb7]at hw;rcases hw with rfl | rfl | rfl | hw
   . exact e3
   . exact a.noblank
   . exact b.noblank
   . obtain⟨x,y,z⟩:=c w hw;exact z.noblank
theorem Hv.ne{ws:List Str}(h:Hv ws):ws≠[]:=by cases h<;>simp
theorem Hv.split{ws:List Str}(h:Hv ws):Txt.split (Str.join (wT " ") ws) (wT " ")=ws :=
 Tx.split_join (c0:=32) (ys:=[]) (by decide +kernel) (by decide +kernel) h.ne h.noblank
theorem Pi{w:Str}{c:Nat}{r:List Nat}(e:w.cps.toList=c::r)(sep:Str):∀ws:List Str,∃r',(Str.join sep (w::ws)).cps.toList=c::r'
 | []=>⟨r,e⟩
 | z::ws=>by
   refine⟨r++sep.cps.toList++(Str.join sep (z::ws)).cps.toList,?_⟩;show(w++sep++Str.join sep (z::ws)).cps.toList=_;rw[Cp,Cp,e];rfl
theorem Hv.starts{ws:List Str}(h:Hv ws):Txt.startswith (Str.join (wT " ") ws) (wT "keep ")=false:=by
 have ek:(wT "keep ").cps.toList=[107,101,101,112,32]:=by decide +kernel
 cases h with
 | «show» a =>
   obtain⟨r,hr⟩:=Pi (show(wT "show").cps.toList=115::[104,111,119] by decide +kernel) (wT " ") [_];exact Ov hr ek (by decide)
 | core a b =>
   obtain⟨r,hr⟩:=Pi (show(wT "core").cps.toList=99::[111,114,101] by decide +kernel) (wT " ") [_,_];exact Ov hr ek (by decide)
 | glue a b _ _ c =>
   obtain⟨r,hr⟩:=Pi (show(wT "glue").cps.toList=103::[108,117,101] by decide +kernel) (wT " ") (_::_::_);exact Ov hr ek (by decide)
theorem Hv.len{ws:List Str}(h:Hv ws):(Str.join (wT " ") ws).length<=400:=by
 have e1:(wT "show").length=4:=by decide +kernel
 have e2:(wT "core").length=4:=by decide +kernel
 have e3:(wT "glue").length=4:=by decide +kernel
 have eb:(Str.ofString " ").length=1:=by decide +kernel
 have key:∀(l:List Str),l.length<=13->(∀x∈l,x.length<=17)->(Str.join (wT " ") l).length<=400:=fun l hl hx=>by
  have h1:=Jg (Str.ofString " ") l;have h2:=Iq (ys:=l) (B:=17) hx;rw[eb]at h1;show(Str.join (Str.ofString " ") l).length<=400;omega
 cases h with
 | «show» a=>refine key _ (by simp) fun x hx=>?_;have:=a.le;simp only[qb7,qe8,or_false]at hx;rcases hx with rfl | rfl<;>omega
 | core a b=>refine key _ (by simp) fun x hx=>?_;have:=a.le;have:=b.le;simp only[qb7,qe8,or_false]at hx;rcases hx with rfl | rfl | rfl<;>omega
 | glue a b _ hl c =>
   refine key _ (by simp;omega) fun x hx=>?_;have:=a.le;have:=b.le;simp only[qb7]at hx;rcases hx with rfl | rfl | rfl | hx
   . omega
   . omega
   . omega
   . obtain⟨y,z,q⟩:=c x hx;exact q.len
inductive Hx:Str->List Str->Prop
 | keep {n t:Str}:B2 n->t.length<=3000->Hx (wT "keep "++(n++wT " "++t)) [wT "keep",n,t]
 | other {ws:List Str}:Hv ws->Hx (Str.join (wT " ") ws) ws
inductive aP:List Str->Prop
 | keep {n t:Str}:B2 n->aP [wT "keep",n,t]
 | other {ws:List Str}:Hv ws->aP ws
end Hb
namespace L2
open PySem PySem.Spec PyProof.Rows
inductive DA where
 | d (d:D) | dic
noncomputable def SV(K:W.Frag)(H:Hp)(v:V):DA->Prop
 | .d d=>Rep K H v d
 | .dic=>∃a Az,v=.ref a/\Rd H a (.dK Az)
noncomputable def vY(n:String):DA->Bool
 | .d d=>Wv n d
 | .dic=>n=="dict"
theorem cD{X:Cx}{K:W.Frag}(hK:X.K=K:=by rfl):E9 X (.builtin "isinstance") (fun xs H Q=>∃x n d,xs=[x,.ty n]/\(n="int"\/n="bool"\/n="str"\/n="tuple"\/n="list"\/n="dict")/\SV K H x d/\Q (.bl (vY n d)) H):=by
 subst hK;intro Ae s σ H xs us Q I r h;obtain⟨x,n,d,e,hn,hx,q⟩:=h;cases d with
 | d d=>exact Lk Ae s σ H xs us Q I r ⟨x,n,d,e,hn,hx,q⟩
 | dic =>
   subst e;obtain⟨a,Az,rfl,hr⟩:=hx;obtain⟨u,v,rfl,rx,rt⟩:=X2 r;cases rt;cases rx;obtain⟨z,hd,vs,rel,o,es,ep,ho,ex,_⟩:=Sw I.hok hr;rcases hn with rfl | rfl | rfl | rfl | rfl | rfl
   . exact PySem.IsiPair.dict_int ho ex.1 ⟨.bl false,H,I.tok _,rfl,q⟩
   . exact PySem.IsiPair.dict_bool ho ex.1 ⟨.bl false,H,I.tok _,rfl,q⟩
   . exact PySem.IsiPair.dict_str ho ex.1 ⟨.bl false,H,I.tok _,rfl,q⟩
   . exact PySem.IsiPair.dict_tuple ho ex.1 ⟨.bl false,H,I.tok _,rfl,q⟩
   . exact PySem.IsiPair.dict_list ho ex.1 ⟨.bl false,H,I.tok _,rfl,q⟩
   . exact PySem.IsiPair.dict_dict ho ex.1 ⟨.bl true,H,I,rfl,q⟩
mutual
def fQ:D->PyData
 | .non=>.none
 | .bl b=>.bool b
 | .int i=>.int i
 | .str x=>.str x
 | .tup ds=>.tuple (toPDs ds)
 | .lst ds=>.list (toPDs ds)
def toPDs:List D->List PyData
 | []=>[]
 | d::ds=>fQ d::toPDs ds
end
section
variable{X:Cx}{Ae:Ba}{σ:St}{H:Hp}{s:Shared}
mutual
theorem cX(I:Bd X Ae σ H s):∀(d:D) {v:V}{u:Value},Rep X.K H v d->RelV v u->∃as,Reads s.heap u (fQ d) as
 | .non,v,u,h,r=>by
   cases (show v=.non from h);obtain rfl:u=.none:=r;exact⟨_,.none⟩
 | .bl b,v,u,h,r=>by
   cases (show v=.bl b from h);obtain rfl:u=.bool b:=r;exact⟨_,.bool b⟩
 | .int i,v,u,h,r=>by
   cases (show v=.int i from h);obtain⟨t,rfl⟩:=r;exact⟨_,.int i t⟩
 | .str x,v,u,h,r=>by
   cases (show v=.str x from h);obtain⟨t,rfl⟩:=r;exact⟨_,.str x t⟩
 | .tup ds,v,u,h,r=>by
   obtain⟨a,vs,rfl,hq,hr⟩:=h;obtain rfl:u=.ref a:=r;obtain⟨its,rv,p,hz⟩:=I.tuple hq;obtain⟨o,ho,hc,n,hd⟩:=(show s.heap.IsTuple a its.toArray from p)
   obtain⟨as,ra⟩:=readsAll_of I ds hr rv;exact⟨as,.tuple ho hc hd (by simpa using ra)⟩
 | .lst ds,v,u,h,r=>by
   obtain⟨a,vs,rfl,hq,hr⟩:=h;obtain rfl:u=.ref a:=r;obtain⟨its,rv,p,hz⟩:=I.list hq;obtain⟨o,ho,hc,n,hd⟩:=p.isList;obtain⟨as,ra⟩:=readsAll_of I ds hr rv;exact⟨a::as,.list ho hc hd (by simpa using ra)⟩
theorem readsAll_of(I:Bd X Ae σ H s):∀(ds:List D) {vs:List V}{us:List Value},Reps X.K H vs ds->Vals vs us->∃as,ReadsAll s.heap us (toPDs ds) as
 | [],vs,us,h,r=>by
   cases (show vs=[] from h);cases r;exact⟨_,.nil⟩
 | d::ds,vs,us,h,r=>by
   obtain⟨v,q,rfl,hv,hq⟩:=h;cases r with
   | cons r1 r2 =>
     obtain⟨as,ra⟩:=cX I d hv r1;obtain⟨bs,rb⟩:=readsAll_of I ds hq r2;exact⟨_,.cons ra rb⟩
end
end
mutual
theorem W2:∀d:D,(fQ d).hasDict=false
 | .non=>rfl
 | .bl _=>rfl
 | .int _=>rfl
 | .str _=>rfl
 | .tup ds=>hasDict_toPDs ds
 | .lst ds=>hasDict_toPDs ds
theorem hasDict_toPDs:∀ds:List D,PyData.hasDictAll (toPDs ds)=false
 | []=>rfl
 | d::ds=>by
   show((fQ d).hasDict || PyData.hasDictAll (toPDs ds))=false;rw[W2 d,hasDict_toPDs ds];rfl
end
end L2
namespace L2
open PySem PySem.Spec PyProof.Rows
inductive DE where
 | d (d:D) | nul
inductive TH where
 | one (e:DE) | rows (es:List DE)
noncomputable def lP(K:W.Frag)(H:Hp)(v:V):DE->Prop
 | .d d=>Rep K H v d
 | .nul=>∃a,v=.ref a/\Rd H a (.dK [])
noncomputable def iZ(K:W.Frag)(H:Hp):List V->List DE->Prop
 | [],[]=>True
 | v::vs,e::es=>lP K H v e/\iZ K H vs es
 | _,_=>False
noncomputable def sV(K:W.Frag)(H:Hp)(v:V):TH->Prop
 | .one e=>lP K H v e
 | .rows es=>∃a vs,v=.ref a/\SqL K H a vs/\iZ K H vs es
noncomputable def UA(n:String):DE->Bool
 | .d d=>Wv n d
 | .nul=>n=="dict"
noncomputable def uA(n:String):TH->Bool
 | .one e=>UA n e
 | .rows _=>n=="list"
section
variable{X:Cx}{K:W.Frag}
theorem CC(hK:X.K=K:=by rfl):E9 X (.builtin "isinstance") (fun xs H Q=>∃x n t,xs=[x,.ty n]/\(n="int"\/n="bool"\/n="str"\/n="tuple"\/n="list"\/n="dict")/\sV K H x t/\Q (.bl (uA n t)) H):=by
 subst hK;intro Ae s σ H xs us Q I r h;obtain⟨x,n,t,e,hn,hx,q⟩:=h
 match t,hx,q with
 | .one (.d d),hx,q=>exact Lk Ae s σ H xs us Q I r ⟨x,n,d,e,hn,hx,q⟩
 | .one .nul,hx,q =>
   obtain⟨a,e2,hr⟩:=hx;exact cD (K:=X.K) rfl Ae s σ H xs us Q I r ⟨x,n,.dic,e,hn,⟨a,[],e2,hr⟩,q⟩
 | .rows es,hx,q =>
   subst e;obtain⟨a,vs,rfl,hq,_⟩:=hx;obtain⟨u,v,rfl,rx,rt⟩:=X2 r;cases rt;cases rx;obtain⟨its,_,⟨o,_,e,c,_⟩,_⟩:=I.list hq;have k:=DX (K:=X.K) (d:=.lst []) hn;exact qk3 PySem.W.kitx_list I.kIn ⟨o,e,c⟩ k (fun z=>nomatch z) fun tk=>⟨.bl (n=="list"),H,I.tok tk,rfl,q⟩
end
section
variable{X:Cx}{Ae:Ba}{σ:St}{H:Hp}{s:Shared}
end
structure Fin(B k:Nat)(p:PyData):Prop where
 sh:p.showable=true
 le:p.shown.length<=B
 dp:p.depth<=k
section
variable{prog:Program}{w:World}{A:Around}{E:Value->Shared->Prop}
end
section
variable{prog:Program}{w:World}{A:Around}{R:Result->Shared->Prop}
end
section
variable{prog:Program}{w:World}{A:Around}{R:Result->Shared->Prop}
end
section
variable{P:Program}{w:World}{K:W.Frag}{mg:Str->Option Value}{base:Heap}{ds:List Value}
end
end L2
namespace L2
open PySem PySem.Spec PyProof.Rows PySem.W
section
variable{prog:Program}{w:World}{A:Around}{E:Value->Shared->Prop}{h:Heap}{g:Array GenState}{d:Drawn}{t:Nat}{os:OsState}{a C dx:Addr}{o:Obj}{K:Frag}{cd:ClassData}{mA:Str->Option Value}{v:Value}{name:Str}
end
end L2
namespace L2
open PySem PySem.Spec PyProof.Rows PySem.W PySem.Builtin PySem.Builtin.ObjectAttr
section
variable{prog:Program}{w:World}{A:Around}{K:Frag}{s:Shared}{x C D:Addr}{R:Result->Shared->Prop}
end
section
variable{prog:Program}{w:World}{A:Around}{E:Value->Shared->Prop}{K:Frag}{s:Shared}{x C:Addr}
end
end L2
namespace L2
open PySem PySem.Spec PyProof.Rows PySem.W
section
variable{prog:Program}{w:World}{A:Around}{E:Value->Shared->Prop}{h:Heap}{g:Array GenState}{d:Drawn}{t:Nat}{os:OsState}{K:Frag}{C D f:Addr}{rest:List Value}
end
section
variable{X:Cx}{K:Frag}
end
section
variable{M:Model}{A:Around}{E:Value->Shared->Prop}{env:Env}
end
section
variable{P:Program}{w:World}{K:W.Frag}{mg:Str->Option Value}{base:Heap}{N:List Str}{qual:Str}{scope:Scope}{f:Addr}{cd:Value}{A:Around}{outer:List Env}{s:Shared}{H:Hp}{E:XK}
end
section
variable{prog:Program}{w:World}{A:Around}{E:Value->Shared->Prop}{h:Heap}{g:Array GenState}{d:Drawn}{t:Nat}{os:OsState}{a C dx:Addr}{o:Obj}{K:Frag}{mA:Str->Option Value}{v:Value}{name:Str}
end
section
variable{X:Cx}{K:Frag}
end
section
variable{X:Cx}{K:Frag}
end
end L2
namespace Hb
open PySem L2
end Hb
namespace L2
open PySem PySem.Spec PyProof.Rows PySem.W
section
variable{X:Cx}{J:XJ}{j k:Nat}{C:Addr}{ps:List Str}{sp:Sp}{m:Str}{pos apos:Pos}{e o:Expr}{es:List Expr}{ta:TE}{t:TA}
end
end L2
namespace L2
open PySem PySem.Spec PyProof.Rows
structure UT(X:Cx)(e:Expr)(t:TE):Prop where
 h:PE X e t
theorem GI{X:Cx}{K:W.Frag}{sl:Expr}{es:List Expr}{k:Nat}{p q:Pos}{ta:TA}{OX:TE}(ha:uU X es ta)(hsl:PE X sl OX)(wI:aQ sl)(hK:X.K=K:=by rfl) :
 UT X (.Subscript (.Tuple es k p) sl q) (mR (gC K) (MP ta) OX):=by
 subst hK;exact⟨Ap Bc (Bs ha.h) hsl wI⟩
end L2
namespace Hb
open PySem L2
theorem at0(x:V)(r:List V):Io (x::r) 0=some x:=Ca (j:=0) rfl
theorem iX(x y:V)(r:List V):Io (x::y::r) 1=some y:=Ca (j:=1) rfl
section
variable(K:W.Frag)
end
end Hb
namespace Hb
noncomputable def VX(n:Int):Bool:=(List.range (n-2).toNat).all fun k=>decide (¬n%(2+(k:Int))=0)
structure sW(p:Int):Prop where
 two:2<=p
 free:∀k:Int,2<=k->k<p->¬p%k=0
noncomputable def prs(m:Nat):List Int:=((List.range m).map fun(i:Nat)=>2+(i:Int)).filter VX
noncomputable def dvs(n:Int)(m:Nat):List Int:=((List.range m).map fun(i:Nat)=>2+(i:Int)).filter fun k=>decide (n%k=0)
end Hb
namespace Hb
open PySem L2
theorem Jc{xs:LLInt}(h:Br xs):Tj xs:=fun x hx=>by
 obtain⟨k,hk⟩:=qc6 hx;exact(h k x hk).cnt
theorem Rg{xs:LLInt}{q:List Int}(h:Br xs)(hf:ID xs q):Br (xs++[q]):=fun k p hk=>by
 by_cases hlt:k<xs.length
 . rw[qf8 hlt]at hk;rw[qj8 (by omega)];exact h k p hk
 . have hk':k<(xs++[q]).length:=(qa2.mp hk).1;have e:k=xs.length:=by simp at hk';omega
   subst e;simp at hk;subst hk;rw[qj8 (qa9 _),qb4];exact hf
theorem W8{xs:LLInt}{f:Int}(h0:0<=f)(h1:f<(xs.length:Int)):xs[f.toNat]?=some (xs.getD f.toNat []):=by
 have:f.toNat<xs.length:=O9m
 rw[qa4,qa0 this];rfl
theorem m5{xs:LLInt}{q:List Int}(h:E7 xs (tI q)=true):∀f∈q,0<=f/\f<(xs.length:Int)/\By (xs.getD f.toNat []).length=By q.length-1:=by
 intro f hf;have h':E7 xs (.tup (Bx q))=true:=h;rw[Du]at h';simp only[qc9]at h';have h2:=qd2.mp h'.1.2 (.int f) (qe2.mpr ⟨f,hf,rfl⟩);have h3:(decide (0<=f)&&decide (f<(xs.length:Int))&&decide (By (xs.getD f.toNat []).length=By (Bx q).length-1))=true:=h2;simp only[qc9,qh5]at h3;have hl:(Bx q).length=q.length:=by unfold Bx;rw[qa1]
 rw[hl]at h3;exact⟨h3.1.1,h3.1.2,h3.2⟩
theorem ES{xs:LLInt}{q:List Int}(h:E7 xs (tI q)=true):q.length=0\/q.length=2\/q.length=3\/q.length=4:=by
 have h':E7 xs (.tup (Bx q))=true:=h;rw[Du]at h';simp only[qc9]at h';have h1:=h'.1.1;have hl:(Bx q).length=q.length:=by unfold Bx;rw[qa1]
 rw[hl]at h1;unfold Nh at h1;simp only[qm2,qq8]at h1;omega
theorem GU(q:List Int):(Bx q).map cO=q:=by
 unfold Bx;rw[qg6];exact(qj5 fun _ _=>rfl).trans (List.map_id q)
theorem AH{xs:LLInt}{q:List Int}(hc:Tj xs)(h:E7 xs (tI q)=true):ID xs q:=by
 have hfs:=m5 h;have hcn:=ES h
 have kW:∀f∈q,(xs.getD f.toNat []).length-1+1=q.length-1:=fun f hf=>by
  obtain⟨h0,h1,h2⟩:=hfs f hf;have hq:1<=q.length:=List.length_pos_of_mem hf;rw[C6,C6]at h2;omega
 refine⟨hcn,fun f hf=>(hfs f hf).1,fun f hf=>?_,fun h3 i j f g r s hij hj hi hr hs=>?_⟩
 . obtain⟨h0,h1,_⟩:=hfs f hf;exact⟨_,W8 h0 h1,kW f hf⟩
 . have hf:=qa8 hj;have hg:=qa8 hi;obtain⟨f0,f1,_⟩:=hfs f hf;obtain⟨g0,g1,_⟩:=hfs g hg;have er:r=xs.getD f.toNat []:=by rw[W8 f0 f1]at hr;exact(qb6 hr).symm
   have es:s=xs.getD g.toNat []:=by rw[W8 g0 g1]at hs;exact(qb6 hs).symm
   have h':E7 xs (.tup (Bx q))=true:=h;rw[Du]at h';simp only[qc9,qm2,qh5,GU]at h';have hl:(Bx q).length=q.length:=by unfold Bx;rw[qa1]
   have ha:E1 xs q=true:=by
    rcases h'.2 with z | z
    . rw[hl,C6]at z;omega
    . exact z
   have hjl:j<q.length:=(qa2.mp hj).1;have h4:=qd2.mp (qd2.mp ha j (qd7.mpr hjl)) i (qd7.mpr hij);unfold agreeAt at h4;have wO:q.getD j 0=f:=by rw[qa4,hj];rfl
   have hid:q.getD i 0=g:=by rw[qa4,hi];rfl
   rw[wO,hid,←er,←es,qh5]at h4;have l1:=kW f hf;have l2:=kW g hg;rw[←er]at l1;rw[←es]at l2;have hr':r.length=0\/r.length=2\/r.length=3\/r.length=4:=by rw[er];exact hc.at f0 f1
   have hs':s.length=0\/s.length=2\/s.length=3\/s.length=4:=by rw[es];exact hc.at g0 g1
   have i1:i<r.length:=O9m
   have j1:j-1<s.length:=O9m
   rw[qa0 i1,qa0 j1];rw[qa4,qa4,qa0 i1,qa0 j1]at h4;exact congrArg some h4
noncomputable def oM(xs:LLInt):DE->Bool
 | .d d=>E7 xs d
 | .nul=>false
noncomputable def Mut(H:Hp)(c:Addr):Prop:=(∃us,H c=some (.lst us))\/∃Az,H c=some (.dK Az)
section
variable{K:W.Frag}{CG:Addr}{H H':Hp}{g pc sh ed en:Addr}{p:Int}{xs:LLInt}{es ss:List Ms}{bs:Ms}
end
section
variable{H H' H0:Hp}{Z W:Addr->Prop}
end
section
variable{K:W.Frag}{CG:Addr}{H H':Hp}{g pc sh ed en:Addr}{p:Int}{xs:LLInt}{es ss:List Ms}{bs:Ms}{W:Addr->Prop}
end
noncomputable def meetsB(xs:LLInt)(fs:List Int)(f:Int):Bool:=decide ((xs.getD f.toNat []).length=0) || (List.range fs.length).all fun i=>decide ((xs.getD f.toNat []).getD i 0=(xs.getD (fs.getD i 0).toNat []).getD (fs.length-1) 0)
section
variable(K:W.Frag)(CG:Addr)
noncomputable def Uh:Sp:=fun vs H Q _=>∃(a:Addr) (th:V) (e:DE) (xs:LLInt),vs=[.ref a,th]/\LT K H (.ref a) xs/\Tj xs/\xs.length<=1000/\lP K H th e/\∀H',Same H H'->Q (.bl (oM xs e)) H'
noncomputable def Oy:Sp:=fun vs H Q _=>∃(a:Addr) (v:V) (xs:LLInt) (fs:List Int) (f:Int),vs=[.ref a,v,.int f]/\LT K H (.ref a) xs/\TI K H v fs/\0<=f/\f<(xs.length:Int)/\(∀g∈fs,0<=g/\g<(xs.length:Int))/\fs.length<=4 ∧
 ((xs.getD f.toNat []).length=0\/(fs.length<=(xs.getD f.toNat []).length/\∀g∈fs,fs.length<=(xs.getD g.toNat []).length))/\Q (.bl (meetsB xs fs f)) H
end
theorem meets_agree{xs:LLInt}{p:List Int}{j:Nat}(hj:j<p.length):meetsB xs (p.take j) (p.getD j 0)=(decide ((xs.getD (p.getD j 0).toNat []).length=0) || (List.range j).all fun i=>agreeAt xs p j i):=by
 unfold meetsB;have hl:(p.take j).length=j:=by rw[qb5];omega
 rw[hl]
 congr 1
 rw[qh2,qd2,qd2];have e:∀i,i<j->(p.take j).getD i 0=p.getD i 0:=fun i hi=>by rw[qa4,qa4,qj1 hi]
 constructor
 . intro h i hi;have:=h i hi;rw[e i (qd7.mp hi)]at this;exact this
 . intro h i hi;rw[e i (qd7.mp hi)];exact h i hi
theorem bH{xs:LLInt}{p:List Int}(hC:Tj xs)(hall:∀f∈p,0<=f/\f<(xs.length:Int)/\By (xs.getD f.toNat []).length+1=By p.length):(∀j,j<p.length->meetsB xs (p.take j) (p.getD j 0)=true)↔(decide (By p.length<2) || E1 xs p)=true:=by
 constructor
 . intro h;by_cases hl:By p.length<2
   . rw[qe9 hl];rfl
   . rw[qe5 hl,qq6];unfold E1;rw[qd2];intro j hj;have hj':=qd7.mp hj;have h1:=h j hj';rw[meets_agree hj']at h1;obtain⟨x0,x1,x2⟩:=hall _ (Bq (d:=0) hj');have hne:¬(xs.getD (p.getD j 0).toNat []).length=0:=fun z=>by rw[z,C6]at x2;omega
     rw[qe5 hne,qq6]at h1;exact h1
 . intro h j hj;rw[meets_agree hj];obtain⟨x0,x1,x2⟩:=hall _ (Bq (d:=0) hj);by_cases hl:By p.length<2
   . have hc:=hC.at x0 x1;have hz:(xs.getD (p.getD j 0).toNat []).length=0:=by rw[C6]at x2;omega
     rw[qe9 hz];rfl
   . rw[qe5 hl,qq6]at h;unfold E1 at h;rw[qd2]at h;rw[h j (qd7.mpr hj),Bool.or_true]
section
variable{K:W.Frag}{CG CP CS:Addr}
end
end Hb
namespace L2
open PySem PySem.Spec PyProof.Rows
theorem Co{t u:TS}{D:Ends}{σ:St}{H:Hp}(σ1:St)(H1:Hp)(ht:∀D':Ends,D'.nx σ1 H1->t D' σ H)(h:u D σ1 H1):CO t u D σ H:=ht { D with nx:=u D } h
end L2
namespace Hb
open PySem L2
section
variable{K:W.Frag}{CG:Addr}{H H' H1 H2:Hp}{W:Addr->Prop}{g pc sh ed en:Addr}{p:Int}{xs:LLInt}{es ss:List Ms}{bs:Ms}
end
theorem v7{p:Int}{f:Nat->Int}:∀{n:Nat},(∀j,j<n->p∣f j)->p∣Z4 f n
 | 0,_=>⟨0,by simp[Z4]⟩
 | n+1,h=>Int.dvd_add (v7 fun j hj=>h j O9m) (h n O9m)
theorem fS{p:Int}{f:Nat->Int}{i:Nat}:∀{n:Nat},i<n->(∀j,j<n->j≠i->p∣f j)->p∣Z4 f n->p∣f i
 | n+1,hi,h,hs=>by
   have hs:p∣Z4 f n+f n:=hs;by_cases z:i=n
   . subst z;have h1:p∣Z4 f i:=v7 fun j hj=>h j O9m O9m;exact(Int.dvd_add_right h1).mp hs
   . have h1:p∣f n:=h n O9m (fun e=>z e.symm);exact fS O9m (fun j hj hn=>h j O9m hn) ((Int.dvd_add_left h1).mp hs)
section
variable{p:Int}{xs:LLInt}{es ss:List Ms}{bs:Ms}
end
section
variable{p:Int}{xs:LLInt}{q:List Int}{es ss:List Ms}{bs ms me:Ms}
end
end Hb
namespace L2
open PySem PySem.Spec PyProof.Rows
section
variable{prog:Program}{w:World}{A:Around}{R:Result->Shared->Prop}
end
end L2
namespace Hb
open PySem L2
section
variable(K:W.Frag)(CG:Addr)
noncomputable def Ui:Sp:=fun vs H Q _=>∃(c:Addr) (ns:List Int) (kind most:Int),vs=[.int kind,.ref c,.int most]/\SqL K H c (ns.map V.int)/\ns.length<=63/\0<=most/\most<=40 ∧
 ∀(p:Addr) (us:List V) (xs:LLInt) (H':Hp),H p=none->Same H H'->H' p=some (.lst us)->Reps K H' us (xs.map tI)->Br xs->(xs.length:Int)<=most->Q (.ref p) H'
end
end Hb
namespace L2
open PySem PySem.Spec PyProof.Rows PySem.W
section
variable{P:Program}{w:World}{K:Frag}{mg:Str->Option Value}{base:Heap}{ds:List Value}
end
section
variable{X:Cx}{J:XJ}{j k:Nat}{C:Addr}{ps:List Str}{dvs:List V}{sp:Sp}{m x:Str}{p pos apos:Pos}{e o:Expr}{es:List Expr}{ta:TE}{t:TA}
end
end L2
namespace L2
open PySem PySem.Spec PyProof.Rows
noncomputable def Ci(K:W.Frag)(n:Str)(st:Stmt):Prop:=∃(f:Addr) (fd:FuncData),W.nsIn K mainGlobals n=some (some (.ref f))/\D5 K n n st f fd
noncomputable def BH(K:W.Frag)(C:Addr)(n q:Str)(st:Stmt):Prop:=∃(f:Addr) (fd:FuncData),W.findIn K (.ref C) n=some (some (.ref f))/\W.isFn K (.ref f)=true/\D5 K n q st f fd
noncomputable def aY(_K:W.Frag):Sp:=fun _ _ _ _=>False
noncomputable def BA(x q:Str)(st:Stmt)(ps:List Str):Prop:=∀(kV doc pm:Value) (an:OAddr) (Da ct:Value) (us:List Value),us.length=ps.length->bindArgs (W.fnOf x q (Im st) (Gs st) (As st) .none kV doc pm an Da ct) ⟨us,[]⟩=pure (ps.zip us)
section
variable{P:Program}{w:World}{K:W.Frag}{mg:Str->Option Value}{base h:Heap}
theorem Bf(X:K.In h)(G:h.Ns mainGlobals mg){n:Str}{st:Stmt}{ps:List Str}{k:Nat}{sp:Sp}(d:Ci K n st)(ok:∀{f fd},D5 K n n st f fd->Bt P w K mg base Dw k f fd ps sp)(hb:BA n n st ps):Has P w K mg base n ps k sp:=by
 obtain⟨f,fd,a,F⟩:=d;exact⟨_,_,qo3 X G a,F.kp,F.binds hb,ok F⟩
theorem W1{C:Addr}{n q:Str}{st:Stmt}{ps:List Str}{k:Nat}{sp:Sp}(d:BH K C n q st)(ok:∀{f fd},D5 K n q st f fd->Bt P w K mg base Dw k f fd ps sp)(hb:BA n q st ps):cG P w K mg base C n ps k sp:=by
 obtain⟨f,fd,a,b,F⟩:=d;exact⟨_,_,⟨a,b,F.kp⟩,F.binds hb,ok F⟩
theorem HJ{C:Addr}{q:Str}{st:Stmt}{ps:List Str}{k:Nat}{sp:Sp}(m:PySem.W.makesIn K C=true)(kc:W.keepIn K (.ref C)=true)(d:BH K C "__init__" q st)(ok:∀{f fd},D5 K "__init__" q st f fd->Bt P w K mg base Dw k f fd ps sp)(hb:BA "__init__" q st ps):LS P w K mg base C ps k sp:=by
 obtain⟨f,fd,a,b,F⟩:=d;exact⟨_,_,⟨m,a,b,kc⟩,F.binds hb,ok F⟩
end
section
variable{prog:Program}{w:World}{A:Around}{E:Value->Shared->Prop}{s:Shared}
end
section
variable{X:Cx}{hv:Option Value}{sc:Scope}{N':List Str}{cap:List (Option Nat)}{tg elt iter:Expr}{ifs:List Expr}{pos:Pos}{g:TG}{tc:TT}{te:TE}
end
section
variable{P:Program}{w:World}{K:W.Frag}{mg:Str->Option Value}{base:Heap}
end
section
variable{X:Cx}{x:Str}{ps:List Str}{j k:Nat}{sp:Addr->Sp}{p pos:Pos}{e:Expr}{es:List Expr}{t:TA}
end
section
open PySem.W
variable{X:Cx}{th:Ends->XJ}
end
theorem GZ{X:Cx}(hu:X.A.units+1<cLine):aR X (fun x y H Q=>∃a v,x=.ref a/\DGet H a y (some v)/\Q v H):=by
 intro value slice Ae s σ H x y v u Q I rx ry h hs;obtain⟨a,w,rfl,g,q⟩:=h;obtain rfl:v=Value.ref a:=rx;have hT:=Qd I g;unfold subscriptTail;refine qa5 ?_;rw[getitemInPython_of_ne hT.not_modules];refine qa5 (qq0 hT PySem.F.slot_dict_getitem.lookup ?_)
 have fin:wpAny (model X.prog X.w) X.A (subscripted slice false (.ref a) u) (fun r s₃=>wpAny (model X.prog X.w) X.A (letTemporaryGo value (.ref a) r>>=fun _=>pure r) (EP X Ae σ Q) X.xe s₃) X.xe s:=by
  rw[hs];exact wpAny_operating (qi7 (Vk hu I g ry fun w' s3 I3 rw'=>⟨w,H,I3,rw',q⟩) (fun r s₃ h₃=>qa5 (wpAny_letTemporaryGo (qb2 h₃))) fun _ _ x=>x)
 first
  | exact qb2 (qa5 fin)
  | exact qa5 fin
  | exact qb2 fin
  | exact fin
end L2
namespace Hb
open PySem L2
theorem Hr(x:V)(r:List V):Io (x::r) 0=some x:=Ca (j:=0) rfl
theorem CQ(x y:V)(r:List V):Io (x::y::r) 1=some y:=Ca (j:=1) rfl
theorem deps_le{n:Nat}:∀{ds:List L2.D},(∀d∈ds,dep d<=n)->deps ds<=n
 | [],_=>qb3 _
 | d::ds,h=>by
   have h1:=h d qd9;have h2:=deps_le (ds:=ds) fun x hx=>h x (qc1 _ hx);show max (dep d) (deps ds)<=n;omega
theorem Reps.app{K:W.Frag}{H:Hp}:∀{us vs:List V}{ds es:List L2.D},Reps K H us ds->Reps K H vs es->Reps K H (us++vs) (ds++es)
 | us,vs,[],es,h,g=>by
   cases us with
   | nil=>exact g
   | cons u us=>exact absurd h.length (by simp)
 | us,vs,d::ds,es,h,g=>by
   obtain⟨u,us',e,hu,h'⟩:=h;subst e;exact⟨u,us'++vs,rfl,hu,Reps.app h' g⟩
section
variable(K:W.Frag)
noncomputable def Mu:Sp:=fun vs H Q E=>∃(b0:Addr) (v0:V),vs=[.ref b0,v0]/\(a8 K [.ref b0,v0] H Q E\/V1 K [.ref b0,v0] H Q E)
end
section
variable{K:W.Frag}{C:Addr}{H H':Hp}{a d:Addr}
noncomputable def hid1(H:Hp)(d:Addr):Hp:=fun a=>if a=d then none else H a
theorem Eu{c:Addr}(h:c≠d):hid1 H d c=H c:=if_neg h
theorem Qz:hid1 H d d=none:=if_pos rfl
theorem Ck:Same (hid1 H d) H:=fun c o e=>by
 by_cases h:c=d
 . rw[h,Qz]at e;cases e
 . rwa [Eu h]at e
theorem Sf{o:HO}:hid1 (upd H d o) d=hid1 H d:=by
 funext c
 by_cases h:c=d
 . rw[h,Qz,Qz]
 . rw[Eu h,Eu h,A8 h]
theorem E5(s:Same H H'):Same (hid1 H d) (hid1 H' d):=fun c o e=>by
 by_cases h:c=d
 . rw[h,Qz]at e;cases e
 . rw[Eu h]at e ⊢;exact s c o e
noncomputable def PrAt(K:W.Frag)(H:Hp)(v:V)(xs:LLInt)(ns:List Str):Prop:=∃t L N,v=.ref t/\H t=some (.tup [.ref L,.ref N])/\LT K H (.ref L) xs/\SqL K H N (ns.map V.str)
theorem PrAt.same{v:V}{xs:LLInt}{ns:List Str}(h:PrAt K H v xs ns)(s:Same H H'):PrAt K H' v xs ns:=by
 obtain⟨t,L,N,e,h1,h2,h3⟩:=h;exact⟨t,L,N,e,s _ _ h1,Rep.same s h2,s.seq h3⟩
noncomputable abbrev Ft:=Str->Option (LLInt × List Str)
noncomputable def Ia(m:Ft)(x:Str)(z:LLInt × List Str):Ft:=fun y=>if y=x then some z else m y
noncomputable def jB(K:W.Frag)(H:Hp)(Az:List (Key × V))(m:Ft)(x:Str):Prop :=
 (m x=none/\valV Az (.inr x)=none)\/∃z v,m x=some z/\valV Az (.inr x)=some v/\PrAt K H v z.1 z.2
structure Cy(K:W.Frag)(C:Addr)(H:Hp)(a d:Addr)(m:Ft)(n:Nat):Prop where
 ob:∃dx,H a=some (.ins C dx [("kept",.ref d)])
 ne:a≠d
 dk:∃Az,H d=some (.dK Az)/\Az.length<=n/\∀x,jB K (hid1 H d) Az m x
theorem Cy.keep{m:Ft}{n:Nat}(h:Cy K C H a d m n)(s:Same (hid1 H d) (hid1 H' d))(e:H' d=H d):Cy K C H' a d m n:=by
 obtain⟨⟨dx,h1⟩,ne,Az,h2,h3,h4⟩:=h;refine⟨⟨dx,?_⟩,ne,Az,e.trans h2,h3,fun x=>?_⟩
 . have:=s a _ ((Eu ne).trans h1)
   rwa [Eu ne]at this
 . rcases h4 x with h|⟨z,v,e1,e2,e3⟩
   . exact .inl h
   . exact .inr ⟨z,v,e1,e2,e3.same s⟩
theorem Cy.same{m:Ft}{n:Nat}(h:Cy K C H a d m n)(s:Same H H'):Cy K C H' a d m n :=
 h.keep (E5 s) (by obtain⟨Az,h2,_⟩:=h.dk;rw[h2];exact s _ _ h2)
theorem Cy.put{m:Ft}{n:Nat}{Az:List (Key × V)}{x:Str}{v:V}{xs:LLInt}{ns:List Str}(h:Cy K C H a d m n)(hd:H d=some (.dK Az))(p:PrAt K (hid1 H d) v xs ns):Cy K C (upd H d (.dK (putK Az (.inr x) v))) a d (Ia m x (xs,ns)) (n+1):=by
 obtain⟨⟨dx,h1⟩,ne,kvs',h2,h3,h4⟩:=h;rw[hd]at h2;cases h2;refine⟨⟨dx,?_⟩,ne,_,Ab,qe1 (Ik _ _ _) O9m,fun y=>?_⟩
 . rw[A8 ne];exact h1
 . rw[Sf];unfold jB;rw[Nm];by_cases e:y=x
   . subst e;exact .inr ⟨(xs,ns),v,if_pos rfl,if_pos rfl,p⟩
   . have e2:¬((.inr y:Key)=.inr x):=fun z=>e (by injection z);rw[if_neg e2,show Ia m x (xs,ns) y=m y from if_neg e];exact h4 y
end
noncomputable def zipN(ks:List Str):List (Key × V):=(List.range ks.length).map fun(i:Nat)=>((.inr (nmAt ks i):Key),V.int (i:Int))
theorem Q3(ks:List Str):(zipN ks).length=ks.length:=by unfold zipN;rw[qa1,qg9]
theorem Xx{ks:List Str}{i:Nat}(h:i<ks.length):(zipN ks)[i]?=some (.inr (nmAt ks i),.int (i:Int)):=by
 unfold zipN;rw[qa3,ql4 h];rfl
theorem P7{ks:List Str}(hn:ks.Nodup):∀(m:Nat),m<=ks.length->∀(j:Nat),j<ks.length->valV (mergeK [] ((zipN ks).take m)) (.inr (nmAt ks j))=if j<m then some (.int (j:Int)) else none
 | 0,_,j,_=>by rw[if_neg (Nat.not_lt_zero _)];rfl
 | m+1,hm,j,hj=>by
   have e:(zipN ks).take (m+1)=(zipN ks).take m++[(.inr (nmAt ks m),.int (m:Int))]:=by rw[qg5,Xx (by omega)];rfl
   have ih:=P7 hn m O9m j hj
   have e2:mergeK [] ((zipN ks).take (m+1))=putK (mergeK [] ((zipN ks).take m)) (.inr (nmAt ks m)) (.int (m:Int)):=by
    unfold mergeK;rw[e,List.foldl_append];rfl
   rw[e2,Nm];by_cases h1:j=m
   . subst h1;rw[if_pos rfl,if_pos (by omega)]
   . have h2:¬((.inr (nmAt ks j):Key)=.inr (nmAt ks m)):=fun z=>h1 (Wp hn hj O9m (by injection z));rw[if_neg h2,ih];by_cases h3:j<m
     . rw[if_pos h3,if_pos (by omega)]
     . rw[if_neg h3,if_neg (by omega)]
structure Gn(xs:LLInt)(ns:List Str):Prop where
 sh:Br xs
 le:xs.length<=40
 len:ns.length=xs.length
 nd:ns.Nodup
 ok:∀x∈ns,B2 x
theorem Pe{n:Nat}(h:n<=1000):(n:Int).natAbs.log2<1920:=by
 rw[Int.natAbs_natCast];exact qf9 (Nat.log2_le_self n) O9m
noncomputable def Qa(n:Nat):Str:=wT "kept "++Str.ofString (toString (n:Int))
noncomputable def B1(xs:LLInt):List Int:=An xs.length (D4 xs xs.length xs.length (fun _=>true) []).1
section
variable(K:W.Frag)
noncomputable def Nz(C:Addr):Sp:=fun vs H Q _=>∃(a dx:Addr),vs=[.ref a]/\H a=some (.ins C dx [])/\∀(d:Addr) (H':Hp),H d=none->(∀c o,c≠a->H c=some o->H' c=some o)->Cy K C H' a d (fun _=>none) 0->Q .non H'
noncomputable def Jo(C:Addr):Sp:=fun vs H Q _=>∃(a d:Addr) (m:Ft) (n:Nat) (x:Str) (v:V) (xs:LLInt) (ns:List Str),vs=[.ref a,.str x,v]/\Cy K C H a d m n/\n<=1000/\PrAt K (hid1 H d) v xs ns/\xs.length<=1000 ∧
 ∀H',Same (hid1 H d) (hid1 H' d)->Cy K C H' a d (Ia m x (xs,ns)) (n+1)->Q (.str (Qa xs.length)) H'
noncomputable def Py:Sp:=fun vs H Q _=>∃(x:Str) (ws:List Str),vs=[.str x]/\Hx x ws/\∀(l:Addr) (H':Hp),Same H H'->SqL K H' l (ws.map V.str)->Q (.ref l) H'
noncomputable def Ug:Sp:=fun vs H Q _=>∃(l:Addr) (ws:List Str),vs=[.ref l]/\SqL K H l (ws.map V.str)/\aP ws/\∀H',Same H H'->Q (.bl true) H'
noncomputable def Ra(_K:W.Frag):Sp:=fun vs H Q _=>∃(w a b:Str),vs=[.str w]/\Mn w a b/\∀H',Same H H'->Q (.bl true) H'
noncomputable def G7:Sp:=fun vs H Q _=>∃(a n:Addr) (xs:LLInt) (ns:List Str),vs=[.ref a,.ref n]/\LT K H (.ref a) xs/\SqL K H n (ns.map V.str)/\Gn xs ns ∧
 ∀(v:V) (H':Hp),Same H H'->PrAt K H' v (Eh xs (B1 xs)) (Qo ns (B1 xs))->Qi xs (B1 xs)->Q v H'
noncomputable def Xu(Az:List (Key × V))(ns:List Str):Prop:=∀(i:Nat) x,ns[i]?=some x->valV Az (.inr x)=some (.int (i:Int))
theorem Z0{ks:List Str}(hn:ks.Nodup):Xu (mergeK [] (zipN ks)) ks:=fun i x hx=>by
 have hi:=(qa2.mp hx).1;have:=P7 hn ks.length (qa9 _) i hi;rw[←Q3 ks,qb4,Q3,if_pos hi]at this;rw[←Fo (d:=Str.empty) hx];exact this
noncomputable def AX:Sp:=fun vs H Q _=>∃(b:Addr) (ns:List Str),vs=[.ref b]/\SqL K H b (ns.map V.str)/\ns.Nodup/\ns.length<=1000/\∀(d:Addr) (Az:List (Key × V)) (H':Hp),H d=none->Same H H'->H' d=some (.dK Az)->Xu Az ns->Q (.ref d) H'
noncomputable def Ox:Sp:=fun vs H Q E=>∃b0:Addr,vs=[.ref b0]/\(X6 K [.ref b0] H Q E\/AX K [.ref b0] H Q E)
noncomputable def IZ(ns:List Str)(w:Str)(z:Int × Int):Prop:=0<=z.1/\z.1<(ns.length:Int)/\0<=z.2/\z.2<(ns.length:Int)/\Mn w (nmAt ns z.1.toNat) (nmAt ns z.2.toNat)
noncomputable def Q9:Sp:=fun vs H Q _=>∃(d:Addr) (Az:List (Key × V)) (ns:List Str) (w:Str) (z:Int × Int),vs=[.ref d,.str w]/\H d=some (.dK Az)/\Xu Az ns/\IZ ns w z/\∀(v:V) (H':Hp),Same H H'->TI K H' v (pr z)->Q v H'
noncomputable def aO(ns:List Str)(ws:List Str)(ps:List (Int × Int)):Prop:=ws.length=ps.length/\∀(i:Nat) w z,ws[i]?=some w->ps[i]?=some z->IZ ns w z
noncomputable def Gk:Sp:=fun vs H Q _=>∃(a n l:Addr) (xs:LLInt) (ns ws:List Str) (ps:List (Int × Int)),vs=[.ref a,.ref n,.ref l]/\LT K H (.ref a) xs/\SqL K H n (ns.map V.str)/\SqL K H l (ws.map V.str)/\Gn xs ns/\aO ns ws ps/\ps.length<=10/\Gu xs ps ∧
 ∀(v:V) (fs:List Int) (H':Hp),Same H H'->Hy xs fs->Kl xs fs 4->Hw xs ps fs->PrAt K H' v (Kk xs fs) (Qo ns (Bo fs))->Q v H'
inductive Ti(m:Ft):List Str->Str->Ft->Prop
 | keep {n:Str}{xs:LLInt}{ns:List Str}:Gn xs ns->Ti m [wT "keep",n,Bw xs ns] (Qa xs.length) (Ia m n (xs,ns))
 | show {n:Str}{xs:LLInt}{ns:List Str}:m n=some (xs,ns)->Gn xs ns->Ti m [wT "show",n] (Bw xs ns) m
 | core {n o:Str}{xs:LLInt}{ns:List Str}:m o=some (xs,ns)->Gn xs ns->Ti m [wT "core",n,o] (Qa (B1 xs).length) (Ia m n (Eh xs (B1 xs),Qo ns (B1 xs)))
 | glue {n o:Str}{xs:LLInt}{ns ws:List Str}{ps:List (Int × Int)}{fs:List Int}:m o=some (xs,ns)->Gn xs ns->aO ns ws ps->ps.length<=10->Gu xs ps->Hy xs fs->Hw xs ps fs->Ti m (wT "glue"::n::o::ws) (Qa (Bo fs).length) (Ia m n (Kk xs fs,Qo ns (Bo fs)))
noncomputable def Kp(C:Addr):Sp:=fun vs H Q _=>∃(a d l:Addr) (m m':Ft) (n:Nat) (ws:List Str) (t asked:Str),vs=[.ref a,.ref l,.str asked]/\Cy K C H a d m n/\n<=1000/\SqL K (hid1 H d) l (ws.map V.str)/\Hv ws/\Ti m ws t m'/\((ws.length=2/\ws[1]?=some asked)\/(3<=ws.length/\ws[2]?=some asked)) ∧
 ∀H',Same (hid1 H d) (hid1 H' d)->Cy K C H' a d m' (n+1)->Q (.str t) H'
noncomputable def Ny(C:Addr):Sp:=fun vs H Q _=>∃(a d:Addr) (m m':Ft) (n:Nat) (x:Str) (ws:List Str) (t:Str),vs=[.ref a,.str x]/\Cy K C H a d m n/\n<=1000/\Hx x ws/\Ti m ws t m' ∧
 ∀H',Same (hid1 H d) (hid1 H' d)->Cy K C H' a d m' (n+1)->Q (.str t) H'
noncomputable def Uj(C:Addr):Sp:=fun vs H Q _=>∃(a d:Addr) (m m':Ft) (n:Nat) (x:Str) (ws:List Str) (t:Str),vs=[.ref a,.str x,.str t]/\Cy K C H a d m n/\n<=1000/\Hx x ws/\Ti m ws t m' ∧
 ∀H',Same (hid1 H d) (hid1 H' d)->Cy K C H' a d m' (n+1)->Q (.bl true) H'
noncomputable def Re(_K:W.Frag):Sp:=fun vs H Q _=>∃(c:Int) (many:Nat),vs=[.int c,.int many]/\0<=c/\c<1000003/\many<=25/\∀(l:Addr) (ns:List Str) (H':Hp),H l=none->Same H H'->H' l=some (.lst (ns.map V.str))->ns.length=many->ns.Nodup->(∀x∈ns,B2 x)->Q (.ref l) H'
noncomputable def Uk:Sp:=Mr K
noncomputable def X9:Sp:=fun vs H Q _=>∃(a n l:Addr) (xs:LLInt) (ns:List Str) (fl:Int->Bool),vs=[.ref a,.ref n,.ref l]/\LT K H (.ref a) xs/\SqL K H n (ns.map V.str)/\SqL K H l (Vf xs.length fl)/\Gn xs ns/\∀H',Same H H'->Q (.str (D3 ns xs (An xs.length fl) id)) H'
noncomputable def Md:Sp:=fun vs H Q _=>∃(a n:Addr) (xs:LLInt) (ns:List Str),vs=[.ref a,.ref n]/\LT K H (.ref a) xs/\SqL K H n (ns.map V.str)/\Gn xs ns ∧
 ∀(t:Addr) (H':Hp),Same H H'->H' t=some (.tup [.str (D3 ns xs (B1 xs) id),.int ((B1 xs).length:Nat)])->Q (.ref t) H'
noncomputable def Mc:Sp:=fun vs H Q _=>∃(a n b:Addr) (xs:LLInt) (ns:List Str) (ps:List (Int × Int)),vs=[.ref a,.ref n,.ref b]/\LT K H (.ref a) xs/\SqL K H n (ns.map V.str)/\LT K H (.ref b) (ps.map pr)/\Gn xs ns/\ps.length<=10/\Gu xs ps ∧
 ∀(t:Addr) (fs:List Int) (H':Hp),Same H H'->Hy xs fs->Hw xs ps fs->H' t=some (.tup [.str (D3 ns xs (Bo fs) (lb fs)),.int ((Bo fs).length:Nat)])->Q (.ref t) H'
noncomputable def Nw:Sp:=fun vs H Q _=>∃(a c:Addr) (xs:LLInt) (cells:List Int),vs=[.ref a,.ref c]/\LT K H (.ref a) xs/\SqL K H c (cells.map V.int)/\Br xs/\1<=xs.length/\xs.length<=63/\cells.length<=63 ∧
 ∀(D:Addr) (us:List V) (ps:List (Int × Int)) (H':Hp),Same H H'->H D=none->H' D=some (.lst us)->Reps K H' us ((ps.map pr).map tI)->1<=ps.length->ps.length<=4->Gu xs ps->Q (.ref D) H'
noncomputable def Fv(xs:LLInt):LLInt:=xs.map fun p=>p.map (·+1)
noncomputable def Nv:Sp:=fun vs H Q _=>∃(a:Addr) (xs:LLInt),vs=[.ref a]/\LT K H (.ref a) xs/\xs.length<=63/\(∀x∈xs,x.length<=4)/\∀(D:Addr) (us:List V) (H':Hp),H D=none->Same H H'->H' D=some (.lst us)->Reps K H' us ((Fv xs).map tI)->Q (.ref D) H'
end
theorem cut_from{us:List V}{k:Nat}(h:k<=us.length):L2.cutV us (some (k:Int)) none=us.drop k:=by
 unfold L2.cutV;rw[HT.sIx_nat,HT.sIx_none,show min k us.length=k by omega,qf2 (by rw[qh4];omega)]
theorem Gv(ws:List Str):deps (ws.map L2.D.str)+1<=8:=by rw[deps_strs];decide
theorem Ya{xs:LLInt}(h:Br xs):Br ([]::Fv xs):=by
 intro k q hq;cases k with
 | zero =>
   rw[qm0]at hq;cases hq;exact⟨.inl rfl,fun f hf=>(by cases hf),fun f hf=>(by cases hf),fun h3=>(by simp at h3)⟩
 | succ k =>
   rw[qn6]at hq;unfold Fv at hq;rw[qa3]at hq;obtain⟨p,hp,rfl⟩:=qb1.mp hq;have F:=h k p hp
   have at_:∀f:Int,0<=f->∀q,(xs.take k)[f.toNat]?=some q->(([]::Fv xs).take (k+1))[(f+1).toNat]?=some (q.map (·+1)):=fun f h0 q hq=>by
    rw[qp5,show(f+1).toNat=f.toNat+1 by omega,qn6];unfold Fv;rw[←ql9,qa3,hq];rfl
   refine⟨by rw[qa1];exact F.cnt,fun f' hf'=>?_,fun f' hf'=>?_,fun h3 i j f' g' q r hij hj hi hq hr=>?_⟩
   . obtain⟨f,hf,rfl⟩:=qe2.mp hf';have:=F.low f hf;show 0<=f+1;omega
   . obtain⟨f,hf,rfl⟩:=qe2.mp hf';obtain⟨q,h1,h2⟩:=F.bel f hf;exact⟨_,at_ f (F.low f hf) q h1,by unfold lev at h2 ⊢;rw[qa1,qa1];exact h2⟩
   . rw[qa3]at hj hi;obtain⟨f,hf,rfl⟩:=qb1.mp hj;obtain⟨g,hg,rfl⟩:=qb1.mp hi;have mf:=qa8 hf;have mg:=qa8 hg;obtain⟨q1,h1,_⟩:=F.bel f mf;obtain⟨r1,h2,_⟩:=F.bel g mg;rw[at_ f (F.low f mf) q1 h1]at hq;rw[at_ g (F.low g mg) r1 h2]at hr;cases hq;cases hr;rw[qa3,qa3,F.agr (by simpa using h3) i j f g _ _ hij hf hg h1 h2]
theorem t6(xs:LLInt):(B1 xs).Pairwise (·<·):=BJ _ _
theorem Lv{xs:LLInt}:∀p∈B1 xs,0<=p/\p<(xs.length:Int):=fun p hp=>(Hm.mp hp).1
theorem fB{xs:LLInt}{ns:List Str}(h:Gn xs ns)(hc:Qi xs (B1 xs)):Gn (Eh xs (B1 xs)) (Qo ns (B1 xs)) where
 sh:=AW h.sh (t6 xs) Lv hc
 le:=by rw[Fb];exact qe1 (Fl _ _) h.le
 len:=by rw[Fb,z9]
 nd:=DO h.nd (M5 _ _) (by rw[h.len];exact Lv)
 ok:=dO h.ok (by rw[h.len];exact Lv)
theorem aH{xs:LLInt}{fs:List Int}(l:Hy xs fs):∀p∈Bo fs,0<=p/\p<(xs.length:Int):=fun p hp=>(Ka l hp).1
theorem AF{xs:LLInt}{ns:List Str}{fs:List Int}(h:Gn xs ns)(l:Hy xs fs)(c:Kl xs fs 4):Gn (Kk xs fs) (Qo ns (Bo fs)) where
 sh:=bQ h.sh l c
 le:=by
  have e:(Kk xs fs).length=(Bo fs).length:=qa1 ..;have:=Jj fs fs.length;have:=h.le;have:=l.len;rw[e];show(Nf fs fs.length).length<=40;omega
 len:=by rw[z9];exact(qa1 ..).symm
 nd:=DO h.nd ((Ss fs).imp fun h=>O9m) (by rw[h.len];exact aH l)
 ok:=dO h.ok (by rw[h.len];exact aH l)
theorem BQ{xs:LLInt}{fs:List Int}(l:Hy xs fs){j:Nat}(hj:j<(Bo fs).length):(Bx (Gi fs)).findIdx? (fun e=>eqD e (.int (j:Int)))=some ((Bo fs).getD j 0).toNat:=by
 have hm:(Bo fs).getD j 0∈Bo fs:=qa8 (Gm (d:=0) hj);obtain⟨rp,ep⟩:=Ka l hm;have hl:=l.len;have hnd:(Bo fs).Nodup:=(Ss fs).imp fun h=>O9m
 have at_:∀i:Nat,i<xs.length->(Bx (Gi fs))[i]?=some (.int (Gg (Bo fs) (lb fs (i:Int)))):=fun i hi=>by
  have h1:=Lu l (p:=(i:Int)) ⟨O9m,O9m⟩;rw[Y0 (by rw[Oi];omega)]at h1;unfold Bx;rw[qa3,qa0 (by rw[Oi];omega),h1];rfl
 have hr:Gg (Bo fs) ((Bo fs).getD j 0)=(j:Int):=by
  have:=Pd hnd (i:=(j:Int)) O9m O9m;unfold Dc at this
  rwa [qb9]at this
 have pI:(Bx (Gi fs)).length=xs.length:=by unfold Bx;rw[qa1,Oi,hl]
 generalize hp:(Bo fs).getD j 0=p at hm rp ep hr;rw[qi2];have p0:=rp.1;have p1:=rp.2;refine⟨O9m,?_,fun i hi=>?_⟩
 . have e:=at_ p.toNat O9m;rw[qa0 (by omega)]at e;rw[qb6 e,show((p.toNat:Nat):Int)=p by omega,ep,hr];simp[eqD]
 . have e:=at_ i O9m;rw[qa0 (by omega)]at e;rw[qb6 e];have ri:B5 xs (i:Int):=⟨O9m,O9m⟩
   have r1:=l.rng _ ri;have mi:=Od l ri;intro z;have z1:Gg (Bo fs) (lb fs (i:Int))=(j:Int):=by simpa[eqD]using z
   have z2:=GA mi hm (z1.trans hr.symm);omega
theorem Hv.nokeep{ws:List Str}(h:Hv ws):ws[0]?≠some (wT "keep"):=by
 cases h with
 | «show» a=>intro e;exact absurd (qb6 e) (by decide +kernel)
 | core a b=>intro e;exact absurd (qb6 e) (by decide +kernel)
 | glue a b c d e=>intro e;exact absurd (qb6 e) (by decide +kernel)
theorem Cy.mono{K:W.Frag}{C:Addr}{H:Hp}{a d:Addr}{m:Ft}{n n':Nat}(h:Cy K C H a d m n)(hn:n<=n'):Cy K C H a d m n' :=
 ⟨h.ob,h.ne,let ⟨Az,h1,h2,h3⟩:=h.dk;⟨Az,h1,qe1 h2 hn,h3⟩⟩
section
variable{K:W.Frag}{H:Hp}{d:Addr}{Az:List (Key × V)}
theorem Np(hd:H d=some (.dK Az)){a:Addr}{xs:List V}(h:SqL K H a xs):SqL K (hid1 H d) a xs:=by
 rcases h with h | h
 . refine .inl ?_
   have ne:a≠d:=fun z=>by
    subst z;rcases h with h|⟨o,h⟩<;>rw[hd]at h<;>cases h
   rcases h with h|⟨o,h⟩
   . exact .inl ((Eu ne).trans h)
   . exact .inr ⟨o,(Eu ne).trans h⟩
 . exact .inr h
theorem fW(hd:H d=some (.dK Az)){a:Addr}{xs:List V}(h:Dv K H a xs):Dv K (hid1 H d) a xs:=by
 rcases h with h | h
 . refine .inl ?_
   have ne:a≠d:=fun z=>by
    subst z;rcases h with h|⟨o,h⟩<;>rw[hd]at h<;>cases h
   rcases h with h|⟨o,h⟩
   . exact .inl ((Eu ne).trans h)
   . exact .inr ⟨o,(Eu ne).trans h⟩
 . exact .inr h
mutual
theorem y7(hd:H d=some (.dK Az)):∀{D:L2.D}{v:V},Rep K H v D->Rep K (hid1 H d) v D
 | .non,_,h=>h
 | .bl _,_,h=>h
 | .int _,_,h=>h
 | .str _,_,h=>h
 | .tup ds,_,h=>by
   obtain⟨a,vs,e,h1,h2⟩:=h;exact⟨a,vs,e,fW hd h1,reps_hid hd h2⟩
 | .lst ds,_,h=>by
   obtain⟨a,vs,e,h1,h2⟩:=h;exact⟨a,vs,e,Np hd h1,reps_hid hd h2⟩
theorem reps_hid(hd:H d=some (.dK Az)):∀{ds:List L2.D}{vs:List V},Reps K H vs ds->Reps K (hid1 H d) vs ds
 | [],_,h=>h
 | D::ds,_,h=>by
   obtain⟨v,r,e,h1,h2⟩:=h;exact⟨v,r,e,y7 hd h1,reps_hid hd h2⟩
end
theorem PrAt.hid{v:V}{xs:LLInt}{ns:List Str}(h:PrAt K H v xs ns)(hd:H d=some (.dK Az)):PrAt K (hid1 H d) v xs ns:=by
 obtain⟨t,L,N,e,h1,h2,h3⟩:=h;have ne:t≠d:=fun z=>by rw[z,hd]at h1;cases h1
 exact⟨t,L,N,e,(Eu ne).trans h1,y7 hd h2,Np hd h3⟩
end
theorem reps_cat{K:W.Frag}{H:Hp}:∀{ds es:List L2.D}{us vs:List V},Reps K H us ds->Reps K H vs es->Reps K H (us++vs) (ds++es)
 | [],es,us,vs,h1,h2=>by
   have e:us=[]:=h1;subst e;exact h2
 | d::ds,es,us,vs,h1,h2=>by
   obtain⟨v,r,rfl,hv,hr⟩:=h1;exact⟨v,r++vs,rfl,hv,reps_cat hr h2⟩
noncomputable def JA(K:W.Frag)(H:Hp)(a n b:Addr)(xs:LLInt)(ps:List (Int × Int))(m:Nat)(σ:St)(G:Hp):Prop :=
 ∃(l w:Addr) (fs:List Int) (wu:List V) (ws:List (Int × Int)) (o5 o6 o7:Option V),σ=[rS a,rS n,rS b,rS l,rS w,o5,o6,o7,none,none,none]/\Same H G/\G l=some (.lst (fs.map V.int))/\G w=some (.lst wu)/\Reps K G wu ((ws.map pr).map tI)/\Dj xs ps fs ws/\m=5*K7 fs+ws.length/\m<=400
theorem j4{xs:LLInt}{fs:List Int}(h:Hy xs fs){z:Int × Int}(h1:B5 xs z.1)(h2:B5 xs z.2)(hne:¬lb fs z.1=lb fs z.2):K7 (mrg fs (min (lb fs z.1) (lb fs z.2)) (max (lb fs z.1) (lb fs z.2)))<K7 fs:=by
 have r1:=h.inR h1;have r2:=h.inR h2;rcases Int.lt_or_gt_of_ne hne with q | q
 . rw[Int.min_eq_left (qr4 q),Int.max_eq_right (qr4 q)];exact U3 h r1 r2 (h.fix z.2 h2) q
 . rw[Int.min_eq_right (qr4 q),Int.max_eq_left (qr4 q)];exact U3 h r2 r1 (h.fix z.1 h1) q
theorem gW{xs:LLInt}(h:Br xs){p q:Int}(hp:B5 xs p)(hq:B5 xs q)(e:By (fc xs p).length=By (fc xs q).length):(fc xs p).length=(fc xs q).length:=by
 have key:∀r,B5 xs r->(fc xs r).length=0\/(fc xs r).length=2\/(fc xs r).length=3\/(fc xs r).length=4:=fun r hr=>by
  have r0:=hr.1;have r1:=hr.2;exact(h r.toNat _ (Gm (d:=[]) O9m)).cnt
 rw[C6,C6]at e;rcases key p hp with a | a | a | a<;>rcases key q hq with b | b | b | b<;>rw[a,b]at e ⊢<;>first | rfl | (exfalso;revert e;decide)
theorem Zn{xs:LLInt}{n:Nat}:∀(m:Nat) (fl:Int->Bool) (acc:LLInt),Qi xs (An n fl)->Qi xs (An n (D4 xs n m fl acc).1)
 | 0,fl,acc,h=>h
 | m+1,fl,acc,h=>by
   cases hb:Eg xs (An n fl) with
   | nil=>rw[S1 hb];exact h
   | cons p r =>
     rw[Pr hb];obtain⟨k,_,hg,rfl,_⟩:=Nj (show p∈Eg xs (An n fl) by rw[hb];simp);exact Zn m _ _ (Qf h hg)
theorem CA{xs:LLInt}(h:Br xs):Qi xs (B1 xs):=by
 refine Zn _ _ _ (AK fun x hx f hf=>?_);obtain⟨i,hi⟩:=qc6 hx;have hil:=(qa2.mp hi).1;have:=(B9 h (k:=i) hil).1 f (by rw[Fo hi];exact hf);omega
theorem Z3{xs:LLInt}(G:Gr xs){ps:List (Int × Int)}{fs:List Int}(t:Hw xs ps fs)(m:Nat):Kl xs fs m:=fun p q hp hq _ e i f g hf hg =>
 (t f g (G.rng hp (qa8 hf)) (G.rng hq (qa8 hg))).mpr ((T9.cong xs ps).face p q ((t p q hp hq).mp e) hp hq i f g hf hg)
noncomputable abbrev Gb:Str:=wT "old"
noncomputable abbrev J1:Str:=wT "new"
theorem M3:B2 Gb:=⟨by decide +kernel,by decide +kernel,by decide +kernel⟩
theorem Wq:B2 J1:=⟨by decide +kernel,by decide +kernel,by decide +kernel⟩
theorem gO:Gb≠J1:=by decide +kernel
noncomputable def Bz(ns:List Str)(ps:List (Int × Int)):List Str:=ps.map fun z=>Str.join (wT "=") [nmAt ns z.1.toNat,nmAt ns z.2.toNat]
theorem Px{xs:LLInt}{ns:List Str}{ps:List (Int × Int)}(ok:Gn xs ns)(hp:Gu xs ps):aO ns (Bz ns ps) ps:=by
 refine⟨qa1 ..,fun i w z hw hz=>?_⟩;unfold Bz at hw;rw[qa3,hz]at hw;have e:Str.join (wT "=") [nmAt ns z.1.toNat,nmAt ns z.2.toNat]=w:=qb6 hw;obtain⟨⟨a0,a1⟩,⟨b0,b1⟩,_⟩:=hp z (qa8 hz);have hl:=ok.len;exact⟨a0,O9m,b0,O9m,P6 ok.ok O9m,P6 ok.ok O9m,e.symm⟩
theorem Mp{ns:List Str}{ws:List Str}{ps:List (Int × Int)}(h:aO ns ws ps):∀p∈ws,∃a b,Mn p a b:=fun p hp=>by
 obtain⟨i,hi⟩:=qc6 hp;have hl:=(qa2.mp hi).1;have h0:=h.1;obtain⟨_,_,_,_,hw⟩:=h.2 i p _ hi (qa0 O9m);exact⟨_,_,hw⟩
noncomputable def FG:Ft->List (Str × Str)->Prop
 | _,[]=>True
 | m,z::r=>∃ws m',Hx z.1 ws/\Ti m ws z.2 m'/\FG m' r
theorem bK(g n o:Str)(ws:List Str)(h:ws≠[]):Str.join (wT " ") (g::n::o::ws)=g++wT " "++n++wT " "++o++wT " "++Str.join (wT " ") ws:=by
 cases ws with
 | nil=>exact absurd rfl h
 | cons w r =>
   show g++wT " "++(n++wT " "++(o++wT " "++Str.join (wT " ") (w::r)))=_;simp only[Ue]
theorem Y8(a:String)(n o:Str)(ws:List Str)(h:ws≠[])(e:wT a=wT "glue"++wT " "++n++wT " "++o++wT " "):wT a++Str.join (wT " ") ws=Str.join (wT " ") (wT "glue"::n::o::ws):=by
 rw[bK _ _ _ _ h,e]
noncomputable def Ki(xs:LLInt)(ns:List Str)(ps:List (Int × Int))(fs:List Int):List (Str × Str) :=
 [(wT "keep old "++Bw xs ns,Qa xs.length),(wT "core new old",Qa (B1 xs).length),(wT "show new",D3 ns xs (B1 xs) id),(wT "show old",Bw xs ns),
  (wT "glue new old "++Str.join (wT " ") (Bz ns ps),Qa (Bo fs).length),(wT "show new",D3 ns xs (Bo fs) (lb fs)),(wT "show old",Bw xs ns),
  (wT "glue old old "++Str.join (wT " ") (Bz ns ps),Qa (Bo fs).length),(wT "show old",D3 ns xs (Bo fs) (lb fs))]
theorem JM{xs:LLInt}{ns:List Str}{ps:List (Int × Int)}{fs:List Int}(ok:Gn xs ns)(hp:Gu xs ps)(h1:1<=ps.length)(h4:ps.length<=4)(lab:Hy xs fs)(te:Hw xs ps fs):FG (fun _=>none) (Ki xs ns ps fs):=by
 have hc:=CA ok.sh;have cl:=Z3 (Y7 ok.sh) te 4;have hw:=Px ok hp
 have ne:Bz ns ps≠[]:=fun z=>by
  have:=congrArg List.length z;unfold Bz at this;rw[qa1,qh1]at this;omega
 have wl:(Bz ns ps).length=ps.length:=qa1 ..;have hcs:=fB ok hc;have hgs:=AF ok lab cl;have tl:=(Q7 ok.sh ok.le ok.len ok.ok).1;have e1:wT "keep old "=wT "keep "++(Gb++wT " "):=by decide +kernel
 have e2:wT "core new old"=Str.join (wT " ") [wT "core",J1,Gb]:=by decide +kernel
 have e3:wT "show new"=Str.join (wT " ") [wT "show",J1]:=by decide +kernel
 have e4:wT "show old"=Str.join (wT " ") [wT "show",Gb]:=by decide +kernel
 have no:¬Gb=J1:=gO;have P5:∀(m:Ft) (x:Str) z,Ia m x z x=some z:=fun m x z=>if_pos rfl;have Uw:∀(m:Ft) z,Ia m J1 z Gb=m Gb:=fun m z=>if_neg no;have sZ:∀n,B2 n->Hv (wT "glue"::n::Gb::Bz ns ps):=fun n hn=>.glue hn M3 O9m O9m (Mp hw);refine⟨_,_,?_,.keep (n:=Gb) ok,?_⟩
 . show Hx (wT "keep old "++Bw xs ns) _;rw[e1,Ue];exact .keep M3 O9m
 refine⟨_,_,?_,.core (n:=J1) (o:=Gb) (P5 _ _ _) ok,?_⟩
 . show Hx (wT "core new old") _;rw[e2];exact .other (.core Wq M3)
 refine⟨[wT "show",J1],Ia (Ia (fun _=>none) Gb (xs,ns)) J1 (Eh xs (B1 xs),Qo ns (B1 xs)),?_,?_,?_⟩
 . show Hx (wT "show new") _;rw[e3];exact .other (.show Wq)
 . show Ti _ _ (D3 ns xs (B1 xs) id) _;rw[←cP ns hc];exact .show (P5 _ _ _) hcs
 refine⟨[wT "show",Gb],Ia (Ia (fun _=>none) Gb (xs,ns)) J1 (Eh xs (B1 xs),Qo ns (B1 xs)),?_,?_,?_⟩
 . show Hx (wT "show old") _;rw[e4];exact .other (.show M3)
 . exact .show ((Uw _ _).trans (P5 _ _ _)) ok
 refine⟨_,_,?_,.glue (n:=J1) (o:=Gb) ((Uw _ _).trans (P5 _ _ _)) ok hw O9m hp lab te,?_⟩
 . show Hx (wT "glue new old "++_) _;rw[Y8 "glue new old " J1 Gb _ ne (by decide +kernel)];exact .other (sZ _ Wq)
 refine⟨[wT "show",J1],Ia (Ia (Ia (fun _=>none) Gb (xs,ns)) J1 (Eh xs (B1 xs),Qo ns (B1 xs))) J1 (Kk xs fs,Qo ns (Bo fs)),?_,?_,?_⟩
 . show Hx (wT "show new") _;rw[e3];exact .other (.show Wq)
 . show Ti _ _ (D3 ns xs (Bo fs) (lb fs)) _;rw[←Y9 ok.sh ns lab];exact .show (P5 _ _ _) hgs
 refine⟨[wT "show",Gb],Ia (Ia (Ia (fun _=>none) Gb (xs,ns)) J1 (Eh xs (B1 xs),Qo ns (B1 xs))) J1 (Kk xs fs,Qo ns (Bo fs)),?_,?_,?_⟩
 . show Hx (wT "show old") _;rw[e4];exact .other (.show M3)
 . exact .show ((Uw _ _).trans ((Uw _ _).trans (P5 _ _ _))) ok
 refine⟨_,_,?_,.glue (n:=Gb) (o:=Gb) ((Uw _ _).trans ((Uw _ _).trans (P5 _ _ _))) ok hw O9m hp lab te,?_⟩
 . show Hx (wT "glue old old "++_) _;rw[Y8 "glue old old " Gb Gb _ ne (by decide +kernel)];exact .other (sZ _ M3)
 refine⟨[wT "show",Gb],Ia (Ia (Ia (Ia (fun _=>none) Gb (xs,ns)) J1 (Eh xs (B1 xs),Qo ns (B1 xs))) J1 (Kk xs fs,Qo ns (Bo fs))) Gb (Kk xs fs,Qo ns (Bo fs)),?_,?_,trivial⟩
 . show Hx (wT "show old") _;rw[e4];exact .other (.show M3)
 . show Ti _ _ (D3 ns xs (Bo fs) (lb fs)) _;rw[←Y9 ok.sh ns lab];exact .show (P5 _ _ _) hgs
noncomputable def rD(z:Str × Str):L2.D:=.tup [.str z.1,.str z.2]
theorem Jy{K:W.Frag}{H:Hp}{t:Addr}{x y:Str}(h:H t=some (.tup [.str x,.str y])):Rep K H (.ref t) (rD (x,y)):=⟨t,_,rfl,.of h,⟨_,_,rfl,rfl,⟨_,_,rfl,rfl,rfl⟩⟩⟩
theorem NF{K:W.Frag}{H:Hp}{v:V}{z:Str × Str}(h:Rep K H v (rD z)):∃t,v=.ref t/\Dv K H t [.str z.1,.str z.2]:=by
 obtain⟨t,vs,rfl,h1,v1,r1,rfl,e1,v2,r2,rfl,e2,e3⟩:=h;have e1:v1=.str z.1:=e1;have e2:v2=.str z.2:=e2;have e3:r2=[]:=e3;subst e1 e2 e3;exact⟨t,rfl,h1⟩
theorem Q4{S:St}{p0:Hp->Prop}{G:St->Hp->Prop}(k:∀H,p0 H->G S H):∀σ H,(σ=S/\p0 H)->G σ H:=by
 rintro _ H ⟨rfl,h0⟩;exact k H h0
theorem IF{S:St}{p0 p1:Hp->Prop}{G:St->Hp->Prop}(k:∀H,p0 H->p1 H->G S H):∀σ H,(σ=S/\p0 H/\p1 H)->G σ H:=by
 rintro _ H ⟨rfl,h0,h1⟩;exact k H h0 h1
theorem mL{S:St}{p0 p1 p2 p3:Hp->Prop}{G:St->Hp->Prop}(k:∀H,p0 H->p1 H->p2 H->p3 H->G S H):∀σ H,(σ=S/\p0 H/\p1 H/\p2 H/\p3 H)->G σ H:=by
 rintro _ H ⟨rfl,h0,h1,h2,h3⟩;exact k H h0 h1 h2 h3
theorem MK{A0:Type}{S:A0->St}{p0:A0->Hp->Prop}{G:St->Hp->Prop}(k:∀x0 H,p0  x0 H->G (S x0) H):∀σ H,(∃x0,σ=S x0/\p0 x0 H)->G σ H:=by
 rintro _ H ⟨x0,rfl,h0⟩;exact k x0 H h0
theorem Gj{A0:Type}{S:A0->St}{p0 p1:A0->Hp->Prop}{G:St->Hp->Prop}(k:∀x0 H,p0  x0 H->p1  x0 H->G (S x0) H):∀σ H,(∃x0,σ=S x0/\p0 x0 H/\p1 x0 H)->G σ H:=by
 rintro _ H ⟨x0,rfl,h0,h1⟩;exact k x0 H h0 h1
theorem Kf{A0:Type}{S:A0->St}{p0 p1 p2:A0->Hp->Prop}{G:St->Hp->Prop}(k:∀x0 H,p0  x0 H->p1  x0 H->p2  x0 H->G (S x0) H):∀σ H,(∃x0,σ=S x0/\p0 x0 H/\p1 x0 H/\p2 x0 H)->G σ H:=by
 rintro _ H ⟨x0,rfl,h0,h1,h2⟩;exact k x0 H h0 h1 h2
theorem mK{A0:Type}{S:A0->St}{p0 p1 p2 p3:A0->Hp->Prop}{G:St->Hp->Prop}(k:∀x0 H,p0  x0 H->p1  x0 H->p2  x0 H->p3  x0 H->G (S x0) H):∀σ H,(∃x0,σ=S x0/\p0 x0 H/\p1 x0 H/\p2 x0 H/\p3 x0 H)->G σ H:=by
 rintro _ H ⟨x0,rfl,h0,h1,h2,h3⟩;exact k x0 H h0 h1 h2 h3
theorem cN{A0:Type}{S:A0->St}{p0 p1 p2 p3 p4:A0->Hp->Prop}{G:St->Hp->Prop}(k:∀x0 H,p0  x0 H->p1  x0 H->p2  x0 H->p3  x0 H->p4  x0 H->G (S x0) H):∀σ H,(∃x0,σ=S x0/\p0 x0 H/\p1 x0 H/\p2 x0 H/\p3 x0 H/\p4 x0 H)->G σ H:=by
 rintro _ H ⟨x0,rfl,h0,h1,h2,h3,h4⟩;exact k x0 H h0 h1 h2 h3 h4
theorem MJ{A0:Type}{S:A0->St}{p0 p1 p2 p3 p4 p5:A0->Hp->Prop}{G:St->Hp->Prop}(k:∀x0 H,p0  x0 H->p1  x0 H->p2  x0 H->p3  x0 H->p4  x0 H->p5  x0 H->G (S x0) H):∀σ H,(∃x0,σ=S x0/\p0 x0 H/\p1 x0 H/\p2 x0 H/\p3 x0 H/\p4 x0 H/\p5 x0 H)->G σ H:=by
 rintro _ H ⟨x0,rfl,h0,h1,h2,h3,h4,h5⟩;exact k x0 H h0 h1 h2 h3 h4 h5
theorem X0{A0 A1:Type}{S:A0->A1->St}{p0 p1:A0->A1->Hp->Prop}{G:St->Hp->Prop}(k:∀x0 x1 H,p0  x0 x1 H->p1  x0 x1 H->G (S x0 x1) H):∀σ H,(∃x0 x1,σ=S x0 x1/\p0 x0 x1 H/\p1 x0 x1 H)->G σ H:=by
 rintro _ H ⟨x0,x1,rfl,h0,h1⟩;exact k x0 x1 H h0 h1
theorem Ja{A0 A1:Type}{S:A0->A1->St}{p0 p1 p2:A0->A1->Hp->Prop}{G:St->Hp->Prop}(k:∀x0 x1 H,p0  x0 x1 H->p1  x0 x1 H->p2  x0 x1 H->G (S x0 x1) H):∀σ H,(∃x0 x1,σ=S x0 x1/\p0 x0 x1 H/\p1 x0 x1 H/\p2 x0 x1 H)->G σ H:=by
 rintro _ H ⟨x0,x1,rfl,h0,h1,h2⟩;exact k x0 x1 H h0 h1 h2
theorem v5{A0 A1:Type}{S:A0->A1->St}{p0 p1 p2 p3:A0->A1->Hp->Prop}{G:St->Hp->Prop}(k:∀x0 x1 H,p0  x0 x1 H->p1  x0 x1 H->p2  x0 x1 H->p3  x0 x1 H->G (S x0 x1) H):∀σ H,(∃x0 x1,σ=S x0 x1/\p0 x0 x1 H/\p1 x0 x1 H/\p2 x0 x1 H/\p3 x0 x1 H)->G σ H:=by
 rintro _ H ⟨x0,x1,rfl,h0,h1,h2,h3⟩;exact k x0 x1 H h0 h1 h2 h3
theorem iF{A0 A1:Type}{S:A0->A1->St}{p0 p1 p2 p3 p4:A0->A1->Hp->Prop}{G:St->Hp->Prop}(k:∀x0 x1 H,p0  x0 x1 H->p1  x0 x1 H->p2  x0 x1 H->p3  x0 x1 H->p4  x0 x1 H->G (S x0 x1) H):∀σ H,(∃x0 x1,σ=S x0 x1/\p0 x0 x1 H/\p1 x0 x1 H/\p2 x0 x1 H/\p3 x0 x1 H/\p4 x0 x1 H)->G σ H:=by
 rintro _ H ⟨x0,x1,rfl,h0,h1,h2,h3,h4⟩;exact k x0 x1 H h0 h1 h2 h3 h4
theorem IE{A0 A1 A2:Type}{S:A0->A1->A2->St}{p0 p1 p2 p3 p4 p5:A0->A1->A2->Hp->Prop}{G:St->Hp->Prop}(k:∀x0 x1 x2 H,p0  x0 x1 x2 H->p1  x0 x1 x2 H->p2  x0 x1 x2 H->p3  x0 x1 x2 H->p4  x0 x1 x2 H->p5  x0 x1 x2 H->G (S x0 x1 x2) H):∀σ H,(∃x0 x1 x2,σ=S x0 x1 x2/\p0 x0 x1 x2 H/\p1 x0 x1 x2 H/\p2 x0 x1 x2 H/\p3 x0 x1 x2 H/\p4 x0 x1 x2 H/\p5 x0 x1 x2 H)->G σ H:=by
 rintro _ H ⟨x0,x1,x2,rfl,h0,h1,h2,h3,h4,h5⟩;exact k x0 x1 x2 H h0 h1 h2 h3 h4 h5
theorem mJ{A0 A1 A2 A3:Type}{S:A0->A1->A2->A3->St}{p0 p1 p2:A0->A1->A2->A3->Hp->Prop}{G:St->Hp->Prop}(k:∀x0 x1 x2 x3 H,p0  x0 x1 x2 x3 H->p1  x0 x1 x2 x3 H->p2  x0 x1 x2 x3 H->G (S x0 x1 x2 x3) H):∀σ H,(∃x0 x1 x2 x3,σ=S x0 x1 x2 x3/\p0 x0 x1 x2 x3 H/\p1 x0 x1 x2 x3 H/\p2 x0 x1 x2 x3 H)->G σ H:=by
 rintro _ H ⟨x0,x1,x2,x3,rfl,h0,h1,h2⟩;exact k x0 x1 x2 x3 H h0 h1 h2
theorem MI{A0 A1 A2 A3:Type}{S:A0->A1->A2->A3->St}{p0 p1 p2 p3 p4 p5:A0->A1->A2->A3->Hp->Prop}{G:St->Hp->Prop}(k:∀x0 x1 x2 x3 H,p0  x0 x1 x2 x3 H->p1  x0 x1 x2 x3 H->p2  x0 x1 x2 x3 H->p3  x0 x1 x2 x3 H->p4  x0 x1 x2 x3 H->p5  x0 x1 x2 x3 H->G (S x0 x1 x2 x3) H):∀σ H,(∃x0 x1 x2 x3,σ=S x0 x1 x2 x3/\p0 x0 x1 x2 x3 H/\p1 x0 x1 x2 x3 H/\p2 x0 x1 x2 x3 H/\p3 x0 x1 x2 x3 H/\p4 x0 x1 x2 x3 H/\p5 x0 x1 x2 x3 H)->G σ H:=by
 rintro _ H ⟨x0,x1,x2,x3,rfl,h0,h1,h2,h3,h4,h5⟩;exact k x0 x1 x2 x3 H h0 h1 h2 h3 h4 h5
theorem MH{A0 A1 A2 A3 A4:Type}{S:A0->A1->A2->A3->A4->St}{p0 p1 p2 p3 p4 p5 p6 p7:A0->A1->A2->A3->A4->Hp->Prop}{G:St->Hp->Prop}(k:∀x0 x1 x2 x3 x4 H,p0  x0 x1 x2 x3 x4 H->p1  x0 x1 x2 x3 x4 H->p2  x0 x1 x2 x3 x4 H->p3  x0 x1 x2 x3 x4 H->p4  x0 x1 x2 x3 x4 H->p5  x0 x1 x2 x3 x4 H->p6  x0 x1 x2 x3 x4 H->p7  x0 x1 x2 x3 x4 H->G (S x0 x1 x2 x3 x4) H):∀σ H,(∃x0 x1 x2 x3 x4,σ=S x0 x1 x2 x3 x4/\p0 x0 x1 x2 x3 x4 H/\p1 x0 x1 x2 x3 x4 H/\p2 x0 x1 x2 x3 x4 H/\p3 x0 x1 x2 x3 x4 H/\p4 x0 x1 x2 x3 x4 H/\p5 x0 x1 x2 x3 x4 H/\p6 x0 x1 x2 x3 x4 H/\p7 x0 x1 x2 x3 x4 H)->G σ H:=by
 rintro _ H ⟨x0,x1,x2,x3,x4,rfl,h0,h1,h2,h3,h4,h5,h6,h7⟩;exact k x0 x1 x2 x3 x4 H h0 h1 h2 h3 h4 h5 h6 h7
theorem mH{A0 A1 A2 A3 A4 A5:Type}{S:A0->A1->A2->A3->A4->A5->St}{p0 p1 p2 p3:A0->A1->A2->A3->A4->A5->Hp->Prop}{G:St->Hp->Prop}(k:∀x0 x1 x2 x3 x4 x5 H,p0  x0 x1 x2 x3 x4 x5 H->p1  x0 x1 x2 x3 x4 x5 H->p2  x0 x1 x2 x3 x4 x5 H->p3  x0 x1 x2 x3 x4 x5 H->G (S x0 x1 x2 x3 x4 x5) H):∀σ H,(∃x0 x1 x2 x3 x4 x5,σ=S x0 x1 x2 x3 x4 x5/\p0 x0 x1 x2 x3 x4 x5 H/\p1 x0 x1 x2 x3 x4 x5 H/\p2 x0 x1 x2 x3 x4 x5 H/\p3 x0 x1 x2 x3 x4 x5 H)->G σ H:=by
 rintro _ H ⟨x0,x1,x2,x3,x4,x5,rfl,h0,h1,h2,h3⟩;exact k x0 x1 x2 x3 x4 x5 H h0 h1 h2 h3
theorem JD{A0 A1 A2 A3 A4 A5 A6 A7:Type}{S:A0->A1->A2->A3->A4->A5->A6->A7->St}{p0 p1 p2 p3 p4 p5 p6 p7 p8 p9:A0->A1->A2->A3->A4->A5->A6->A7->Hp->Prop}{G:St->Hp->Prop}(k:∀x0 x1 x2 x3 x4 x5 x6 x7 H,p0  x0 x1 x2 x3 x4 x5 x6 x7 H->p1  x0 x1 x2 x3 x4 x5 x6 x7 H->p2  x0 x1 x2 x3 x4 x5 x6 x7 H->p3  x0 x1 x2 x3 x4 x5 x6 x7 H->p4  x0 x1 x2 x3 x4 x5 x6 x7 H->p5  x0 x1 x2 x3 x4 x5 x6 x7 H->p6  x0 x1 x2 x3 x4 x5 x6 x7 H->p7  x0 x1 x2 x3 x4 x5 x6 x7 H->p8  x0 x1 x2 x3 x4 x5 x6 x7 H->p9  x0 x1 x2 x3 x4 x5 x6 x7 H->G (S x0 x1 x2 x3 x4 x5 x6 x7) H):∀σ H,(∃x0 x1 x2 x3 x4 x5 x6 x7,σ=S x0 x1 x2 x3 x4 x5 x6 x7/\p0 x0 x1 x2 x3 x4 x5 x6 x7 H/\p1 x0 x1 x2 x3 x4 x5 x6 x7 H/\p2 x0 x1 x2 x3 x4 x5 x6 x7 H/\p3 x0 x1 x2 x3 x4 x5 x6 x7 H/\p4 x0 x1 x2 x3 x4 x5 x6 x7 H/\p5 x0 x1 x2 x3 x4 x5 x6 x7 H/\p6 x0 x1 x2 x3 x4 x5 x6 x7 H/\p7 x0 x1 x2 x3 x4 x5 x6 x7 H/\p8 x0 x1 x2 x3 x4 x5 x6 x7 H/\p9 x0 x1 x2 x3 x4 x5 x6 x7 H)->G σ H:=by
 rintro _ H ⟨x0,x1,x2,x3,x4,x5,x6,x7,rfl,h0,h1,h2,h3,h4,h5,h6,h7,h8,h9⟩;exact k x0 x1 x2 x3 x4 x5 x6 x7 H h0 h1 h2 h3 h4 h5 h6 h7 h8 h9
theorem L9{S:St}{G:St->Hp->Prop}{H0:Hp}(k:G S H0):∀σ H,(σ=S/\H0=H)->G σ H:=by
 rintro _ _ ⟨rfl,rfl⟩;exact k
theorem IG{S:St}{p0:Hp->Prop}{G:St->Hp->Prop}{H0:Hp}(k:p0 H0->G S H0):∀σ H,(σ=S/\H0=H/\p0 H)->G σ H:=by
 rintro _ _ ⟨rfl,rfl,h0⟩;exact k h0
theorem iG{A0:Type}{S:A0->St}{G:St->Hp->Prop}{H0:Hp}(k:∀x0,G (S x0) H0):∀σ H,(∃x0,σ=S x0/\H0=H)->G σ H:=by
 rintro _ _ ⟨x0,rfl,rfl⟩;exact k x0
theorem v6{A0:Type}{S:A0->St}{p0:A0->Hp->Prop}{G:St->Hp->Prop}{H0:Hp}(k:∀x0,p0  x0 H0->G (S x0) H0):∀σ H,(∃x0,σ=S x0/\H0=H/\p0 x0 H)->G σ H:=by
 rintro _ _ ⟨x0,rfl,rfl,h0⟩;exact k x0 h0
noncomputable def Ew(i:Nat):Stmt:=PySem.Challenge.pw_holebook_k73_core_and_glue_rows.main.body.getD i (.Pass ⟨0,0,0,0⟩)
structure Txt(K:W.Frag)(mg:Str->Option Value)(Aq:Addr):Prop where
 m_Desk:mg "Desk"=some (.ref Aq)
 cl_Desk:Cls K Aq
 na_Desk_kept:NoAttr K Aq "kept"
 x_FACE_COUNTS:∃a,mg "FACE_COUNTS"=some (.ref a)/\∀H,Dv K H a (([0,2,3,4]:List Int).map V.int)
 x_MOST_PIECES:∃t,mg "MOST_PIECES"=some (.int 40 t)
 x_LONGEST_NAME:∃t,mg "LONGEST_NAME"=some (.int 8 t)
 n_isinstance:mg "isinstance"=none
 n_int:mg "int"=none
 n_bool:mg "bool"=none
 n_max:mg "max"=none
 n_len:mg "len"=none
 n_all:mg "all"=none
 n_tuple:mg "tuple"=none
 n_range:mg "range"=none
 n_list:mg "list"=none
 n_enumerate:mg "enumerate"=none
 n_dict:mg "dict"=none
 n_min:mg "min"=none
 n_zip:mg "zip"=none
 n_str:mg "str"=none
noncomputable def Zm(ns:List Int)(lo hi:Option Int):List Int:=(ns.drop (HT.sIx ns.length 0 lo)).take (HT.sIx ns.length ns.length hi-HT.sIx ns.length 0 lo)
theorem eZ(ns:List Int)(lo hi:Option Int):cutV (ns.map V.int) lo hi=(Zm ns lo hi).map V.int:=by
 unfold cutV Zm;rw[qa1,ql9,qq3]
theorem EZ(ns:List Int)(lo hi:Option Int):(Zm ns lo hi).length<=ns.length:=by
 unfold Zm;rw[qb5,qh4];omega
theorem Up:Br []:=fun k q h=>by simp at h
theorem NQ:(["face","shape","level"]:List Str).Nodup:=by decide +kernel
theorem nQ:(["face","spots"]:List Str).Nodup:=by decide +kernel
theorem NP:(["old","spots","shape"]:List Str).Nodup:=by decide +kernel
theorem i7:(["place","thing"]:List Str).Nodup:=by decide +kernel
theorem kN:(["place"]:List Str).Nodup:=by decide +kernel
theorem kM:(["place","kept"]:List Str).Nodup:=by decide +kernel
theorem KL:(["place","spots","shape"]:List Str).Nodup:=by decide +kernel
theorem kL:(["first","kept"]:List Str).Nodup:=by decide +kernel
theorem DR:(["place","first"]:List Str).Nodup:=by decide +kernel
theorem kK:(["pair","shape"]:List Str).Nodup:=by decide +kernel
theorem KJ:(["first","high","low"]:List Str).Nodup:=by decide +kernel
theorem dR:(["row"]:List Str).Nodup:=by decide +kernel
theorem DQ:(["place","piece","names"]:List Str).Nodup:=by decide +kernel
theorem kJ:(["face","names"]:List Str).Nodup:=by decide +kernel
theorem dQ:(["word"]:List Str).Nodup:=by decide +kernel
theorem KI:(["sign"]:List Str).Nodup:=by decide +kernel
theorem DP:(["name","spots"]:List Str).Nodup:=by decide +kernel
theorem kI:(["place","names"]:List Str).Nodup:=by decide +kernel
theorem KH:(["lot","names","papers"]:List Str).Nodup:=by decide +kernel
theorem kH:(["word","spots"]:List Str).Nodup:=by decide +kernel
theorem KG:(["_law_place","_law_pieces"]:List Str).Nodup:=by decide +kernel
theorem kF:(["_law_face","_law_pieces","_law_j"]:List Str).Nodup:=by decide +kernel
theorem kE:(["_law_face","_law_pieces","_law_faces"]:List Str).Nodup:=by decide +kernel
theorem KD:(["_law_face","_law_pieces","_law_level_here"]:List Str).Nodup:=by decide +kernel
theorem kD:(["_law_letter"]:List Str).Nodup:=by decide +kernel
theorem KC:(["_law_i","_law_word"]:List Str).Nodup:=by decide +kernel
theorem kC:(["_law_word","_law_family","_law_words"]:List Str).Nodup:=by decide +kernel
theorem kB:(["_law_face","_law_words"]:List Str).Nodup:=by decide +kernel
theorem KA:(["_law_k","_law_ahead","_law_letters","_law_shift","_law_nexts","_law_behind"]:List Str).Nodup:=by decide +kernel
theorem JZ:(["_law_k"]:List Str).Nodup:=by decide +kernel
theorem jZ:(["_law_k","_law_letters","_law_shift"]:List Str).Nodup:=by decide +kernel
theorem dP:(["_law_face","_law_names_here"]:List Str).Nodup:=by decide +kernel
theorem i6:(["_law_piece"]:List Str).Nodup:=by decide +kernel
theorem JY:(["_law_place","_law_left"]:List Str).Nodup:=by decide +kernel
theorem jY:(["_law_one"]:List Str).Nodup:=by decide +kernel
theorem JX:(["_law_face","_law_names_here","_law_first"]:List Str).Nodup:=by decide +kernel
theorem jX:(["_law_one","_law_high","_law_low"]:List Str).Nodup:=by decide +kernel
theorem JW:(["_law_at","_law_pieces","_law_place"]:List Str).Nodup:=by decide +kernel
theorem jW:(["_law_face"]:List Str).Nodup:=by decide +kernel
theorem JV:(["_law_pair","_law_names_here"]:List Str).Nodup:=by decide +kernel
section
variable{P:Program}{w:World}{K:W.Frag}{mg:Str->Option Value}{base:Heap}{Aq:Addr}
noncomputable abbrev M2:Stmt:=Ew 2
theorem Yg:FnScope ["thing"] ["thing"] (As M2):=Bb
theorem Yr{f:Addr}{fd:FuncData}(F:D5 K "is_whole" "is_whole" M2 f fd)(T:Txt K mg Aq) :Bt P w K mg base Dw 1 f fd ["thing"] (Ic K):=by
 refine F.ok Yg (fun vs H Q E h=>?_) (fun Da A outer s H vs Q E hr h=>?_)
 . obtain⟨_,_,rfl,_⟩:=h;rfl
 . obtain⟨x,d,rfl,hx,k⟩:=h;refine⟨_,(Ag (Av (Dy (Ao (Cf (K:=K)) T.n_isinstance Bn (Aa (pv 0) (Aa (Er (v:=.ty "int") rfl T.n_int boot_intT rfl) Ac))) (Fh (dF (Ao (Cf (K:=K)) T.n_isinstance Bn (Aa (pv 0) (Aa (Er (v:=.ty "bool") rfl T.n_bool S7 rfl) Ac)))))))),?_⟩;refine⟨_,rfl,_,_,d,rfl,.inl rfl,hx,_,rfl,?_⟩;refine ite2 (fun e=>?_) (fun e=>?_)
   . refine⟨_,rfl,_,_,d,rfl,.inr (.inl rfl),hx,_,rfl,?_⟩;have e2:Fu d=!Wv "bool" d:=by unfold Fu;rw[e];rfl
     rw[e2]at k;exact k
   . have e2:Fu d=false:=by unfold Fu;simp[e]
     rw[e2]at k;exact k
noncomputable abbrev M0:Stmt:=Ew 7
theorem Yf:FnScope ["piece"] ["piece"] (As M0):=Bb
theorem Yq{f:Addr}{fd:FuncData}(F:D5 K "level_of" "level_of" M0 f fd)(T:Txt K mg Aq) :Bt P w K mg base Dw 1 f fd ["piece"] (Di K):=by
 refine F.ok Yf (fun vs H Q E h=>?_) (fun Da A outer s H vs Q E hr h=>?_)
 . obtain⟨_,_,rfl,_⟩:=h;rfl
 . obtain⟨x,ds,rfl,hx,k⟩:=h;refine⟨_,(Ag (Av (Ao (Ly (by rfl)) T.n_max Lz (Aa (Ay K3 (Ao (Ai (K:=K)) T.n_len qe0 (Aa (pv 0) Ac)) Af) (Aa Af Ac))))),?_⟩
   obtain⟨p,us,e,hq,hl⟩:∃(p:Addr) (us:List V),x=.ref p/\(SqL K H p us\/Dv K H p us)/\us.length=ds.length:=by
    rcases hx with⟨p,us,e,hq,r⟩|⟨p,us,e,hq,r⟩
    . exact⟨p,us,e,.inl hq,r.length⟩
    . exact⟨p,us,e,.inr hq,r.length⟩
   subst e;refine⟨_,rfl,p,us,rfl,hq,_,_,rfl,rfl,_,_,rfl,?_⟩;rw[hl];exact k
noncomputable abbrev Is:Stmt:=Ew 10
theorem G9:FnScope ["shape","faces","j","i"] ["shape","faces"] (As Is):=Bb
theorem Rz{f:Addr}{fd:FuncData}(F:D5 K "faces_agree" "faces_agree" Is f fd)(T:Txt K mg Aq) :Bt P w K mg base Dw 1 f fd ["shape","faces"] (Ko K):=by
 refine F.ok G9 (fun vs H Q E h=>?_) (fun Da A outer s H vs Q E hr h=>?_)
 . obtain⟨_,_,_,_,rfl,_⟩:=h;rfl
 . obtain⟨a,v,xs,p,rfl,hL,hv,FL,hf,k⟩:=h;obtain⟨pa,rfl,hq⟩:=hv.sq;have hpl:(p.map V.int).length=p.length:=qa1 ..
   refine⟨_,(Ad (Ce qc3 rfl (Bu (by rfl) T.n_range (Aa (Ao (Ai (K:=K)) T.n_len qe0 (Aa (pv 1) Ac)) Ac)) (Am (i:=2) G9.nd) (Ag (Ce qc3 rfl (Bu (by rfl) T.n_range (Aa (pv 2) Ac)) (Am (i:=3) G9.nd) (Ag (Bj (Aw Uy (Ap (Bc (K:=K)) (Ap (Ah (K:=K)) (pv 0) (Ap (Bc (K:=K)) (pv 1) (pv 2) (fun _ _=>rfl)) (fun _ _=>rfl)) (pv 3) (fun _ _=>rfl)) (Ap (Bc (K:=K)) (Ap (Ah (K:=K)) (pv 0) (Ap (Bc (K:=K)) (pv 1) (pv 3) (fun _ _=>rfl)) (fun _ _=>rfl)) (Ay K3 (pv 2) Af) (fun _ _=>rfl)) (A9 _)) (Ag (Av E3)) Ax)))))
    (Ag (Av E3))),?_⟩
   refine⟨_,rfl,pa,_,rfl,.inr hq,_,rfl,O9m,O9m,?_⟩;rw[hpl]
   refine Cm (lo:=0) (n:=((p.length:Nat):Int).toNat) (fun j σ H2=>H=H2/\(∃o2 o3,σ=[rS a,rS pa,o2,o3])/\∀j' i',j'<j->i'<j'->agreeAt xs p j' i'=true)
    ⟨rfl,⟨none,none,rfl⟩,fun j' i' h=>absurd h O9m⟩ ?_ ?_
   . rintro j σ H2 hj ⟨rfl,⟨o2,o3,rfl⟩,hall⟩;have hj':j<p.length:=O9m
     refine⟨_,rfl,_,rfl,O9m,O9m,?_⟩
     refine Cm (lo:=0) (n:=((0:Int)+(j:Int)).toNat) (fun i σ H2=>H=H2/\(∃o3,σ=[rS a,rS pa,some (.int (0+j)),o3])/\∀i',i'<i->agreeAt xs p j i'=true)
      ⟨rfl,⟨_,rfl⟩,fun i' h=>absurd h O9m⟩ ?_ ?_
     . rintro i σ H2 hi ⟨rfl,⟨o3,rfl⟩,hall2⟩;have hij:i<j:=O9m
       have mj:p.getD j 0∈p:=by rw[qa4,qa0 hj'];exact qc8 _
       have mi:p.getD i 0∈p:=by rw[qa4,qa0 (by omega)];exact qc8 _
       obtain⟨j0,j1,j2⟩:=hf _ mj;obtain⟨i0,i1,i2⟩:=hf _ mi;obtain⟨_,z,hq1,iX⟩:=TI.get (i:=(0:Int)+(j:Int)) hv O9m O9m;cases z;rw[show((0:Int)+(j:Int)).toNat=j by omega]at iX;obtain⟨_,z,hq2,at2⟩:=TI.get (i:=(0:Int)+(i:Int)) hv O9m O9m;cases z;rw[show((0:Int)+(i:Int)).toNat=i by omega]at at2;obtain⟨UX,v1,hu1,lM,FI⟩:=LT.get hL j0 j1;obtain⟨uX,v2,PF,xS,MO⟩:=LT.get hL i0 i1;obtain⟨b1,e1,hb1,US⟩:=TI.get (i:=(0:Int)+(i:Int)) FI O9m O9m;obtain⟨b2,e2,hb2,uS⟩:=TI.get (i:=(0:Int)+(j:Int)-1) MO O9m O9m;subst e1 e2;rw[show((0:Int)+(i:Int)).toNat=i by omega]at US;rw[show((0:Int)+(j:Int)-1).toNat=j-1 by omega]at uS;refine⟨_,rfl,_,rfl,_,rfl,pa,_,_,_,rfl,rfl,hq1,iX,a,UX,_,_,rfl,rfl,hu1,lM,_,rfl,b1,_,_,_,rfl,rfl,hb1,US,?_⟩;refine⟨_,rfl,_,rfl,_,rfl,pa,_,_,_,rfl,rfl,hq2,at2,a,uX,_,_,rfl,rfl,PF,xS,_,rfl,_,_,rfl,rfl,b2,_,_,_,rfl,rfl,hb2,uS,?_⟩;refine⟨rfl,_,rfl,?_⟩;by_cases hag:(xs.getD (p.getD j 0).toNat []).getD i 0=(xs.getD (p.getD i 0).toNat []).getD (j-1) 0
       . refine Dt (PR hag) ?_;refine⟨rfl,⟨_,rfl⟩,fun i' h=>?_⟩;by_cases hz:i'=i
         . subst hz;unfold agreeAt;exact qe9 hag
         . exact hall2 i' O9m
       . refine Hz (pB hag) ?_
         have e2:E1 xs p=false:=by
          cases q:E1 xs p with
          | false=>rfl
          | true =>
            unfold E1 at q;rw[qd2]at q;have q2:=q j (qd7.mpr hj');rw[qd2]at q2;have q3:=q2 i (qd7.mpr hij);exact absurd (qe4 q3) hag
         rw[e2]at k;exact k
     . rintro σ H2 ⟨rfl,⟨o3,rfl⟩,hall2⟩;refine⟨rfl,⟨_,_,rfl⟩,fun j' i' h1 h2=>?_⟩;by_cases hz:j'=j
       . subst hz;exact hall2 i' O9m
       . exact hall j' i' O9m h2
   . rintro σ H2 ⟨rfl,⟨o2,o3,rfl⟩,hall⟩
     have e2:E1 xs p=true:=by
      unfold E1;rw[qd2];intro j hj;rw[qd2];intro i hi;have:=qd7.mp hj;exact hall j i O9m (qd7.mp hi)
     rw[e2]at k;exact k
noncomputable abbrev Ku:Stmt:=Ew 11
theorem V6:FnScope ["spots","piece"] ["spots","piece"] (As Ku):=Bb
theorem Wh{f:Addr}{fd:FuncData}(F:D5 K "called_by" "called_by" Ku f fd)(T:Txt K mg Aq) :Bt P w K mg base Dw 1 f fd ["spots","piece"] (Mu K):=by
 refine F.ok V6 (fun vs H Q E h=>?_) (fun Da A outer s H vs Q E hr h=>?_)
 . obtain⟨_,_,rfl,_⟩:=h;rfl
 . obtain⟨b0,v0,rfl,hh⟩:=h;have J5:=hr.u8;refine⟨_,(Ag (Av (Cg (De (K:=K)) (by rfl) T.n_tuple C1 (Aa (Bm (N':=["face","spots"]) (cap:=[none,some 0]) (by rfl) (by kernel_rfl) (Et (K:=K) (pv 1)) (fun _ _ _ _=>(Am (i:=0) nQ)) (fun _ _ _ _=>Bk) (fun _ _ _ _=>(Ap (aR.or (Ah (K:=K)) (GZ (u1 J5))) (pv 1) (pv 0) (fun _ _=>rfl)))) Ac)))),?_⟩;rcases hh with⟨b,v,ms,fs,gf,ez,hb,hv,hfl,hlk,k⟩|⟨a,v,sp,fs,ez,hS,hv,hin,hfl,k⟩
   . cases ez;obtain⟨af,rfl,sq⟩:=TI.sq hv;refine⟨_,rfl,af,rfl,⟨_,sq⟩,fun D hD=>?_⟩
     refine Dg (K:=K) (a:=af) (xs:=fs.map V.int) (fun i ys τ H1=>Same H H1/\H1 D=some (.lst ys)/\ys=((fs.take i).map gf).map V.int/\∃o,τ=[o,rS b0])
      ⟨Same.new hD,Ab,rfl,none,rfl⟩ (fun i ys τ H1 _ ⟨s1,_⟩=>s1.seqT sq) ?_ ?_
     . rintro i y ys τ H1 hy ⟨s1,J9,hys,o,rfl⟩;have hi:i<fs.length:=by have:=(qa2.mp hy).1;simpa using this
       have EC:y=.int fs[i]:=by
        rw[qa3,qa0 hi]at hy;simpa using hy.symm
       subst EC;have hx:=hlk _ (qc8 hi)
       have e5:(fs.take (i+1)).map gf=(fs.take i).map gf++[gf fs[i]]:=by
        rw[qd6,qa0 hi,qa6];rfl
       generalize fs[i]=x at hx e5;refine⟨_,rfl,_,rfl,.inr ⟨b0,.int (gf x),rfl,HS (.inl (s1 _ _ hb)) hx,?_⟩⟩;refine⟨J9,Bh (by rw[hys,qa1,qa1,qb5];omega),s1.turn hD,Ab,?_,_,rfl⟩;rw[e5,qa6,hys];rfl
     . rintro ys τ H1 ⟨s1,J9,hys,_⟩;rw[qa1,qb4]at hys;refine⟨D,_,rfl,.inl ⟨.of J9,fun T1 hT1=>?_⟩⟩;refine k _ _ (s1.trans (Same.new hT1)) (TI.mk ?_);rw[←hys];exact .of Ab
   . cases ez;obtain⟨af,rfl,sq⟩:=TI.sq hv;refine⟨_,rfl,af,rfl,⟨_,sq⟩,fun D hD=>?_⟩
     refine Dg (K:=K) (a:=af) (xs:=fs.map V.int) (fun i ys τ H1=>Same H H1/\H1 D=some (.lst ys)/\ys=((fs.take i).map fun x=>sp.getD x.toNat 0).map V.int/\∃o,τ=[o,rS b0])
      ⟨Same.new hD,Ab,rfl,none,rfl⟩ (fun i ys τ H1 _ ⟨s1,_⟩=>s1.seqT sq) ?_ ?_
     . rintro i y ys τ H1 hy ⟨s1,J9,hys,o,rfl⟩;have hi:i<fs.length:=by have:=(qa2.mp hy).1;simpa using this
       have EC:y=.int fs[i]:=by
        rw[qa3,qa0 hi]at hy;simpa using hy.symm
       subst EC;obtain⟨x0,x1⟩:=hin _ (qc8 hi)
       have e5:(fs.take (i+1)).map (fun x=>sp.getD x.toNat 0)=(fs.take i).map (fun x=>sp.getD x.toNat 0)++[sp.getD fs[i].toNat 0]:=by
        rw[qd6,qa0 hi,qa6];rfl
       generalize fs[i]=x at x0 x1 e5;refine⟨_,rfl,_,rfl,.inl ⟨b0,_,_,_,rfl,rfl,s1.seq hS,IB x0 x1,?_⟩⟩;refine⟨J9,Bh (by rw[hys,qa1,qa1,qb5];omega),s1.turn hD,Ab,?_,_,rfl⟩;rw[e5,qa6,hys];rfl
     . rintro ys τ H1 ⟨s1,J9,hys,_⟩;rw[qa1,qb4]at hys;refine⟨D,_,rfl,.inl ⟨.of J9,fun T1 hT1=>?_⟩⟩;refine k _ _ (s1.trans (Same.new hT1)) (TI.mk ?_);rw[←hys];exact .of Ab
noncomputable abbrev Fy:Stmt:=Ew 41
theorem N2:FnScope ["thing"] ["thing"] (As Fy):=Bb
theorem Ob{f:Addr}{fd:FuncData}(F:D5 K "is_list_of_few" "is_list_of_few" Fy f fd)(T:Txt K mg Aq) :Bt P w K mg base Dw 1 f fd ["thing"] (Id K):=by
 refine F.ok N2 (fun vs H Q E h=>?_) (fun Da A outer s H vs Q E hr h=>?_)
 . obtain⟨_,_,rfl,_⟩:=h;rfl
 . obtain⟨v,xs,rfl,hL,hx,k⟩:=h;obtain⟨Ip,Ml⟩:=T.x_MOST_PIECES;obtain⟨a,us,rfl,hq,r⟩:=id hL;have hl:us.length=xs.length:=by have:=r.length;simpa using this
   refine⟨_,(Ag (Av (Dy (Ao (Cf (K:=K)) T.n_isinstance Bn (Aa (pv 0) (Aa (Er (v:=.ty "list") rfl T.n_list Ez rfl) Ac))) (Fh (Fi U0 (Ao (Ai (K:=K)) T.n_len qe0 (Aa (pv 0) Ac)) (Wc (v:=.int 40) (by rfl) Ml ⟨_,rfl⟩) (A9 _)))))),?_⟩;refine⟨_,rfl,.ref a,"list",_,rfl,.inr (.inr (.inr (.inr (.inl rfl)))),hL,_,rfl,?_⟩;refine Hz (by rfl) ?_;refine⟨_,rfl,a,_,rfl,.inl hq,_,_,rfl,rfl,?_⟩;show Q (.bl (decide ((us.length:Int)<=40))) H;rw[qe9 (by omega)];exact k
noncomputable abbrev Mx:Stmt:=Ew 46
theorem Yd:FnScope ["things"] ["things"] (As Mx):=Bb
theorem Yn{f:Addr}{fd:FuncData}(F:D5 K "spots_of" "spots_of" Mx f fd)(T:Txt K mg Aq) :Bt P w K mg base Dw 1 f fd ["things"] (Ox K):=by
 refine F.ok Yd (fun vs H Q E h=>?_) (fun Da A outer s H vs Q E hr h=>?_)
 . obtain⟨_,rfl,_⟩:=h;rfl
 . obtain⟨b0,rfl,hh⟩:=h;refine⟨_,(Ag (Av (Cg (t9 (by rfl)) (by rfl) T.n_dict u4 (Aa (Bm (N':=["place","thing"]) (cap:=[none,none]) (by rfl) (by kernel_rfl) (Ij (K:=K) (by rfl) T.n_enumerate (Aa (pv 0) Ac)) (fun _ _ _ _=>(Fj (K:=K) (n:=2) (by rfl) (B4 (Am (i:=0) i7) (B4 (Am (i:=1) i7) Fg)))) (fun _ _ _ _=>Bk) (fun _ _ _ _=>(Bs (Aa (pv 1) (Aa (pv 0) Ac))))) Ac)))),?_⟩;rcases hh with⟨b,ks,ez,hS,hnd,Se,kq⟩|⟨b,ks,ez,hS,hnd,Se,kq⟩
   . cases ez;refine⟨_,rfl,b0,rfl,⟨_,hS⟩,fun D hD=>?_⟩
     refine Lw (K:=K) (a:=b0) (xs:=ks.map V.int) (fun i zs τ G=>Same H G/\G D=some (.lst zs)/\(∃ts:List Addr,zs=ts.map V.ref/\ts.length=i/\∀(j:Nat) t,ts[j]?=some t->G t=some (.tup [.int (ks.getD j 0),.int j])/\t≠D)/\∃o1 o2,τ=[o1,o2])
      ⟨Same.new hD,Ab,⟨[],rfl,rfl,fun j t z=>by simp at z⟩,none,none,rfl⟩ (fun i zs τ G _ ⟨g,_⟩=>g.seq hS) ?_ ?_
     . rintro i x zs τ G p hx ⟨g,Bl,⟨ts,rfl,AB,hts⟩,o1,o2,rfl⟩ hp;have hi:i<ks.length:=by have:=(qa2.mp hx).1;simpa using this
       have hxv:x=.int (ks.getD i 0):=by
        rw[qa3,qa0 hi]at hx;rw[qa4,qa0 hi];simpa using hx.symm
       subst hxv;have gp:Same G (upd G p (.tup [.int i,.int (ks.getD i 0)])):=Same.new hp;have hp1:(upd G p (.tup [.int i,.int (ks.getD i 0)])) p=some (.tup [.int i,.int (ks.getD i 0)]):=Ab;generalize upd G p (.tup [.int i,.int (ks.getD i 0)])=G1 at gp hp1;refine⟨p,_,rfl,.of hp1,rfl,_,_,rfl,_,_,rfl,rfl,?_⟩;refine⟨_,rfl,_,rfl,Au (by simp),fun t ht=>?_⟩;have gt:=gp.trans (Same.new (o:=.tup [.int (ks.getD i 0),.int i]) ht);have NL:t≠D:=(Be (gp _ _ Bl) ht).symm;have hDt:=gt _ _ Bl;have fL:(upd G1 t (.tup [.int (ks.getD i 0),.int i])) t=some (.tup [.int (ks.getD i 0),.int i]):=Ab;generalize upd G1 t (.tup [.int (ks.getD i 0),.int i])=G2 at gt hDt fL;refine⟨hDt,Bh (by rw[qa1];omega),(g.trans gt).turn hD,Ab,⟨ts++[t],by simp,by simp[AB],fun j t' e2=>?_⟩,_,_,rfl⟩;rw[qp0]at e2;split at e2
       . obtain⟨h2',h3'⟩:=hts j t' e2;exact⟨by rw[A8 h3'];exact gt _ _ h2',h3'⟩
       . rename_i hj
         have hj0:j-ts.length=0:=by
          cases hz:j-ts.length with
          | zero=>rfl
          | succ m=>rw[hz]at e2;simp at e2
         rw[hj0]at e2;have et:t=t':=by simpa using e2
         subst et;have ej:j=i:=O9m
         subst ej;exact⟨by rw[A8 NL];exact fL,NL⟩
     . rintro zs τ G ⟨g,Bl,⟨ts,rfl,AB,hts⟩,_⟩;rw[qa1]at AB;refine⟨D,ts,cK (On ks),rfl,Bl,(by rw[LK,CM];exact AB),fun i t e2=>?_,fun E hE=>?_⟩
       . obtain⟨h2',_⟩:=hts i t e2;have hi:i<ks.length:=by have:=(qa2.mp e2).1;omega
         refine⟨(.inl (ks.getD i 0),.int i),?_,h2'⟩;unfold cK;rw[qa3,Xy hi];rfl
       . refine kq E _ (g.free hE) (g.trans (Same.new hE)) ?_;rw[Ab,Oc _ [] (by rw[List.nil_append];exact dN.mpr (v4 hnd)),List.nil_append]
   . cases ez;refine⟨_,rfl,b0,rfl,⟨_,hS⟩,fun D hD=>?_⟩
     refine Lw (K:=K) (a:=b0) (xs:=ks.map V.str) (fun i zs τ G=>Same H G/\G D=some (.lst zs)/\(∃ts:List Addr,zs=ts.map V.ref/\ts.length=i/\∀(j:Nat) t,ts[j]?=some t->G t=some (.tup [.str (nmAt ks j),.int j])/\t≠D)/\∃o1 o2,τ=[o1,o2])
      ⟨Same.new hD,Ab,⟨[],rfl,rfl,fun j t z=>by simp at z⟩,none,none,rfl⟩ (fun i zs τ G _ ⟨g,_⟩=>g.seq hS) ?_ ?_
     . rintro i x zs τ G p hx ⟨g,Bl,⟨ts,rfl,AB,hts⟩,o1,o2,rfl⟩ hp;have hi:i<ks.length:=by have:=(qa2.mp hx).1;simpa using this
       have hxv:x=.str (nmAt ks i):=by
        rw[qa3,Gm (d:=Str.empty) hi]at hx;simpa using hx.symm
       subst hxv;have gp:Same G (upd G p (.tup [.int i,.str (nmAt ks i)])):=Same.new hp;have hp1:(upd G p (.tup [.int i,.str (nmAt ks i)])) p=some (.tup [.int i,.str (nmAt ks i)]):=Ab;generalize upd G p (.tup [.int i,.str (nmAt ks i)])=G1 at gp hp1;refine⟨p,_,rfl,.of hp1,rfl,_,_,rfl,_,_,rfl,rfl,?_⟩;refine⟨_,rfl,_,rfl,Au (by simp),fun t ht=>?_⟩;have gt:=gp.trans (Same.new (o:=.tup [.str (nmAt ks i),.int i]) ht);have NL:t≠D:=(Be (gp _ _ Bl) ht).symm;have hDt:=gt _ _ Bl;have fL:(upd G1 t (.tup [.str (nmAt ks i),.int i])) t=some (.tup [.str (nmAt ks i),.int i]):=Ab;generalize upd G1 t (.tup [.str (nmAt ks i),.int i])=G2 at gt hDt fL;refine⟨hDt,Bh (by rw[qa1];omega),(g.trans gt).turn hD,Ab,⟨ts++[t],by simp,by simp[AB],fun j t' e2=>?_⟩,_,_,rfl⟩;rw[qp0]at e2;split at e2
       . obtain⟨h2',h3'⟩:=hts j t' e2;exact⟨by rw[A8 h3'];exact gt _ _ h2',h3'⟩
       . rename_i hj
         have hj0:j-ts.length=0:=by
          cases hz:j-ts.length with
          | zero=>rfl
          | succ m=>rw[hz]at e2;simp at e2
         rw[hj0]at e2;have et:t=t':=by simpa using e2
         subst et;have ej:j=i:=O9m
         subst ej;exact⟨by rw[A8 NL];exact fL,NL⟩
     . rintro zs τ G ⟨g,Bl,⟨ts,rfl,AB,hts⟩,_⟩;rw[qa1]at AB;refine⟨D,ts,zipN ks,rfl,Bl,(by rw[Q3];exact AB),fun i t e2=>?_,fun E hE=>?_⟩
       . obtain⟨h2',_⟩:=hts i t e2;have hi:i<ks.length:=by have:=(qa2.mp e2).1;omega
         exact⟨(.inr (nmAt ks i),.int i),Xx hi,h2'⟩
       . refine kq E _ _ (g.free hE) (g.trans (Same.new hE)) Ab ?_;exact Z0 hnd
noncomputable abbrev Jr:Stmt:=Ew 67
theorem F6:FnScope ["shape","face","told","place","piece"] ["shape","face"] (As Jr):=Bb
theorem Tq{f:Addr}{fd:FuncData}(F:D5 K "holders_of" "holders_of" Jr f fd)(T:Txt K mg Aq) :Bt P w K mg base Dw 1 f fd ["shape","face"] (Mb K):=by
 refine F.ok F6 (fun vs H Q E h=>?_) (fun Da A outer s H vs Q E hr h=>?_)
 . obtain⟨_,_,_,rfl,_⟩:=h;rfl
 . obtain⟨a,xs,f0,rfl,hL,M7,h4,k⟩:=h;have J5:=hr.u8;obtain⟨_,us,z,hq,r⟩:=id hL
   refine⟨_,(Ad (Al (i:=2) F6.nd (Cc Ac))
    (Ad (Ce qc3 rfl (Ij (K:=K) (by rfl) T.n_enumerate (Aa (pv 0) Ac)) (Fj (K:=K) (n:=2) (by rfl) (B4 (Am (i:=3) F6.nd) (B4 (Am (i:=4) F6.nd) Fg))) (Ag (C5 (B0 (K:=K) qc5 PySem.F.slot_list_extend PySem.F.type_list_extend BG (pv 2) (Aa (Ay jS (Cc (Aa (pv 3) Ac)) (gY (K:=K) PySem.F.plainAttrs_tuple PySem.F.slot_tuple_count PySem.F.type_tuple_count (kmt_count (K:=K) J5) (pv 4) (Aa (pv 1) Ac))) Ac)))))
    (Ag (Av (pv 2))))),?_⟩
   cases z;have ul:us.length=xs.length:=by have:=r.length;simpa using this
   refine⟨qb3 _,fun D hD=>?_⟩;have s0:Same H (upd H D (.lst [])):=Same.new hD
   refine⟨_,rfl,a,rfl,⟨_,s0.seq hq⟩,Li (K:=K) (a:=a) (xs:=us) (fun i σ G=>∃o3 o4,σ=[rS a,iS f0,rS D,o3,o4]/\Same H G/\G D=some (.lst ((Mj xs f0 i).map V.int)))
    ⟨none,none,rfl,s0,Ab⟩ (fun i σ G _ ⟨_,_,_,s,_⟩=>s.seq hq) ?_ ?_⟩
   . rintro i x σ G p hx ⟨o3,o4,rfl,g,Bl⟩ hp;have hi:i<us.length:=(qa2.mp hx).1;have hix:i<xs.length:=O9m
     obtain⟨dv,Sg,rv⟩:=r.getV hx
     have BR:dv=tI (xs.getD i []):=by
      rw[qa3,qa0 hix]at Sg;rw[qa4,qa0 hix];simpa using Sg.symm
     subst BR;have hmem:xs.getD i []∈xs:=Bq hix;have YD:=h4 _ hmem;have gp:Same G (upd G p (.tup [.int i,x])):=Same.new hp;have hp1:(upd G p (.tup [.int i,x])) p=some (.tup [.int i,x]):=Ab;generalize upd G p (.tup [.int i,x])=G1 at gp hp1;have tx:TI K G1 x (xs.getD i []):=Rep.same (g.trans gp) rv;have hl:=Vc h4 f0 i;have hcl:=Xm (xs.getD i []) f0;refine⟨p,_,rfl,.of hp1,rfl,_,_,rfl,_,_,rfl,rfl,?_⟩;refine⟨_,rfl,.inl ⟨rfl,_,.of (gp _ _ Bl)⟩,_,rfl,Au (by simp),fun E hE=>?_⟩;have g2:Same G1 (upd G1 E (.lst [.int i])):=Same.new hE;have v2:(upd G1 E (.lst [.int i])) E=some (.lst [.int i]):=Ab;generalize upd G1 E (.lst [.int i])=G2 at g2 v2;have TF:=qm4 g2 tx;obtain⟨ax,rfl,lU⟩:=TI.sq TF;refine⟨_,rfl,⟨ax,_,rfl,lU⟩,_,rfl,Bx (xs.getD i []),.int f0,.int f0,rfl,TF,rfl,(by rw[E8];decide),?_⟩;rw[r6];refine⟨E,_,_,rfl,rfl,v2,O9m,O9m,Au (by rw[qb9,qk5];omega),fun F hF=>?_⟩;rw[qb9,cW];have g3:Same G2 (upd G2 F (.lst (List.replicate (Gd (xs.getD i []) f0) (.int i)))):=Same.new hF;have v3:(upd G2 F (.lst (List.replicate (Gd (xs.getD i []) f0) (.int i)))) F=some (.lst (List.replicate (Gd (xs.getD i []) f0) (.int i))):=Ab;generalize upd G2 F (.lst (List.replicate (Gd (xs.getD i []) f0) (.int i)))=G3 at g3 v3;have gg:=(gp.trans g2).trans g3;refine⟨D,F,_,_,rfl,rfl,gg _ _ Bl,v3,Au (by rw[qa1,qi0];omega),?_⟩;refine⟨_,_,rfl,(g.trans gg).turn hD,?_⟩;rw[Ab];show _=some (HO.lst ((Mj xs f0 i++List.replicate (Gd (xs.getD i []) f0) (i:Int)).map V.int));rw[qa6,List.map_replicate]
   . rintro σ G ⟨o3,o4,rfl,g,Bl⟩;rw[ul]at Bl;exact⟨_,rfl,k D G hD g Bl⟩
noncomputable abbrev Mz:Stmt:=Ew 107
theorem Ye:FnScope ["names","place","piece"] ["names","place","piece"] (As Mz):=Bb
theorem Yp{f:Addr}{fd:FuncData}(F:D5 K "row_text" "row_text" Mz f fd)(T:Txt K mg Aq) :Bt P w K mg base Dw 1 f fd ["names","place","piece"] (P2 K):=by
 refine F.ok Ye (fun vs H Q E h=>?_) (fun Da A outer s H vs Q E hr h=>?_)
 . obtain⟨_,_,_,_,_,rfl,_⟩:=h;rfl
 . obtain⟨n,k0,v,names,p,rfl,hq,hk0,hv,hp,h4,hn,k⟩:=h;obtain⟨a,us,rfl,ht,r⟩:=id hv;refine⟨_,(Ag (Av (B0 (K:=K) qd8 qg1 qg0 (Fk (K:=K)) Bg (Aa (Ay (Ds (K:=K)) (Cc (Aa (Ap (Ah (K:=K)) (pv 0) (pv 1) (fun _ _=>rfl)) Ac)) (Bm (N':=["face","names"]) (cap:=[none,some 0]) (by rfl) (by kernel_rfl) (Et (K:=K) (pv 2)) (fun _ _ _ _=>(Am (i:=0) kJ)) (fun _ _ _ _=>Bk) (fun _ _ _ _=>(Ap (Ah (K:=K)) (pv 1) (pv 0) (fun _ _=>rfl))))) Ac)))),?_⟩;cases (Dr.mp r);obtain⟨z1,z2,z3⟩:=Gp hn hk0 hp h4;refine⟨rfl,_,rfl,_,rfl,n,_,_,_,rfl,rfl,hq,Kj O9m O9m,Au (by simp),fun l1 hl1=>?_⟩;have s1:Same H (upd H l1 (.lst [.str (nmAt names k0)])):=Same.new hl1;have e1:upd H l1 (.lst [.str (nmAt names k0)]) l1=some (.lst [.str (nmAt names k0)]):=Ab;rw[show((k0:Int)).toNat=k0 from qb9 k0];generalize upd H l1 (.lst [.str (nmAt names k0)])=H1 at s1 e1;refine⟨_,rfl,a,rfl,⟨_,s1.seqT ht⟩,fun D hD=>?_⟩
   refine Dg (K:=K) (a:=a) (xs:=p.map V.int) (fun i ys τ G=>Same H1 G/\G D=some (.lst ys)/\ys=((p.take i).map fun f=>nmAt names f.toNat).map V.str/\∃o,τ=[o,rS n])
    ⟨Same.new hD,Ab,rfl,none,rfl⟩ (fun i ys τ G _ ⟨s2,_⟩=>(s1.trans s2).seqT ht) ?_ ?_
   . rintro i x ys τ G hx ⟨s2,Hq,rfl,o,rfl⟩;rw[qa3]at hx;obtain⟨f,hf,rfl⟩:=qb1.mp hx;have hi:i<p.length:=(qa2.mp hf).1;obtain⟨f0,f1⟩:=hp f (qa8 hf);refine⟨_,rfl,_,rfl,n,_,_,_,rfl,rfl,(s1.trans s2).seq hq,Kj f0 f1,Hq,Bh (by simp;omega),s2.turn hD,Ab,?_,_,rfl⟩;rw[qg5,hf,qa6,qa6];rfl
   . rintro ys τ G ⟨s2,Hq,rfl,_⟩;rw[qa1,qb4]at Hq;refine⟨l1,D,_,_,rfl,rfl,.of (s2 _ _ e1),.of Hq,Au (by simp;omega),fun c hc=>?_⟩;have s3:=(s1.trans s2).trans (Same.new (o:=.lst ([V.str (nmAt names k0)]++(p.map fun f=>nmAt names f.toNat).map V.str)) hc);refine⟨Str.ofString " ",c,Fq names k0 p,rfl,rfl,.of Ab,?_,?_⟩
     . have e:(Str.ofString " ").length=1:=by decide +kernel
       rw[e];omega
     . rw[Nn];exact k _ s3
noncomputable abbrev O6:Stmt:=Ew 109
theorem b8:FnScope ["word"] ["word"] (As O6):=Bb
theorem f9{f:Addr}{fd:FuncData}(F:D5 K "is_name" "is_name" O6 f fd)(T:Txt K mg Aq) :Bt P w K mg base Dw 1 f fd ["word"] (Jm K):=by
 refine F.ok b8 (fun vs H Q E h=>?_) (fun Da A outer s H vs Q E hr h=>?_)
 . obtain⟨_,rfl,_⟩:=h;rfl
 . obtain⟨x,rfl,hn,k⟩:=h;obtain⟨Kn,S5⟩:=T.x_LONGEST_NAME;have hz:x.length<=sizeLine:=Au (by have:=hn.le;omega);refine⟨_,(Ag (Av (Dy (Ry U0 U0 Af (Ao Kc T.n_len qe0 (Aa (pv 0) Ac)) (Wc (v:=.int 8) (by rfl) S5 ⟨_,rfl⟩)) (Fh (Ao (F1 (K:=K) (by rfl)) T.n_all Gz (Aa (Bm (N':=["sign"]) (cap:=[none]) (by rfl) (by kernel_rfl) (JP (pv 0)) (fun _ _ _ _=>(Am (i:=0) KI)) (fun _ _ _ _=>Bk) (fun _ _ _ _=>(Ry Uz Uz Bg (pv 0) Bg))) Ac)))))),?_⟩;refine⟨_,rfl,x,rfl,hz,_,_,rfl,rfl,_,rfl,?_⟩;refine Hz (by have:=hn.pos;simp;omega) ?_;refine⟨_,_,rfl,rfl,_,rfl,?_⟩;refine Hz (by have:=hn.le;simp;omega) ?_;refine⟨_,rfl,x,rfl,?_,fun D hD=>?_⟩
   . rw[←Array.all_toList,qd2];intro c hc;have:=hn.az c hc;exact qe9 O9m
   refine FD (x:=x) (fun i ys τ H1=>Same H H1/\H1 D=some (.lst ys)/\ys=(List.replicate i true).map V.bl/\∃o,τ=[o])
    ⟨Same.new hD,Ab,rfl,none,rfl⟩ ?_ ?_
   . rintro i c ys τ H1 hc ⟨s1,J9,rfl,o,rfl⟩;have hi:i<x.cps.size:=(Array.getElem?_eq_some_iff.mp hc).1;have yD:x.cps.size<=8:=hn.le;obtain⟨xF,SI⟩:=hn.az c (by rw[Array.mem_toList_iff];exact Array.mem_of_getElem? hc);refine⟨_,rfl,_,_,rfl,rfl,_,rfl,?_⟩;refine Hz (oS xF) ?_;refine⟨_,_,rfl,rfl,J9,Bh (by simp;omega),s1.turn hD,Ab,?_,_,rfl⟩;rw[ql0,qa6]
     congr 2
     exact congrArg V.bl (OS SI)
   . rintro ys τ H1 ⟨s1,J9,rfl,_⟩;refine⟨D,List.replicate x.cps.size true,rfl,.of J9,?_⟩;rw[show(List.replicate x.cps.size true).all id=true by simp];exact k H1 s1
noncomputable abbrev O2:Stmt:=Ew 111
theorem b6:FnScope ["spots","name"] ["spots","name"] (As O2):=Bb
theorem e9{f:Addr}{fd:FuncData}(F:D5 K "spot_of" "spot_of" O2 f fd)(T:Txt K mg Aq) :Bt P w K mg base Dw 1 f fd ["spots","name"] (Mt K):=by
 refine F.ok b6 (fun vs H Q E h=>?_) (fun Da A outer s H vs Q E hr h=>?_)
 . obtain⟨_,_,_,_,rfl,_⟩:=h;rfl
 . obtain⟨d,Az,x,i,rfl,hd,hv,k⟩:=h;have J5:=hr.u8
   refine⟨_,(Ad (Bj (Aw (Ux (u1 J5)) (pv 1) (pv 0) rfl) (Ag Ea) Ax)
    (Ag (Av (Wd (u1 J5) (pv 0) (pv 1) (fun _ _=>rfl))))),?_⟩
   refine⟨_,rfl,_,rfl,d,Az,.inr x,rfl,hd,rfl,_,rfl,?_⟩;refine Dt (by rw[hv];simp) ?_;exact⟨_,rfl,_,rfl,d,.int i,rfl,.inl ⟨Az,.inr x,.inl hd,rfl,hv.symm⟩,k⟩
noncomputable abbrev Iv:Stmt:=Qy (Ew 113) 0
theorem Rj:FnScope ["self"] ["self"] (As Iv):=Bb
theorem R5{f:Addr}{fd:FuncData}(F:D5 K "__init__" "Desk.__init__" Iv f fd)(T:Txt K mg Aq) :Bt P w K mg base Dw 1 f fd ["self"] (Nz K Aq):=by
 refine F.ok Rj (fun vs H Q E h=>?_) (fun Da A outer s H vs Q E hr h=>?_)
 . obtain⟨_,_,rfl,_⟩:=h;rfl
 . obtain⟨a,dx,rfl,ha,k⟩:=h;refine⟨_,(Ag (GX (K:=K) (pv 0) Yi)),?_⟩;refine fun d hd=>?_;have dS:a≠d:=fun z=>by rw[←z,ha]at hd;cases hd
   refine⟨_,rfl,a,Aq,dx,[],rfl,(by rw[A8 dS];exact ha),T.cl_Desk,T.na_Desk_kept,by decide,?_⟩;refine k d _ hd (fun c o hc e=>?_) ⟨⟨dx,Ab⟩,dS,[],?_,qb3 _,fun x=>.inl ⟨rfl,rfl⟩⟩
   . rw[A8 hc];exact Same.new hd _ _ e
   . rw[A8 dS.symm];exact Ab
noncomputable abbrev K0:Stmt:=Qy (Ew 113) 2
theorem N4:FnScope ["self","name","pair","many"] ["self","name","pair"] (As K0):=Bb
theorem Wo{f:Addr}{fd:FuncData}(F:D5 K "keep" "Desk.keep" K0 f fd)(T:Txt K mg Aq) :Bt P w K mg base Dw 1 f fd ["self","name","pair"] (Jo K Aq):=by
 refine F.ok N4 (fun vs H Q E h=>?_) (fun Da A outer s H vs Q E hr h=>?_)
 . obtain⟨_,_,_,_,_,_,_,_,rfl,_⟩:=h;rfl
 . obtain⟨a,d,m,n,x,v,xs,ns,rfl,hD,hn,hP,hx,k⟩:=h;have J5:=hr.u8;obtain⟨⟨dx,hob⟩,dS,Az,hd,Se,hent⟩:=id hD;obtain⟨t,L,N,rfl,ht,hL,hN⟩:=id hP;obtain⟨us,WD,IQ⟩:=LT.len hL
   refine⟨_,(Ad (y8 (u1 J5) (Of (K:=K) (pv 0)) (pv 1) (pv 2) (by rfl))
    (Ad (Al (i:=3) N4.nd (Ao (Ai (K:=K)) T.n_len qe0 (Aa (Ap (Bc (K:=K)) (pv 2) Af (fun _ _=>rfl)) Ac)))
    (Ag (Av (DG (pv 3)))))),?_⟩
   refine⟨_,rfl,_,rfl,a,Aq,dx,_,_,rfl,hob,T.cl_Desk,T.na_Desk_kept,rfl,_,rfl,d,_,rfl,fH.k (k:=.inr x) hd (Au O9m),?_⟩
   have s2:Same (hid1 H d) (upd H d (.dK (putK Az (.inr x) (.ref t)))):=by
    have:=Ck (H:=upd H d (.dK (putK Az (.inr x) (.ref t)))) (d:=d)
    rwa [Sf]at this
   have nY:=hD.put (x:=x) hd hP;have s3:Same (hid1 H d) (hid1 (upd H d (.dK (putK Az (.inr x) (.ref t)))) d):=by rw[Sf];exact Same.refl _
   generalize upd H d (.dK (putK Az (.inr x) (.ref t)))=H2 at s2 s3 nY;refine⟨_,rfl,t,_,_,_,rfl,rfl,.of (s2 _ _ ht),rfl,L,us,rfl,.inl (s2.seq WD),?_⟩;refine⟨_,rfl,_,rfl,?_,?_⟩
   . exact Pe O9m
   . rw[aX,IQ];exact k H2 s3 nY
noncomputable abbrev Me:Stmt:=Ew 116
theorem R3{f:Addr}{fd:FuncData}(F:D5 K "are_figures" "are_figures" Me f fd)(T:Txt K mg Aq):Bt P w K mg base Dw 1 f fd ["word"] (aY K):=⟨fun _ _ _ _ z=>z.elim,fun _ _ _ _ _ _ _ _ _ _ _ _ _ z=>z.elim⟩
noncomputable abbrev N6:Stmt:=Ew 118
theorem Tp{f:Addr}{fd:FuncData}(F:D5 K "holes_text" "holes_text" N6 f fd)(T:Txt K mg Aq):Bt P w K mg base Dw 1 f fd ["shape"] (aY K):=⟨fun _ _ _ _ z=>z.elim,fun _ _ _ _ _ _ _ _ _ _ _ _ _ z=>z.elim⟩
noncomputable abbrev P4:Stmt:=Ew 120
theorem Wi{f:Addr}{fd:FuncData}(F:D5 K "bars_text" "bars_text" P4 f fd)(T:Txt K mg Aq):Bt P w K mg base Dw 1 f fd ["shape","names","prime"] (aY K):=⟨fun _ _ _ _ z=>z.elim,fun _ _ _ _ _ _ _ _ _ _ _ _ _ z=>z.elim⟩
noncomputable abbrev O8:Stmt:=Ew 126
theorem c5:FnScope ["_law_found"] ["_law_found"] (As O8):=Bb
theorem g6{f:Addr}{fd:FuncData}(F:D5 K "_law_whole" "_law_whole" O8 f fd)(T:Txt K mg Aq) :Bt P w K mg base Dw 1 f fd ["_law_found"] (Rc K):=by
 refine F.ok c5 (fun vs H Q E h=>?_) (fun Da A outer s H vs Q E hr h=>?_)
 . obtain⟨_,_,rfl,_⟩:=h;rfl
 . obtain⟨x,d,rfl,hx,k⟩:=h;refine⟨_,(Ag (Av (Dy (Ao (Cf (K:=K)) T.n_isinstance Bn (Aa (pv 0) (Aa (Er (v:=.ty "int") rfl T.n_int boot_intT rfl) Ac))) (Fh (dF (Ao (Cf (K:=K)) T.n_isinstance Bn (Aa (pv 0) (Aa (Er (v:=.ty "bool") rfl T.n_bool S7 rfl) Ac)))))))),?_⟩;refine⟨_,rfl,_,_,d,rfl,.inl rfl,hx,_,rfl,?_⟩;refine ite2 (fun e=>?_) (fun e=>?_)
   . refine⟨_,rfl,_,_,d,rfl,.inr (.inl rfl),hx,_,rfl,?_⟩;have e2:Fu d=!Wv "bool" d:=by unfold Fu;rw[e];rfl
     rw[e2]at k;exact k
   . have e2:Fu d=false:=by unfold Fu;simp[e]
     rw[e2]at k;exact k
noncomputable abbrev Kx:Stmt:=Ew 127
theorem V8:FnScope ["_law_script","_law_k"] ["_law_script","_law_k"] (As Kx):=Bb
theorem Wl{f:Addr}{fd:FuncData}(F:D5 K "_law_cell_at" "_law_cell_at" Kx f fd)(T:Txt K mg Aq) :Bt P w K mg base Dw 1 f fd ["_law_script","_law_k"] (Jn K):=by
 refine F.ok V8 (fun vs H Q E h=>?_) (fun Da A outer s H vs Q E hr h=>?_)
 . obtain⟨_,_,_,rfl,_⟩:=h;rfl
 . obtain⟨a,ns,k,rfl,hS,h0,hl,kq⟩:=h
   refine⟨_,(Ad (Bj (Aw N9 (pv 1) (Ao (Ai (K:=K)) T.n_len qe0 (Aa (pv 0) Ac)) (A9 _)) (Ag (Av (Ap (Ah (K:=K)) (pv 0) (pv 1) (fun _ _=>rfl)))) Ax)
    (Ag (Av Af))),?_⟩
   refine⟨_,rfl,_,rfl,a,_,rfl,.inl hS,_,_,rfl,rfl,_,rfl,?_⟩;refine ite2 (fun h1=>?_) (fun h1=>?_)
   . have h2:k<(ns.length:Int):=by simpa using h1
     have e:Io (ns.map V.int) k=some (.int (Ni ns k)):=by
      obtain⟨j,rfl⟩:=qg4 h0;refine Ca ?_;have hj:j<ns.length:=O9m
      rw[qa3,qa0 hj];simp[Ni,hj]
     exact⟨_,rfl,_,rfl,a,_,k,_,rfl,rfl,hS,e,kq⟩
   . have h2:¬k<(ns.length:Int):=by simpa using h1
     have e:Ni ns k=0:=by
      unfold Ni;have:ns.length<=k.toNat:=O9m
      simp[this]
     rw[e]at kq;exact kq
noncomputable abbrev Pb:Stmt:=Ew 128
theorem c6:FnScope ["_law_piece"] ["_law_piece"] (As Pb):=Bb
theorem g9{f:Addr}{fd:FuncData}(F:D5 K "_law_level" "_law_level" Pb f fd)(T:Txt K mg Aq) :Bt P w K mg base Dw 1 f fd ["_law_piece"] (Di K):=by
 refine F.ok c6 (fun vs H Q E h=>?_) (fun Da A outer s H vs Q E hr h=>?_)
 . obtain⟨_,_,rfl,_⟩:=h;rfl
 . obtain⟨x,ds,rfl,hx,k⟩:=h;refine⟨_,(Ag (Av (Ao (Ly (by rfl)) T.n_max Lz (Aa Af (Aa (Ay K3 (Ao (Ai (K:=K)) T.n_len qe0 (Aa (pv 0) Ac)) Af) Ac))))),?_⟩
   obtain⟨p,us,e,hq,hl⟩:∃(p:Addr) (us:List V),x=.ref p/\(SqL K H p us\/Dv K H p us)/\us.length=ds.length:=by
    rcases hx with⟨p,us,e,hq,r⟩|⟨p,us,e,hq,r⟩
    . exact⟨p,us,e,.inl hq,r.length⟩
    . exact⟨p,us,e,.inr hq,r.length⟩
   subst e;refine⟨_,rfl,p,us,rfl,hq,_,_,rfl,rfl,_,_,rfl,?_⟩;rw[hl];rw[show(if ((ds.length:Nat):Int)-1 > 0 then((ds.length:Nat):Int)-1 else 0)=By ds.length by unfold By;split<;>split<;>omega];exact k
noncomputable abbrev Pa:Stmt:=Ew 129
theorem Ri:FnScope ["_law_pieces","_law_faces","_law_face","_law_i"] ["_law_pieces","_law_faces","_law_face"] (As Pa):=Bb
theorem g8{f:Addr}{fd:FuncData}(F:D5 K "_law_meets" "_law_meets" Pa f fd)(T:Txt K mg Aq) :Bt P w K mg base Dw 1 f fd ["_law_pieces","_law_faces","_law_face"] (Oy K):=by
 refine F.ok Ri (fun vs H Q E h=>?_) (fun Da A outer s H vs Q E hr h=>?_)
 . obtain⟨_,_,_,_,_,rfl,_⟩:=h;rfl
 . obtain⟨a,v,xs,fs,f0,rfl,hL,hv,f1,f2,hg,WR,Cu,k⟩:=h;obtain⟨xu,vx,U9,iQ,jF⟩:=LT.get hL f1 f2;obtain⟨ax,rfl,lU⟩:=TI.sq jF;obtain⟨af,rfl,JJ⟩:=TI.sq hv
   refine⟨_,(Ad (Bj (Aw Cb (Ao (Ai (K:=K)) T.n_len qe0 (Aa (Ap (Ah (K:=K)) (pv 0) (pv 2) (fun _ _=>rfl)) Ac)) Af (A9 _)) (Ag (Av E3)) Ax)
    (Ad (Ce qc3 rfl (Bu (by rfl) T.n_range (Aa (Ao (Ai (K:=K)) T.n_len qe0 (Aa (pv 1) Ac)) Ac)) (Am (i:=3) Ri.nd) (Ag (Bj (Aw Uy (Ap (Bc (K:=K)) (Ap (Ah (K:=K)) (pv 0) (pv 2) (fun _ _=>rfl)) (pv 3) (fun _ _=>rfl)) (Ap (Bc (K:=K)) (Ap (Ah (K:=K)) (pv 0) (Ap (Bc (K:=K)) (pv 1) (pv 3) (fun _ _=>rfl)) (fun _ _=>rfl)) (Ay K3 (Ao (Ai (K:=K)) T.n_len qe0 (Aa (pv 1) Ac)) Af) (fun _ _=>rfl)) (A9 _)) (Ag (Av E3)) Ax)))
    (Ag (Av E3)))),?_⟩
   refine⟨_,rfl,_,rfl,a,xu,_,_,rfl,rfl,U9,iQ,ax,_,rfl,.inr lU,rfl,_,rfl,?_⟩;rw[qa1];refine ite2 (fun h1=>?_) (fun h1=>?_)
   . have hz:(xs.getD f0.toNat []).length=0:=by
      have:((xs.getD f0.toNat []).length:Int)=0:=by simpa using h1
      omega
     have e:meetsB xs fs f0=true:=by unfold meetsB;rw[qe9 hz];rfl
     rw[e]at k;exact k
   have hne:¬(xs.getD f0.toNat []).length=0:=fun z=>h1 (by rw[z];rfl);obtain⟨c1,c2⟩:=Cu.resolve_left hne;have em:meetsB xs fs f0=(List.range fs.length).all fun i=>decide ((xs.getD f0.toNat []).getD i 0=(xs.getD (fs.getD i 0).toNat []).getD (fs.length-1) 0):=by unfold meetsB;rw[qe5 hne];rfl
   refine⟨_,rfl,af,_,rfl,.inr JJ,_,rfl,by rw[qa1];omega,by rw[qa1];omega,?_⟩;rw[qa1];refine Cm (lo:=0) (n:=fs.length) (fun i σ G=>∃o3,σ=[rS a,rS af,iS f0,o3]/\H=G/\∀i',i'<i->(xs.getD f0.toNat []).getD i' 0=(xs.getD (fs.getD i' 0).toNat []).getD (fs.length-1) 0) ⟨_,rfl,rfl,fun i' h=>absurd h O9m⟩ ?_ ?_
   . rintro i σ G hi ⟨o3,rfl,rfl,hall⟩;rw[show(0:Int)+(i:Int)=(i:Int) by omega];have uH:=Bq (d:=0) hi;obtain⟨g0,g1⟩:=hg _ uH;have c3:=c2 _ uH
     have rT:Io (fs.map V.int) (i:Int)=some (.int (fs.getD i 0)):=by
      have:=Dz (sp:=fs) (x:=(i:Int)) O9m O9m
      rwa [qb9]at this
     have rQ:Io ((xs.getD f0.toNat []).map V.int) (i:Int)=some (.int ((xs.getD f0.toNat []).getD i 0)):=by
      have:=Dz (sp:=xs.getD f0.toNat []) (x:=(i:Int)) O9m O9m
      rwa [qb9]at this
     have RS:Io ((xs.getD (fs.getD i 0).toNat []).map V.int) ((fs.length:Int)-1)=some (.int ((xs.getD (fs.getD i 0).toNat []).getD (fs.length-1) 0)):=by
      have:=Dz (sp:=xs.getD (fs.getD i 0).toNat []) (x:=(fs.length:Int)-1) O9m O9m
      rwa [show((fs.length:Int)-1).toNat=fs.length-1 by omega]at this
     obtain⟨gu,vg,wR,wD,VA⟩:=LT.get hL g0 g1;obtain⟨ag,rfl,vE⟩:=TI.sq VA;refine⟨_,rfl,_,rfl,a,xu,_,_,rfl,rfl,U9,iQ,_,rfl,ax,_,_,_,rfl,rfl,lU,rQ,_,rfl,_,rfl,_,rfl,af,_,_,_,rfl,rfl,JJ,rT,a,gu,_,_,rfl,rfl,wR,wD,_,rfl,af,_,rfl,.inr JJ,_,_,rfl,rfl,ag,_,_,_,rfl,rfl,vE,(by rw[qa1];exact RS),rfl,_,rfl,?_⟩;by_cases he:(xs.getD f0.toNat []).getD i 0=(xs.getD (fs.getD i 0).toNat []).getD (fs.length-1) 0
     . refine Dt (PR he) ?_;refine⟨_,rfl,rfl,fun i' hi'=>?_⟩;by_cases z:i'=i
       . subst z;exact he
       . exact hall i' O9m
     . refine Hz (pB he) ?_
       have e:meetsB xs fs f0=false:=by
        rw[em,List.all_eq_false];exact⟨i,qd7.mpr hi,by simpa using he⟩
       rw[e]at k;exact k
   . rintro σ G ⟨o3,rfl,rfl,hall⟩
     have e:meetsB xs fs f0=true:=by
      rw[em,qd2];exact fun i hi=>qe9 (hall i (qd7.mp hi))
     rw[e]at k;exact k
noncomputable abbrev Ro:Stmt:=Ew 131
theorem Ut:FnScope ["_law_cell","_law_j","_law_many","_law_mixed"] ["_law_cell","_law_j","_law_many"] (As Ro):=Bb
theorem BE{f:Addr}{fd:FuncData}(F:D5 K "_law_pick" "_law_pick" Ro f fd)(T:Txt K mg Aq) :Bt P w K mg base Dw 1 f fd ["_law_cell","_law_j","_law_many"] (Lr K):=by
 refine F.ok Ut (fun vs H Q E h=>?_) (fun Da A outer s H vs Q E hr h=>?_)
 . obtain⟨_,_,_,rfl,_⟩:=h;rfl
 . obtain⟨c,j,m,rfl,hm,k⟩:=h;have p4:(0:Int)<4:=by decide
   have c0:=qj2 c (show(1000003:Int)≠0 by decide);have c1:=qg8 c (show(0:Int)<1000003 by decide);have j0:=qj2 j (show(4:Int)≠0 by decide);have j1:=qg8 j p4
   have four:∀a b c d:Int,0<a->0<b->0<c->0<d->a<100000->b<100000->c<100000->d<100000->∃x:Int,Io [V.int a,V.int b,V.int c,V.int d] (j%4)=some (.int x)/\0<x/\x<100000:=fun a b c d a0 b0 c0 d0 a1 b1 c1 d1=>by
    rcases (show j%4=0\/j%4=1\/j%4=2\/j%4=3 by omega) with e | e | e | e<;>rw[e]
    . exact⟨a,rfl,a0,a1⟩
    . exact⟨b,rfl,b0,b1⟩
    . exact⟨c,rfl,c0,c1⟩
    . exact⟨d,rfl,d0,d1⟩
   refine⟨_,(Ad (Al (i:=3) Ut.nd (Ay op_mulX (Ay Dl (Ay Cd (pv 0) Af) Af) (Ap (Bc (K:=K)) (Bs (Aa Af (Aa Af (Aa Af (Aa Af Ac))))) (Ay Cd (pv 1) Af) (fun _ _=>rfl))))
    (Ag (Av (Ay Cd (Ay Cd (pv 3) (Ap (Bc (K:=K)) (Bs (Aa Af (Aa Af (Aa Af (Aa Af Ac))))) (Ay Cd (pv 1) Af) (fun _ _=>rfl))) (pv 2))))),?_⟩
   refine qr5 (fun σ' H'=>∃x:Int,σ'=[iS c,iS j,iS m,iS x]/\Same H H') (fun key=>?_) ?_
   . refine⟨_,rfl,_,_,rfl,rfl,(by show(0:Int)<1000003;decide),_,_,rfl,rfl,Au (by simp),fun T1 hT1=>?_⟩;obtain⟨x,hx,x0,x1⟩:=four 48271 69621 16807 39373 (by decide) (by decide) (by decide) (by decide) (by decide) (by decide) (by decide) (by decide);refine⟨_,rfl,_,_,rfl,rfl,p4,T1,_,_,_,rfl,rfl,.of Ab,hx,_,_,rfl,rfl,DS O9m O9m,?_⟩;exact key _ _ ⟨_,rfl,Same.new hT1⟩
   refine MK fun x H1 s1=>?_;refine⟨_,rfl,Au (by simp),fun T1 hT1=>?_⟩;obtain⟨y,hy,y0,y1⟩:=four 65537 50021 99991 32749 (by decide) (by decide) (by decide) (by decide) (by decide) (by decide) (by decide) (by decide);refine⟨_,rfl,_,_,rfl,rfl,p4,T1,_,_,_,rfl,rfl,.of Ab,hy,_,_,rfl,rfl,y0,_,rfl,_,_,rfl,rfl,hm,?_⟩;exact k _ _ (s1.trans (Same.new hT1)) (qj2 _ O9m) (qg8 _ hm)
noncomputable abbrev Jv:Stmt:=Ew 134
theorem F8:FnScope ["_law_word","_law_family","_law_size","_law_faces","_law_i"] ["_law_word","_law_family"] (As Jv):=Bb
theorem Tu{f:Addr}{fd:FuncData}(F:D5 K "_law_faces_by" "_law_faces_by" Jv f fd)(T:Txt K mg Aq) :Bt P w K mg base Dw 1 f fd ["_law_word","_law_family"] (Ir K):=by
 refine F.ok F8 (fun vs H Q E h=>?_) (fun Da A outer s H vs Q E hr h=>?_)
 . obtain⟨_,_,_,rfl,_⟩:=h;rfl
 . obtain⟨v,w,fam,rfl,hv,hw,k⟩:=h;obtain⟨aw,rfl,hq⟩:=hv.sq;have hlen:(w.map V.int).length=w.length:=qa1 ..;have rJ:w.length<=4:=by rcases hw with z | z | z<;>omega
   refine⟨_,(Ad (Al (i:=2) F8.nd (Ao (Ai (K:=K)) T.n_len qe0 (Aa (pv 0) Ac)))
    (Ad (Bj (Aw Cb (pv 1) Af (A9 _)) (Ad (Bj (Aw N9 (pv 2) Af (A9 _)) (Ag (Av (Cc Ac))) Ax)
    (Ag (Av (Bm (N':=["_law_i","_law_word"]) (cap:=[none,some 0]) (by rfl) (by kernel_rfl) (Bu (by rfl) T.n_range (Aa (pv 2) Ac)) (fun _ _ _ _=>(Am (i:=0) KC)) (fun _ _ _ _=>Bk) (fun _ _ _ _=>(Ay (K8 (K:=K)) (Ct (Hn (K:=K)) (pv 1) Ej (Cw (pv 0))) (Ct (Hn (K:=K)) (pv 1) (Cw (Ay Dl (pv 0) Af)) Ej))))))) Ax)
    (Ad (Bj (Aw Cb (pv 2) Af (A9 _)) (Ag (Av (Cc Ac))) Ax)
    (Ad (Bj (Aw N9 (pv 1) Af (A9 _)) (Ad (Bj (Aw Cb (pv 2) Af (A9 _)) (Ag (Av (Cc (Aa (Bs Ac) (Aa (Bs Ac) Ac))))) Ax)
    (Ag (Av (Bm (N':=["_law_letter"]) (cap:=[none]) (by rfl) (by kernel_rfl) (Et (K:=K) (pv 0)) (fun _ _ _ _=>(Am (i:=0) kD)) (fun _ _ _ _=>Bk) (fun _ _ _ _=>(Bs (Aa (pv 0) Ac))))))) Ax)
    (Ad (Al (i:=3) F8.nd (Cc (Aa (Ct (Hn (K:=K)) (pv 0) (Cw Af) Ej) Ac)))
    (Ad (Ce qc3 rfl (Bu (by rfl) T.n_range (Aa (Ay K3 (pv 2) Af) Ac)) (Am (i:=4) F8.nd) (Ag (C5 (B0 (K:=K) qc5 qd4 qd3 Ch (pv 3) (Aa (Ay (K8 (K:=K)) (Ay (K8 (K:=K)) (Ct (Hn (K:=K)) (pv 0) Ej (Cw (pv 4))) (Bs (Aa (Ay Cd (Ay Dl (Ap (Bc (K:=K)) (pv 0) (pv 4) (fun _ _=>rfl)) (Ap (Bc (K:=K)) (pv 0) (Ay Dl (pv 4) Af) (fun _ _=>rfl))) (pv 1)) Ac))) (Ct (Hn (K:=K)) (pv 0) (Cw (Ay Dl (pv 4) Af)) Ej)) Ac)))))
    (Ad (C5 (B0 (K:=K) qc5 qd4 qd3 Ch (pv 3) (Aa (Ct (Hn (K:=K)) (pv 0) Ej (Cw (Ay K3 (pv 2) Af))) Ac)))
    (Ag (Av (pv 3)))))))))),?_⟩
   refine⟨_,rfl,aw,_,rfl,.inr hq,?_⟩;rw[hlen];refine⟨_,rfl,rfl,_,rfl,?_⟩;refine ite2 (fun h1=>?_) (fun h1=>?_)
   . have hf:fam=0:=by simpa using h1
     subst hf;refine⟨_,rfl,_,_,rfl,rfl,_,rfl,?_⟩;refine ite2 (fun h2=>?_) (fun h2=>?_)
     . have h3:w.length<2:=by have:(w.length:Int)<2:=by simpa using h2
                              omega
       refine⟨qb3 _,fun p hp=>?_⟩;refine k p [] _ hp (Same.new hp) Ab ?_;have e:Ar w 0=[]:=by unfold Ar;rw[if_pos rfl,if_pos h3]
       rw[e];rfl
     . have h3:¬w.length<2:=by have:¬(w.length:Int)<2:=by simpa using h2
                               omega
       have e:Ar w 0=(List.range w.length).map fun i=>w.take i++w.drop (i+1):=by unfold Ar;rw[if_pos rfl,if_neg h3]
       rw[e]at k;refine⟨_,rfl,_,rfl,O9m,O9m,fun D hD=>?_⟩
       refine Zo (fun i ys τ H1=>i<=w.length/\Same H H1/\H1 D=some (.lst ys)/\Reps K H1 ys (((List.range i).map fun i=>w.take i++w.drop (i+1)).map tI)/\∃o,τ=[o,rS aw])
        ⟨qb3 _,Same.new hD,Ab,rfl,none,rfl⟩ ?_ ?_
       . rintro i ys τ H1 hi ⟨hi1,s1,J9,r1,o,rfl⟩;have hi2:i<w.length:=by simpa using hi
         have hq1:Dv K H1 aw (w.map V.int):=s1.seqT hq;refine⟨_,rfl,_,rfl,_,rfl,aw,_,rfl,hq1,?_,fun p1 H2 s2 q2=>?_⟩
         . rw[hlen];rintro ⟨_,z⟩;rw[show((0:Int)+(i:Int))=((i:Nat):Int) by omega,HT.sIx_nat]at z;omega
         refine⟨_,rfl,_,rfl,_,_,rfl,rfl,_,rfl,aw,_,rfl,s2.seqT hq1,?_,fun p2 H3 s3 q3=>?_⟩
         . rw[hlen];rintro ⟨z,_⟩;rw[show((0:Int)+(i:Int)+1)=((i+1:Nat):Int) by omega,HT.sIx_nat]at z;omega
         rw[show((0:Int)+(i:Int))=((i:Nat):Int) by omega,Lj]at q2;rw[show((0:Int)+(i:Int)+1)=((i+1:Nat):Int) by omega,Sz]at q3;refine⟨p1,p2,_,_,rfl,rfl,s3.seqT q2,q3,?_,fun p H4 s4 q4=>?_⟩
         . refine Au ?_;simp only[qb5,qh4,qa1];omega
         have Zt:Same H1 H4:=(s2.trans s3).trans s4;have Tw:H4 D=some (.lst ys):=Zt _ _ J9
         have t4:TI K H4 (.ref p) (w.take i++w.drop (i+1)):=by
          refine TI.mk ?_;rw[qa6,ql9,qq3];exact q4
         have r4:Reps K H4 ys (((List.range i).map fun i=>w.take i++w.drop (i+1)).map tI):=Reps.same Zt r1;have hyl:ys.length=i:=by have:=r1.length;simpa using this
         refine⟨Tw,Bh O9m,O9m,(s1.trans Zt).turn hD,Ab,?_,_,rfl⟩;rw[qi9,qa6];exact C4 Tw r4 t4
       . rintro ys τ H1 ⟨_,s1,J9,r1,_⟩;rw[show((w.length:Int)).toNat=w.length by omega]at r1;exact k D ys H1 hD s1 J9 r1
   . have hf:¬fam=0:=by simpa using h1
     refine⟨_,rfl,rfl,_,rfl,?_⟩;refine ite2 (fun h2=>?_) (fun h2=>?_)
     . have h3:w.length=0:=by simpa using h2
       refine⟨qb3 _,fun p hp=>?_⟩;refine k p [] _ hp (Same.new hp) Ab ?_;have e:Ar w fam=[]:=by unfold Ar;rw[if_neg hf,if_pos h3]
       rw[e];rfl
     have h3:¬w.length=0:=by simpa using h2
     refine⟨_,rfl,_,_,rfl,rfl,_,rfl,?_⟩;refine ite2 (fun h4=>?_) (fun h4=>?_)
     . have h5:fam<0:=by simpa using h4
       refine⟨_,rfl,rfl,_,rfl,?_⟩;refine ite2 (fun h6=>?_) (fun h6=>?_)
       . have h7:w.length=1:=by
          have:(w.length:Int)=1:=by simpa using h6
          omega
         have e:Ar w fam=[[],[]]:=by unfold Ar;rw[if_neg hf,if_neg h3,if_pos h5,if_pos h7]
         rw[e]at k;refine⟨qb3 _,fun p1 hp1=>⟨qb3 _,fun p2 hp2=>⟨Au (by simp),fun p hp=>?_⟩⟩⟩;have s1:Same H (upd H p1 (.tup [])):=Same.new hp1;have s2:Same (upd H p1 (.tup [])) (upd (upd H p1 (.tup [])) p2 (.tup [])):=Same.new hp2;have s3:Same (upd (upd H p1 (.tup [])) p2 (.tup [])) (upd (upd (upd H p1 (.tup [])) p2 (.tup [])) p (.lst [.ref p1,.ref p2])):=Same.new hp;have hp0:H p=none:=(s1.trans s2).free hp;refine k p _ _ hp0 ((s1.trans s2).trans s3) Ab ?_;have t1:TI K _ (.ref p1) []:=TI.mk (.of (s3 _ _ (s2 _ _ Ab)));have t2:TI K _ (.ref p2) []:=TI.mk (.of (s3 _ _ Ab));exact⟨_,_,rfl,t1,_,_,rfl,t2,rfl⟩
       . have h7:¬w.length=1:=by
          have:¬(w.length:Int)=1:=by simpa using h6
          omega
         have e:Ar w fam=w.map fun l=>[l]:=by unfold Ar;rw[if_neg hf,if_neg h3,if_pos h5,if_neg h7]
         rw[e]at k;refine⟨_,rfl,aw,rfl,⟨_,hq⟩,fun D hD=>?_⟩
         refine Dg (xs:=w.map V.int) (fun i ys τ H1=>i<=w.length/\Same H H1/\H1 D=some (.lst ys)/\Reps K H1 ys (((w.take i).map fun l=>[l]).map tI)/\∃o,τ=[o])
          ⟨qb3 _,Same.new hD,Ab,rfl,none,rfl⟩ (fun i ys τ H1 _ ⟨_,s1,_⟩=>s1.seqT hq) ?_ ?_
         . rintro i x ys τ H1 hx ⟨hi1,s1,J9,r1,o,rfl⟩;have hi2:i<w.length:=by have:=(qa2.mp hx).1;simpa using this
           have qY:x=.int w[i]:=by
            rw[qa3,qa0 hi2]at hx;simpa using hx.symm
           subst qY;refine⟨_,rfl,Au (by simp),fun p hp=>?_⟩;have s2:Same H1 (upd H1 p (.tup [.int w[i]])):=Same.new hp;have Tw:=s2 _ _ J9;have t4:TI K (upd H1 p (.tup [.int w[i]])) (.ref p) [w[i]]:=TI.mk (.of Ab);have r4:=Reps.same s2 r1;have hyl:ys.length=i:=by have:=r1.length;simp at this;omega
           refine⟨Tw,Bh O9m,O9m,(s1.trans s2).turn hD,Ab,?_,_,rfl⟩
           have e2:(w.take (i+1)).map (fun l=>[l])=(w.take i).map (fun l=>[l])++[[w[i]]]:=by
            rw[qd6,qa0 hi2,qa6];rfl
           rw[e2];exact C4 Tw r4 t4
         . rintro ys τ H1 ⟨_,s1,J9,r1,_⟩;rw[hlen,qb4]at r1;exact k D ys H1 hD s1 J9 r1
     have h5:¬fam<0:=by simpa using h4
     have hpos:0<fam:=O9m
     have e:Ar w fam=w.drop 1::((List.range (w.length-1)).map fun i=>w.take i++[(w.getD i 0+w.getD (i+1) 0)%fam]++w.drop (i+2))++[w.take (w.length-1)]:=by
      unfold Ar;rw[if_neg hf,if_neg h3,if_neg h5]
     rw[e]at k;refine⟨_,rfl,_,rfl,aw,_,rfl,hq,?_,fun p1 H1 s1 q1=>⟨Au (by simp),fun D hD=>?_⟩⟩
     . rw[hlen];rintro ⟨z,_⟩;rw[show(1:Int)=((1:Nat):Int) by omega,HT.sIx_nat]at z;omega
     rw[show(1:Int)=((1:Nat):Int) by omega,Sz]at q1;have HN:H D=none:=s1.free hD;have s2:Same H1 (upd H1 D (.lst [.ref p1])):=Same.new hD
     have t1:TI K (upd H1 D (.lst [.ref p1])) (.ref p1) (w.drop 1):=by
      refine TI.mk ?_;rw[qq3];exact s2.seqT q1
     have hn:((w.length:Int)-1).toNat=w.length-1:=O9m
     refine⟨_,rfl,_,_,rfl,rfl,_,rfl,O9m,O9m,Cm (lo:=0) (n:=((w.length:Int)-1).toNat)
      (fun i σ H2=>∃(ys:List V) (o:Option V),σ=[rS aw,iS fam,some (.int w.length),rS D,o]/\Same H H2/\H2 D=some (.lst ys) ∧
        Reps K H2 ys ((w.drop 1::((List.range i).map fun i=>w.take i++[(w.getD i 0+w.getD (i+1) 0)%fam]++w.drop (i+2))).map tI))
      ⟨_,none,rfl,s1.trans s2,Ab,⟨_,_,rfl,t1,rfl⟩⟩ ?_ ?_⟩
     . rintro i σ H2 hi ⟨ys,o,rfl,sH,Hq,r2⟩;rw[hn]at hi;have hq2:Dv K H2 aw (w.map V.int):=sH.seqT hq;have c0:((0:Int)+(i:Int))=((i:Nat):Int):=O9m
       have c1:((0:Int)+(i:Int)+1)=((i+1:Nat):Int):=O9m
       have c2:((0:Int)+(i:Int)+2)=((i+2:Nat):Int):=O9m
       have at0:Io (w.map V.int) ((0:Int)+(i:Int))=some (.int (w.getD i 0)):=by
        rw[c0];refine Ca ?_;rw[qa3,qa0 (by omega)];simp[show i<w.length by omega]
       have iX:Io (w.map V.int) ((0:Int)+(i:Int)+1)=some (.int (w.getD (i+1) 0)):=by
        rw[c1];refine Ca ?_;rw[qa3,qa0 (by omega)];simp[show i+1<w.length by omega]
       refine⟨_,rfl,.inl ⟨rfl,_,SqL.of Hq⟩,?_⟩;refine⟨_,rfl,_,rfl,_,rfl,aw,_,rfl,hq2,?_,fun pa Ha sa qa=>?_⟩
       . rw[hlen];rintro ⟨_,z⟩;rw[c0,HT.sIx_nat]at z;omega
       rw[c0,Lj]at qa;refine⟨_,rfl,_,rfl,aw,_,_,_,rfl,rfl,sa.seqT hq2,at0,_,rfl,_,rfl,_,_,rfl,rfl,aw,_,_,_,rfl,rfl,sa.seqT hq2,iX,_,_,rfl,rfl,_,rfl,_,_,rfl,rfl,hpos,Au (by simp),fun pb hb=>?_⟩;have sb:Same Ha (upd Ha pb (.tup [.int ((w.getD i 0+w.getD (i+1) 0)%fam)])):=Same.new hb;refine⟨pa,pb,_,_,rfl,rfl,sb.seqT qa,.of Ab,Au (by simp;omega),fun pc Hc sc qc=>?_⟩;have tM:=(sa.trans sb).trans sc;refine⟨_,rfl,_,rfl,_,_,rfl,rfl,_,rfl,aw,_,rfl,tM.seqT hq2,?_,fun pd Hd sd qd=>?_⟩
       . rw[hlen];rintro ⟨z,_⟩;rw[c2,HT.sIx_nat]at z;omega
       rw[c2,Sz]at qd;refine⟨pc,pd,_,_,rfl,rfl,sd.seqT qc,qd,Au (by simp;omega),fun pe He se qe=>?_⟩;have JK:=(tM.trans sd).trans se;have UL:=JK _ _ Hq
       have te:TI K He (.ref pe) (w.take i++[(w.getD i 0+w.getD (i+1) 0)%fam]++w.drop (i+2)):=by
        refine TI.mk ?_;simp only[qa6,ql9,qq3,qf0,ql5];exact qe
       have hyl:ys.length=i+1:=by have:=r2.length;simpa using this
       refine⟨D,_,_,rfl,rfl,UL,Bh O9m,?_⟩;refine⟨_,_,rfl,(sH.trans JK).turn HN,Ab,?_⟩
       have e3:(w.drop 1::((List.range (i+1)).map fun i=>w.take i++[(w.getD i 0+w.getD (i+1) 0)%fam]++w.drop (i+2))) =
        (w.drop 1::((List.range i).map fun i=>w.take i++[(w.getD i 0+w.getD (i+1) 0)%fam]++w.drop (i+2)))++[w.take i++[(w.getD i 0+w.getD (i+1) 0)%fam]++w.drop (i+2)]:=by
        rw[qi9,qa6];rfl
       rw[e3];exact C4 UL (Reps.same JK r2) te
     . rintro σ H2 ⟨ys,o,rfl,sH,Hq,r2⟩;rw[hn]at r2;have hq2:Dv K H2 aw (w.map V.int):=sH.seqT hq;have c1:((w.length:Int)-1)=((w.length-1:Nat):Int):=O9m
       refine⟨_,rfl,.inl ⟨rfl,_,SqL.of Hq⟩,_,rfl,_,rfl,_,_,rfl,rfl,_,rfl,aw,_,rfl,hq2,?_,fun pa Ha sa qa=>?_⟩
       . rw[hlen];rintro ⟨_,z⟩;rw[c1,HT.sIx_nat]at z;omega
       rw[c1,Lj]at qa;have uM:=sa _ _ Hq
       have ta:TI K Ha (.ref pa) (w.take (w.length-1)):=by
        refine TI.mk ?_;rw[ql9];exact qa
       have hyl:ys.length=w.length:=by have:=r2.length;simp at this;omega
       refine⟨D,_,_,rfl,rfl,uM,Bh O9m,?_⟩;refine⟨_,rfl,?_⟩;exact k D _ _ HN ((sH.trans sa).turn HN) Ab (C4 uM (Reps.same sa r2) ta)
noncomputable abbrev Kv:Stmt:=Ew 135
theorem B8:FnScope ["_law_cell","_law_family","_law_letters","_law_size","_law_base","_law_word","_law_k"] ["_law_cell","_law_family","_law_letters"] (As Kv):=Bb
theorem Wj{f:Addr}{fd:FuncData}(F:D5 K "_law_word_by" "_law_word_by" Kv f fd)(T:Txt K mg Aq) :Bt P w K mg base Dw 1 f fd ["_law_cell","_law_family","_law_letters"] (Nu K):=by
 refine F.ok B8 (fun vs H Q E h=>?_) (fun Da A outer s H vs Q E hr h=>?_)
 . obtain⟨_,_,_,rfl,_⟩:=h;rfl
 . obtain⟨c,fam,letters,rfl,LV,hl1,hf,k⟩:=h;have m1:0<=c%1000000%4:=qj2 _ (by decide);have m2:c%1000000%4<4:=qg8 _ (by decide)
   refine⟨_,(Ad (Al (i:=0) B8.nd (Ay Cd (pv 0) Af))
    (Ad (Al (i:=3) B8.nd (Ay Cd (pv 0) Af))
    (Ad (Al (i:=4) B8.nd (pv 2))
    (Ad (Bj (Aw Cb (pv 1) Af (A9 _)) (Ag (Al (i:=3) B8.nd (Ay Dl (pv 3) Af))) Ax)
    (Ad (Bj (PW.pt (K1 (Aw N9 (pv 1) Af (A9 _)) (Jz (Aw Uy (pv 3) Af (A9 _))))) (Ag (Al (i:=3) B8.nd Af)) Ax)
    (Ad (Bj (Aw U1 (pv 1) Af (A9 _)) (Ag (Al (i:=4) B8.nd (pv 1))) Ax)
    (Ad (Al (i:=0) B8.nd (Ay Ek (pv 0) Af))
    (Ad (Al (i:=5) B8.nd (Bs Ac))
    (Ad (Ce qc3 rfl (Bu (by rfl) T.n_range (Aa (pv 3) Ac)) (Am (i:=6) B8.nd) (Ad (Al (i:=5) B8.nd (Ay (K8 (K:=K)) (pv 5) (Bs (Aa (Ay Cd (pv 0) (pv 4)) Ac))))
    (Ag (Al (i:=0) B8.nd (Ay Ek (pv 0) (pv 4))))))
    (Ag (Av (pv 5)))))))))))),?_⟩
   refine⟨_,rfl,_,_,rfl,rfl,(by show(0:Int)<1000000;decide),?_⟩;refine⟨_,rfl,_,_,rfl,rfl,(by show(0:Int)<4;decide),?_⟩;refine⟨_,rfl,?_⟩;have fork:(fam=0)\/(fam<0/\c%1000000%4=1)\/(fam<0/\¬c%1000000%4=1)\/0<fam:=O9m
   have DM:¬fam=0->¬(decide (V.int fam=V.int 0)=true):=fun z q=>z (by simpa using q);have NU:fam=0->decide (V.int fam=V.int 0)=true:=fun z=>by simp[z]
   have hb0:0<letters:=LV;have hb1:letters<1073741824:=O9m
   rcases fork with hz|⟨hz,h1⟩|⟨hz,h1⟩ | hz
   . refine⟨_,rfl,rfl,_,rfl,?_⟩;refine Hz (NU hz) ?_;refine⟨_,rfl,_,_,rfl,rfl,?_⟩;refine⟨_,rfl,_,_,rfl,rfl,_,rfl,?_⟩;refine Dt (by simp;omega) ?_;refine Dt (by simp) ?_;refine⟨_,rfl,_,_,rfl,rfl,_,rfl,?_⟩;refine Dt (by simp;omega) ?_;have hW:∀w:List Int,w.length=(c%1000000%4+1).toNat->D6 fam w:=fun w e=>.inl ⟨hz,O9m,O9m⟩;refine⟨_,rfl,_,_,rfl,rfl,⟨by decide,by decide⟩,qb3 _,fun p0 hp0=>?_⟩;refine⟨_,rfl,_,rfl,O9m,O9m,?_⟩
     refine Cm (lo:=0) (n:=(c%1000000%4+1:Int).toNat)
      (fun i σ H2=>∃(c':Int) (v:V) (o:Option V) (w:List Int),σ=[iS c',iS fam,iS letters,some (.int (c%1000000%4+1)),iS letters,some v,o]/\Same H H2/\TI K H2 v w/\w.length=i)
      ⟨_,_,none,[],rfl,Same.new hp0,TI.mk (.of Ab),rfl⟩ ?_ ?_
     . rintro i σ H2 hi ⟨c',v,o,w,rfl,s2,tv,hwl⟩;obtain⟨a,rfl,Zw⟩:=tv.sq;refine⟨_,rfl,_,rfl,_,rfl,_,_,rfl,rfl,hb0,Au (by simp),fun pt HE=>?_⟩;have s3:Same H2 (upd H2 pt (.tup [.int (c'%letters)])):=Same.new HE;refine⟨a,pt,_,_,rfl,rfl,s3.seqT Zw,.of Ab,Au (by simp;omega),fun p3 H3 s4 q3=>?_⟩;refine⟨_,rfl,_,rfl,_,_,rfl,rfl,⟨hb0,hb1⟩,?_⟩;refine⟨_,_,_,w++[c'%letters],rfl,(s2.trans s3).trans s4,TI.mk ?_,by simp[hwl]⟩;rw[qa6];exact q3
     . rintro σ H2 ⟨c',v,o,w,rfl,s2,tv,hwl⟩;exact⟨_,rfl,k v H2 w s2 tv (hW w hwl)⟩
   . refine⟨_,rfl,rfl,_,rfl,?_⟩;refine Dt (DM O9m) ?_;refine⟨_,rfl,_,_,rfl,rfl,_,rfl,?_⟩;refine Hz (by simp;omega) ?_;refine⟨_,rfl,rfl,_,rfl,?_⟩;refine Dt (PR h1) ?_;refine⟨_,rfl,_,_,rfl,rfl,_,rfl,?_⟩;refine Dt (by simp;omega) ?_;have hW:∀w:List Int,w.length=(c%1000000%4).toNat->D6 fam w:=fun w e=>.inr (.inl ⟨hz,O9m⟩);refine⟨_,rfl,_,_,rfl,rfl,⟨by decide,by decide⟩,qb3 _,fun p0 hp0=>?_⟩;refine⟨_,rfl,_,rfl,O9m,O9m,?_⟩
     refine Cm (lo:=0) (n:=(c%1000000%4:Int).toNat)
      (fun i σ H2=>∃(c':Int) (v:V) (o:Option V) (w:List Int),σ=[iS c',iS fam,iS letters,some (.int (c%1000000%4)),iS letters,some v,o]/\Same H H2/\TI K H2 v w/\w.length=i)
      ⟨_,_,none,[],rfl,Same.new hp0,TI.mk (.of Ab),rfl⟩ ?_ ?_
     . rintro i σ H2 hi ⟨c',v,o,w,rfl,s2,tv,hwl⟩;obtain⟨a,rfl,Zw⟩:=tv.sq;refine⟨_,rfl,_,rfl,_,rfl,_,_,rfl,rfl,hb0,Au (by simp),fun pt HE=>?_⟩;have s3:Same H2 (upd H2 pt (.tup [.int (c'%letters)])):=Same.new HE;refine⟨a,pt,_,_,rfl,rfl,s3.seqT Zw,.of Ab,Au (by simp;omega),fun p3 H3 s4 q3=>?_⟩;refine⟨_,rfl,_,rfl,_,_,rfl,rfl,⟨hb0,hb1⟩,?_⟩;refine⟨_,_,_,w++[c'%letters],rfl,(s2.trans s3).trans s4,TI.mk ?_,by simp[hwl]⟩;rw[qa6];exact q3
     . rintro σ H2 ⟨c',v,o,w,rfl,s2,tv,hwl⟩;exact⟨_,rfl,k v H2 w s2 tv (hW w hwl)⟩
   . refine⟨_,rfl,rfl,_,rfl,?_⟩;refine Dt (DM O9m) ?_;refine⟨_,rfl,_,_,rfl,rfl,_,rfl,?_⟩;refine Hz (by simp;omega) ?_;refine⟨_,rfl,rfl,_,rfl,?_⟩;refine Hz (pB h1) ?_;refine⟨_,rfl,_,_,rfl,rfl,_,rfl,?_⟩;refine Dt (by simp;omega) ?_;have hW:∀w:List Int,w.length=(3:Int).toNat->D6 fam w:=fun w e=>.inr (.inl ⟨hz,.inr (.inr e)⟩);refine⟨_,rfl,_,_,rfl,rfl,⟨by decide,by decide⟩,qb3 _,fun p0 hp0=>?_⟩;refine⟨_,rfl,_,rfl,O9m,O9m,?_⟩
     refine Cm (lo:=0) (n:=(3:Int).toNat)
      (fun i σ H2=>∃(c':Int) (v:V) (o:Option V) (w:List Int),σ=[iS c',iS fam,iS letters,some (.int (3)),iS letters,some v,o]/\Same H H2/\TI K H2 v w/\w.length=i)
      ⟨_,_,none,[],rfl,Same.new hp0,TI.mk (.of Ab),rfl⟩ ?_ ?_
     . rintro i σ H2 hi ⟨c',v,o,w,rfl,s2,tv,hwl⟩;obtain⟨a,rfl,Zw⟩:=tv.sq;refine⟨_,rfl,_,rfl,_,rfl,_,_,rfl,rfl,hb0,Au (by simp),fun pt HE=>?_⟩;have s3:Same H2 (upd H2 pt (.tup [.int (c'%letters)])):=Same.new HE;refine⟨a,pt,_,_,rfl,rfl,s3.seqT Zw,.of Ab,Au (by simp;omega),fun p3 H3 s4 q3=>?_⟩;refine⟨_,rfl,_,rfl,_,_,rfl,rfl,⟨hb0,hb1⟩,?_⟩;refine⟨_,_,_,w++[c'%letters],rfl,(s2.trans s3).trans s4,TI.mk ?_,by simp[hwl]⟩;rw[qa6];exact q3
     . rintro σ H2 ⟨c',v,o,w,rfl,s2,tv,hwl⟩;exact⟨_,rfl,k v H2 w s2 tv (hW w hwl)⟩
   . refine⟨_,rfl,rfl,_,rfl,?_⟩;refine Dt (DM O9m) ?_;refine⟨_,rfl,_,_,rfl,rfl,_,rfl,?_⟩;refine Dt (by simp;omega) ?_;refine Dt (by simp) ?_;refine⟨_,rfl,_,_,rfl,rfl,_,rfl,?_⟩;refine Hz (by simp;omega) ?_;refine⟨_,rfl,?_⟩;have hW:∀w:List Int,w.length=(c%1000000%4).toNat->D6 fam w:=fun w e=>.inr (.inr ⟨hz,O9m⟩);have hb0:0<fam:=hz;have hb1:fam<1073741824:=O9m
     refine⟨_,rfl,_,_,rfl,rfl,⟨by decide,by decide⟩,qb3 _,fun p0 hp0=>?_⟩;refine⟨_,rfl,_,rfl,O9m,O9m,?_⟩
     refine Cm (lo:=0) (n:=(c%1000000%4:Int).toNat)
      (fun i σ H2=>∃(c':Int) (v:V) (o:Option V) (w:List Int),σ=[iS c',iS fam,iS letters,some (.int (c%1000000%4)),iS fam,some v,o]/\Same H H2/\TI K H2 v w/\w.length=i)
      ⟨_,_,none,[],rfl,Same.new hp0,TI.mk (.of Ab),rfl⟩ ?_ ?_
     . rintro i σ H2 hi ⟨c',v,o,w,rfl,s2,tv,hwl⟩;obtain⟨a,rfl,Zw⟩:=tv.sq;refine⟨_,rfl,_,rfl,_,rfl,_,_,rfl,rfl,hb0,Au (by simp),fun pt HE=>?_⟩;have s3:Same H2 (upd H2 pt (.tup [.int (c'%fam)])):=Same.new HE;refine⟨a,pt,_,_,rfl,rfl,s3.seqT Zw,.of Ab,Au (by simp;omega),fun p3 H3 s4 q3=>?_⟩;refine⟨_,rfl,_,rfl,_,_,rfl,rfl,⟨hb0,hb1⟩,?_⟩;refine⟨_,_,_,w++[c'%fam],rfl,(s2.trans s3).trans s4,TI.mk ?_,by simp[hwl]⟩;rw[qa6];exact q3
     . rintro σ H2 ⟨c',v,o,w,rfl,s2,tv,hwl⟩;exact⟨_,rfl,k v H2 w s2 tv (hW w hwl)⟩
noncomputable abbrev O9:Stmt:=Ew 139
theorem Ex:FnScope ["_law_cell","_law_many","_law_letters","_law_ahead","_law_behind","_law_shift","_law_nexts"] ["_law_cell","_law_many"] (As O9):=Bb
theorem g7{f:Addr}{fd:FuncData}(F:D5 K "_law_names" "_law_names" O9 f fd)(T:Txt K mg Aq) :Bt P w K mg base Dw 1 f fd ["_law_cell","_law_many"] (Re K):=by
 refine F.ok Ex (fun vs H Q E h=>?_) (fun Da A outer s H vs Q E hr h=>?_)
 . obtain⟨_,_,rfl,_⟩:=h;rfl
 . obtain⟨c,many,rfl,hc0,hc1,hm,k⟩:=h;have pS:(0:Int)<20:=by decide
   have c4:(0:Int)<4:=by decide
   have SR:(0:Int)<26:=by decide
   refine⟨_,(Ad (Al (i:=2) Ex.nd Bg)
    (Ad (Al (i:=3) Ex.nd (Ct a9 (pv 2) (Cw (Ay Cd (pv 0) Af)) (Cw (Ay Dl (Ay Cd (pv 0) Af) (Ay Cd (Ay Ek (pv 0) Af) Af)))))
    (Ad (Al (i:=4) Ex.nd (Ct a9 (pv 2) (Cw (Ay Cd (Ay Ek (pv 0) Af) Af)) (Cw (Ay Dl (Ay Cd (Ay Ek (pv 0) Af) Af) (Ay Cd (Ay Ek (pv 0) Af) Af)))))
    (Ad (Al (i:=5) Ex.nd (Ay Cd (Ay Ek (pv 0) Af) Af))
    (Ad (Al (i:=6) Ex.nd (Bm (N':=["_law_k","_law_letters","_law_shift"]) (cap:=[none,some 2,some 5]) (by rfl) (by kernel_rfl) (Bu (by rfl) T.n_range (Aa (pv 1) Ac)) (fun _ _ _ _=>(Am (i:=0) jZ)) (fun _ _ _ _=>Bk) (fun _ _ _ _=>(Ap j9 (pv 1) (Ay Cd (Ay Dl (Ay Ek (pv 0) Af) (pv 2)) Af) (fun _ _=>rfl)))))
    (Ad (Bj (PW.pt (K1 (Aw U0 (pv 1) Af (A9 _)) (Jz (Aw Cb (Ay Cd (Ay Ek (pv 0) Af) Af) Af (A9 _))))) (Ag (Al (i:=6) Ex.nd (Bm (N':=["_law_k"]) (cap:=[none]) (by rfl) (by kernel_rfl) (Bu (by rfl) T.n_range (Aa (pv 1) Ac)) (fun _ _ _ _=>(Am (i:=0) JZ)) (fun _ _ _ _=>Bk) (fun _ _ _ _=>Bg)))) Ax)
    (Ag (Av (Bm (N':=["_law_k","_law_ahead","_law_letters","_law_shift","_law_nexts","_law_behind"]) (cap:=[none,some 3,some 2,some 5,some 6,some 4]) (by rfl) (by kernel_rfl) (Bu (by rfl) T.n_range (Aa (pv 1) Ac)) (fun _ _ _ _=>(Am (i:=0) KA)) (fun _ _ _ _=>Bk) (fun _ _ _ _=>(Ay Cs (Ay Cs (Ay Cs (pv 1) (Ap j9 (pv 2) (Ay Cd (Ay Dl (Ay op_mulX (pv 0) Af) (pv 3)) Af) (fun _ _=>rfl))) (Ap (Ah (K:=K)) (pv 4) (pv 0) (fun _ _=>rfl))) (pv 5)))))))))))),?_⟩
   refine Co [iS c,some (.int (many:Int)),some (.str Pu),none,none,none,none] H (fun D0 h0=>h0) ?_;refine qr5 (fun σ' H'=>∃A:Str,σ'=[iS c,some (.int (many:Int)),some (.str Pu),some (.str A),none,none,none]/\H=H'/\Th A) (fun key=>?_) ?_
   . obtain⟨a,ha,ea⟩:∃a:Nat,a<20/\c%20=(a:Int):=⟨(c%20).toNat,O9m,O9m⟩
     obtain⟨d,hd,ed⟩:∃d:Nat,d<4/\c / 20%4=(d:Int):=⟨(c / 20%4).toNat,O9m,O9m⟩
     have he:=aI ha hd;refine⟨_,rfl,_,rfl,_,_,rfl,rfl,pS,_,rfl,_,rfl,_,_,rfl,rfl,pS,_,rfl,_,_,rfl,rfl,⟨by decide,by decide⟩,_,_,rfl,rfl,c4,_,_,rfl,rfl,_,rfl,_,rfl,?_⟩;rw[ea,ed,←Int.natCast_add];exact⟨Au (by have:=he.le;omega),key _ _ ⟨_,rfl,rfl,he⟩⟩
   refine v6 fun A hA=>?_;refine qr5 (fun σ' H'=>∃B:Str,σ'=[iS c,some (.int (many:Int)),some (.str Pu),some (.str A),some (.str B),none,none]/\H=H'/\Th B) (fun key=>?_) ?_
   . obtain⟨a,ha,ea⟩:∃a:Nat,a<20/\c / 80%20=(a:Int):=⟨(c / 80%20).toNat,O9m,O9m⟩
     obtain⟨d,hd,ed⟩:∃d:Nat,d<4/\c / 1600%4=(d:Int):=⟨(c / 1600%4).toNat,O9m,O9m⟩
     have he:=aI ha hd;refine⟨_,rfl,_,rfl,_,_,rfl,rfl,⟨by decide,by decide⟩,_,_,rfl,rfl,pS,_,rfl,_,rfl,_,_,rfl,rfl,⟨by decide,by decide⟩,_,_,rfl,rfl,pS,_,rfl,_,_,rfl,rfl,⟨by decide,by decide⟩,_,_,rfl,rfl,c4,_,_,rfl,rfl,_,rfl,_,rfl,?_⟩;rw[ea,ed,←Int.natCast_add];exact⟨Au (by have:=he.le;omega),key _ _ ⟨_,rfl,rfl,he⟩⟩
   refine v6 fun B hB=>?_;refine qr5 (fun σ' H'=>∃s:Nat,σ'=[iS c,some (.int (many:Int)),some (.str Pu),some (.str A),some (.str B),some (.int (s:Int)),none]/\H=H') (fun key=>?_) ?_
   . refine⟨_,rfl,_,_,rfl,rfl,⟨by decide,by decide⟩,_,_,rfl,rfl,SR,key _ _ ⟨(c / 6400%26).toNat,?_,rfl⟩⟩;rw[show(((c / 6400%26).toNat:Nat):Int)=c / 6400%26 by omega];rfl
   refine iG fun s=>?_;have FE:∀(n:Nat),Io Pu.cps.toList ((n%26:Nat):Int)=some (97+n%26):=fun n=>Ca (LN (Nat.mod_lt n (by decide)));refine qr5 (fun σ' H'=>∃(D:Addr) (nx:Nat->Str),σ'=[iS c,some (.int (many:Int)),some (.str Pu),some (.str A),some (.str B),some (.int (s:Int)),rS D]/\Same H H'/\H' D=some (.lst (((List.range many).map nx).map V.str))/\∀k,(nx k).length<=1/\∀c∈(nx k).cps.toList,97<=c/\c<=122) (fun key=>?_) ?_
   . refine⟨_,rfl,_,rfl,O9m,O9m,fun D hD=>?_⟩
     refine C9 (n:=many) (fun i ys τ G=>Same H G/\G D=some (.lst ys)/\ys=((List.range i).map fun k=>cC (k / 26+s)).map V.str/\∃o,τ=[o,some (.str Pu),some (.int (s:Int))])
      ⟨Same.new hD,Ab,rfl,none,rfl⟩ ?_ ?_
     . rintro i ys τ G hi ⟨g,Bl,hys,o,rfl⟩;rw[show(0:Int)+(i:Int)=(i:Int) by omega];have hat:=FE (i / 26+s);rw[show(((i / 26+s)%26:Nat):Int)=((i:Int) / 26+(s:Int))%26 by omega]at hat;refine⟨_,rfl,_,rfl,_,_,rfl,rfl,⟨by decide,by decide⟩,_,rfl,_,_,rfl,rfl,_,_,rfl,rfl,SR,_,_,_,rfl,rfl,Au (by rw[Xs];omega),hat,Bl,Bh (by rw[hys,qa1,qa1,qg9];omega),g.turn hD,Ab,?_,_,rfl⟩;rw[hys,qi9,qa6,qa6];rfl
     . rintro ys τ G ⟨g,Bl,hys,_⟩;refine key _ _ ⟨D,fun k=>cC (k / 26+s),rfl,g,by rw[Bl,hys],fun k=>⟨qa9 1,fun c hc=>?_⟩⟩;have hc:c∈[97+(k / 26+s)%26]:=hc;rw[qd1.mp hc];have:=Nat.mod_lt (k / 26+s) (by decide:0<26);omega
   refine Ja fun D1 qP H1 s1 J9 eE=>?_;refine qr5 (fun σ' H'=>∃(D:Addr) (nx:Nat->Str),σ'=[iS c,some (.int (many:Int)),some (.str Pu),some (.str A),some (.str B),some (.int (s:Int)),rS D]/\Same H H'/\H' D=some (.lst (((List.range many).map nx).map V.str))/\∀k,(nx k).length<=1/\∀c∈(nx k).cps.toList,97<=c/\c<=122) (fun key=>?_) ?_
   . refine⟨_,rfl,_,_,rfl,rfl,_,rfl,?_⟩;refine ite2 (fun _=>?_) (fun _=>?_);rotate_left
     . refine Dt (by simp) ?_;exact key _ _ ⟨D1,qP,rfl,s1,J9,eE⟩
     refine⟨_,rfl,_,_,rfl,rfl,⟨by decide,by decide⟩,_,_,rfl,rfl,(by decide:(0:Int)<2),rfl,_,rfl,?_⟩;refine ite2 (fun _=>?_) (fun _=>key _ _ ⟨D1,qP,rfl,s1,J9,eE⟩);refine⟨_,rfl,_,rfl,O9m,O9m,fun D hD=>?_⟩
     refine C9 (n:=many) (fun i ys τ G=>Same H1 G/\G D=some (.lst ys)/\ys=((List.range i).map fun _=>Str.empty).map V.str/\∃o,τ=[o])
      ⟨Same.new hD,Ab,rfl,none,rfl⟩ ?_ ?_
     . rintro i ys τ G hi ⟨g,Bl,hys,o,rfl⟩;refine⟨Bl,Bh (by rw[hys,qa1,qa1,qg9];omega),g.turn hD,Ab,?_,_,rfl⟩;rw[hys,qi9,qa6,qa6];rfl
     . rintro ys τ G ⟨g,Bl,hys,_⟩;exact key _ _ ⟨D,fun _=>Str.empty,rfl,s1.trans g,by rw[Bl,hys],fun k=>⟨qb3 _,fun c hc=>(by have hc:c∈([]:List Nat):=hc;cases hc)⟩⟩
   clear s1 J9 eE D1 qP;refine Ja fun D2 nx H2 s2 Hq hx=>?_;refine⟨_,rfl,_,rfl,O9m,O9m,fun D hD=>?_⟩
   refine C9 (n:=many) (fun i ys τ G=>Same H2 G/\G D=some (.lst ys)/\ys=(i5 A B s nx i).map V.str/\∃o,τ=[o,some (.str A),some (.str Pu),some (.int (s:Int)),rS D2,some (.str B)])
    ⟨Same.new hD,Ab,rfl,none,rfl⟩ ?_ ?_
   . rintro i ys τ G hi ⟨g,Bl,hys,o,rfl⟩;rw[show(0:Int)+(i:Int)=(i:Int) by omega];have hi':i<many:=hi;have hat:=FE (i*5+s);rw[show(((i*5+s)%26:Nat):Int)=((i:Int)*5+(s:Int))%26 by omega]at hat;have xT:Io (((List.range many).map nx).map V.str) (i:Int)=some (.str (nx i)):=Ca (by rw[qa3,qa3,ql4 hi'];rfl);have la:=hA.le;have lb':=hB.le;have lx:=(hx i).1;have lc:(cC (i*5+s)).length=1:=rfl;refine⟨_,rfl,_,rfl,_,rfl,_,_,rfl,rfl,KN (by decide) (by decide),_,rfl,_,_,rfl,rfl,_,_,rfl,rfl,SR,_,_,_,rfl,rfl,Au (by rw[Xs];omega),hat,?_⟩;refine⟨A,cC (i*5+s),rfl,rfl,Au O9m,_,rfl,_,rfl,D2,_,_,_,rfl,rfl,.of (g _ _ Hq),xT,?_⟩;refine⟨_,nx i,rfl,rfl,Au (by rw[Cz];omega),_,rfl,_,B,rfl,rfl,Au (by rw[Cz,Cz];omega),?_⟩;refine⟨Bl,Bh (by rw[hys,qa1,Yu];omega),g.turn hD,Ab,?_,_,rfl⟩;unfold i5;rw[qi9,qa6,qa6,hys];rfl
   . rintro ys τ G ⟨g,Bl,hys,_⟩;exact k D _ G (s2.free hD) (s2.trans g) (by rw[Bl,hys]) (Yu ..) (gS O9m) (GR hA hB hx)
noncomputable abbrev Rm:Stmt:=Ew 140
theorem Ls:FnScope ["_law_pieces","_law_names_here","_law_rows","_law_place","_law_piece"] ["_law_pieces","_law_names_here"] (As Rm):=Bb
theorem BD{f:Addr}{fd:FuncData}(F:D5 K "_law_text" "_law_text" Rm f fd)(T:Txt K mg Aq) :Bt P w K mg base Dw 1 f fd ["_law_pieces","_law_names_here"] (Uk K):=by
 refine F.ok Ls (fun vs H Q E h=>?_) (fun Da A outer s H vs Q E hr h=>?_)
 . obtain⟨_,_,_,_,rfl,_⟩:=h;rfl
 . obtain⟨v,n,xs,names,rfl,hL,hq,hs,hx,hnl,hn,k⟩:=h;obtain⟨a,us,rfl,ha,r⟩:=id hL;have hl:us.length=xs.length:=by have:=r.length;simpa using this
   refine⟨_,(Ad (Al (i:=2) Ls.nd (Cc Ac))
    (Ad (Ce qc3 rfl (Ij (K:=K) (by rfl) T.n_enumerate (Aa (pv 0) Ac)) (Fj (K:=K) (n:=2) (by rfl) (B4 (Am (i:=3) Ls.nd) (B4 (Am (i:=4) Ls.nd) Fg))) (Ag (C5 (B0 (K:=K) qc5 qd4 qd3 Ch (pv 2) (Aa (B0 (K:=K) qd8 qg1 qg0 (Fk (K:=K)) Bg (Aa (Ay (Ds (K:=K)) (Cc (Aa (Ap (Ah (K:=K)) (pv 1) (pv 3) (fun _ _=>rfl)) Ac)) (Bm (N':=["_law_face","_law_names_here"]) (cap:=[none,some 1]) (by rfl) (by kernel_rfl) (Et (K:=K) (pv 4)) (fun _ _ _ _=>(Am (i:=0) dP)) (fun _ _ _ _=>Bk) (fun _ _ _ _=>(Ap (Ah (K:=K)) (pv 1) (pv 0) (fun _ _=>rfl))))) Ac)) Ac)))))
    (Ag (Av (B0 (K:=K) qd8 qg1 qg0 (Fk (K:=K)) Bg (Aa (pv 2) Ac)))))),?_⟩
   refine qr5 (fun σ' H'=>∃D:Addr,σ'=[rS a,rS n,rS D,none,none]/\Same H H'/\H D=none/\H' D=some (.lst [])) (fun key=>?_) ?_
   . exact⟨qb3 _,fun D hD=>key _ _ ⟨D,rfl,Same.new hD,hD,Ab⟩⟩
   refine Kf fun D H1 s1 nD hD=>?_;refine qr5 (fun σ' H'=>∃o1 o2:Option V,σ'=[rS a,rS n,rS D,o1,o2]/\Same H H'/\H' D=some (.lst (((List.range xs.length).map fun k=>N7 names k (xs.getD k [])).map V.str))) (fun key=>?_) ?_
   . refine⟨_,rfl,a,rfl,⟨us,s1.seq ha⟩,?_⟩
     refine Li (K:=K) (a:=a) (xs:=us) (fun i σ G=>∃o1 o2:Option V,σ=[rS a,rS n,rS D,o1,o2]/\Same H G/\G D=some (.lst (((List.range i).map fun k=>N7 names k (xs.getD k [])).map V.str)))
      ⟨none,none,rfl,s1,hD⟩ (fun i σ G _ ⟨_,_,_,g,_⟩=>g.seq ha) ?_ ?_
     . rintro i v σ G p hv ⟨o1,o2,rfl,g,Bl⟩ hp;have hi:i<xs.length:=by have:=(qa2.mp hv).1;omega
       obtain⟨dv,Sg,rv⟩:=r.getV hv
       have BR:dv=tI (xs.getD i []):=by
        rw[qa3,Gm (d:=[]) hi]at Sg;simpa using Sg.symm
       subst BR;obtain⟨fk,f4⟩:=B9 hs hi;have sp:Same G (upd G p (.tup [.int i,v])):=Same.new hp;have ep:upd G p (.tup [.int i,v]) p=some (.tup [.int i,v]):=Ab;have eS:∀f∈xs.getD i [],0<=f/\f<(names.length:Int):=fun f hf=>⟨(fk f hf).1,by have:=(fk f hf).2;omega⟩
       have FN:((List.range (i+1)).map fun k=>N7 names k (xs.getD k []))=((List.range i).map fun k=>N7 names k (xs.getD k []))++[N7 names i (xs.getD i [])]:=by
        rw[qi9,qa6];rfl
       obtain⟨z1,z2,z3⟩:=Gp hn (show i<names.length by omega) eS f4;generalize xs.getD i []=q at rv eS f4 FN z1 z2 z3;obtain⟨av,rfl,Qk⟩:=TI.sq (show TI K G v q from Rep.same g rv);refine⟨p,_,rfl,.of ep,rfl,_,_,rfl,_,_,rfl,rfl,?_⟩;generalize upd G p (.tup [.int i,.ref av])=G1 at sp ep;have g1:=g.trans sp;refine⟨_,rfl,.inl ⟨rfl,_,.of (sp _ _ Bl)⟩,rfl,_,rfl,_,rfl,n,_,_,_,rfl,rfl,g1.seq hq,Kj O9m O9m,Au (by simp),fun l1 hl1=>?_⟩;rw[show((i:Int)).toNat=i from qb9 i];have s2:Same G1 (upd G1 l1 (.lst [.str (nmAt names i)])):=Same.new hl1;have e2:upd G1 l1 (.lst [.str (nmAt names i)]) l1=some (.lst [.str (nmAt names i)]):=Ab;generalize upd G1 l1 (.lst [.str (nmAt names i)])=G2 at s2 e2;have Uu:=sp.trans s2;refine⟨_,rfl,av,rfl,⟨_,Uu.seqT Qk⟩,fun E hE=>?_⟩
       refine Dg (K:=K) (a:=av) (xs:=q.map V.int) (fun j ys τ G3=>Same G2 G3/\G3 E=some (.lst ys)/\ys=((q.take j).map fun f=>nmAt names f.toNat).map V.str/\∃o,τ=[o,rS n])
        ⟨Same.new hE,Ab,rfl,none,rfl⟩ (fun j ys τ G3 _ ⟨g3,_⟩=>(Uu.trans g3).seqT Qk) ?_ ?_
       . rintro j x ys τ G3 hx ⟨g3,AE,rfl,o,rfl⟩;rw[qa3]at hx;obtain⟨f,hf,rfl⟩:=qb1.mp hx;have hj:j<q.length:=(qa2.mp hf).1;obtain⟨f0,f1⟩:=eS f (qa8 hf);refine⟨_,rfl,_,rfl,n,_,_,_,rfl,rfl,((g.trans Uu).trans g3).seq hq,Kj f0 f1,AE,Bh (by simp;omega),g3.turn hE,Ab,?_,_,rfl⟩;rw[qg5,hf,qa6,qa6];rfl
       . rintro ys τ G3 ⟨g3,AE,rfl,_⟩;rw[qa1,qb4]at AE;refine⟨l1,E,_,_,rfl,rfl,.of (g3 _ _ e2),.of AE,Au (by simp;omega),fun c hc=>?_⟩;have s4:=g3.trans (Same.new (o:=.lst ([V.str (nmAt names i)]++(q.map fun f=>nmAt names f.toNat).map V.str)) hc);have mZ:=Uu.trans s4;refine⟨Str.ofString " ",c,Fq names i q,rfl,rfl,.of Ab,?_,?_⟩
         . have e:(Str.ofString " ").length=1:=by decide +kernel
           rw[e];omega
         . rw[Nn];refine⟨D,_,_,rfl,rfl,mZ _ _ Bl,Bh (by simp;omega),?_⟩;refine⟨_,_,rfl,(g.trans mZ).turn nD,?_⟩;rw[Ab,FN,qa6];rfl
     . rintro σ G ⟨o1,o2,rfl,g,Bl⟩;rw[hl]at Bl;exact key _ _ ⟨o1,o2,rfl,g,Bl⟩
   refine X0 fun o1 o2 H2 s2 Hq=>?_;refine⟨rfl,_,rfl,Str.ofString "; ",D,_,rfl,rfl,.of Hq,?_,?_⟩
   . have e:(Str.ofString "; ").length=2:=by decide +kernel
     have h1:=Iq (ys:=(List.range xs.length).map fun k=>N7 names k (xs.getD k [])) (B:=50) fun y hy=>by
      obtain⟨k,hk,rfl⟩:=qe2.mp hy;have hk:=qd7.mp hk;obtain⟨fk,f4⟩:=B9 hs hk;exact(Gp hn O9m (fun f hf=>⟨(fk f hf).1,by have:=(fk f hf).2;omega⟩) f4).2.2
     rw[e];rw[qa1,qg9]at h1 ⊢;omega
   . rw[Nn]
     have e2:Bw xs names=Str.join (Str.ofString "; ") ((List.range xs.length).map fun k=>N7 names k (xs.getD k [])):=by
      unfold Bw Cr;rw[qg6];rfl
     rw[←e2];exact k H2 s2
noncomputable abbrev Ky:Stmt:=Ew 141
theorem Ei:FnScope ["_law_pieces","_law_left","_law_above","_law_place","_law_face","_law_found"] ["_law_pieces","_law_left"] (As Ky):=Bb
theorem Wm{f:Addr}{fd:FuncData}(F:D5 K "_law_bent_of" "_law_bent_of" Ky f fd)(T:Txt K mg Aq) :Bt P w K mg base Dw 1 f fd ["_law_pieces","_law_left"] (Nx K):=by
 refine F.ok Ei (fun vs H Q E h=>?_) (fun Da A outer s H vs Q E hr h=>?_)
 . obtain⟨_,_,_,_,rfl,_⟩:=h;rfl
 . obtain⟨a,l,xs,fl,rfl,hL,hS,M7,h4,Zv,k⟩:=h;obtain⟨_,us,z,hq,r⟩:=id hL
   refine⟨_,(Ad (Ff (N':=["_law_piece"]) (cap:=[none]) (i:=2) Ei.nd (by rfl) (by first | exact Or.inl rfl | exact Or.inr rfl) (by rfl) (by kernel_rfl) (Bi (K:=K) (pv 0)) (fun _ _ _ _=>(Am (i:=0) i6)) (fun _ _ _ _=>Bk) (fun _ _ _ _=>(Cc Ac)))
    (Ad (Ce qc3 rfl (Bu (by rfl) T.n_range (Aa (Ao (Ai (K:=K)) T.n_len qe0 (Aa (pv 0) Ac)) Ac)) (Am (i:=3) Ei.nd) (Ag (Bj (Cq (Ap (Ah (K:=K)) (pv 1) (pv 3) (fun _ _=>rfl))) (Ag (Ce qc3 rfl (Et (K:=K) (Ap (Ah (K:=K)) (pv 0) (pv 3) (fun _ _=>rfl))) (Am (i:=4) Ei.nd) (Ag (C5 (B0 (K:=K) qc5 qd4 qd3 Ch (Ap (Ah (K:=K)) (pv 2) (pv 4) (fun _ _=>rfl)) (Aa (pv 3) Ac)))))) Ax)))
    (Ad (Al (i:=5) Ei.nd (Cc Ac))
    (Ad (Ce qc3 rfl (Bu (by rfl) T.n_range (Aa (Ao (Ai (K:=K)) T.n_len qe0 (Aa (pv 0) Ac)) Ac)) (Am (i:=3) Ei.nd) (Ag (Bj (PW.pt (K1 (Cq (Ap (Ah (K:=K)) (pv 1) (pv 3) (fun _ _=>rfl))) (K1 (Aw Cb (Ao (Ai (K:=K)) T.n_len qe0 (Aa (Ap (Ah (K:=K)) (pv 2) (pv 3) (fun _ _=>rfl)) Ac)) Af (A9 _)) (Jz (Aw Cb (Ao (Ai (K:=K)) T.n_len qe0 (Aa (Ap (Ah (K:=K)) (pv 2) (Ap (Ah (K:=K)) (Ap (Ah (K:=K)) (pv 2) (pv 3) (fun _ _=>rfl)) Af (fun _ _=>rfl)) (fun _ _=>rfl)) Ac)) Af (A9 _)))))) (Ag (C5 (B0 (K:=K) qc5 qd4 qd3 Ch (pv 5) (Aa (Bs (Aa (pv 3) (Aa (Ap (Ah (K:=K)) (Ap (Ah (K:=K)) (pv 2) (pv 3) (fun _ _=>rfl)) Af (fun _ _=>rfl)) Ac))) Ac)))) Ax)))
    (Ag (Av (pv 5))))))),?_⟩
   cases z;have ul:us.length=xs.length:=by have:=r.length;simpa using this
   refine qr5 (fun σ' H'=>∃(B:Addr) (as:List Addr),σ'=[rS a,rS l,rS B,none,none,none]/\Same H H'/\H' B=some (.lst (as.map V.ref))/\as.length=xs.length/\as.Nodup/\∀(j:Nat) b,as[j]?=some b->H b=none/\b≠B/\H' b=some (.lst [])) (fun key=>?_) ?_
   . refine⟨_,rfl,a,rfl,⟨_,hq⟩,fun D hD=>?_⟩
     refine Bp (K:=K) (a:=a) (xs:=us) (fun i ws τ G=>∃as:List Addr,as.length=i/\ws=as.map V.ref/\Same H G/\G D=some (.lst ws)/\as.Nodup/\(∀(j:Nat) b,as[j]?=some b->H b=none/\b≠D/\G b=some (.lst []))/\∃o,τ=[o])
      ⟨[],rfl,rfl,Same.new hD,Ab,List.nodup_nil,fun j b z=>by simp at z,none,rfl⟩ (fun i ws τ G _ ⟨_,_,_,g,_⟩=>g.seq hq) ?_ ?_
     . rintro i x ws τ G hx ⟨as,hal,rfl,g,Bl,hnd,Fa,o,rfl⟩;have hi:i<us.length:=(qa2.mp hx).1;refine⟨qb3 _,fun E hE=>?_⟩;have g1:Same G (upd G E (.lst [])):=Same.new hE;have nE:E≠D:=(Be Bl hE).symm;refine⟨g1 _ _ Bl,Bh (by rw[qa1];omega),as++[E],by simp[hal],by simp,(g.trans g1).turn hD,Ab,?_,fun j b z=>?_,_,rfl⟩
       . rw[List.nodup_append];refine⟨hnd,by simp,fun b hb c hc e=>?_⟩;rw[qd1]at hc;subst hc;subst e;obtain⟨j,hj⟩:=qc6 hb;have:=(Fa j _ hj).2.2;rw[hE]at this;cases this
       . rw[qp0]at z;split at z
         . obtain⟨q1,q2,q3⟩:=Fa j b z;exact⟨q1,q2,by rw[A8 q2];exact g1 _ _ q3⟩
         . have hj0:j-as.length=0:=by
            cases hz:j-as.length with
            | zero=>rfl
            | succ m=>rw[hz]at z;simp at z
           rw[hj0]at z;have et:E=b:=by simpa using z
           subst et;exact⟨g.free hE,nE,by rw[A8 nE];exact Ab⟩
     . rintro ws τ G ⟨as,hal,rfl,g,Bl,hnd,Fa,_⟩;exact key _ _ ⟨D,as,rfl,g,Bl,O9m,hnd,Fa⟩
   refine iF fun B as H1 s1 hB hal hnd Fa=>?_;refine qr5 (fun σ' H'=>∃(o3 o4:Option V),σ'=[rS a,rS l,rS B,o3,o4,none]/\Same H H'/\H' B=some (.lst (as.map V.ref))/\∀(j:Nat) b,as[j]?=some b->H' b=some (.lst ((Cj xs (An xs.length fl) (j:Int)).map V.int))) (fun key=>?_) ?_
   . refine⟨_,rfl,a,us,rfl,.inl (s1.seq hq),_,rfl,O9m,O9m,?_⟩;rw[ul]
     refine Cm (lo:=0) (n:=xs.length) (fun i σ G=>∃(o3 o4:Option V),σ=[rS a,rS l,rS B,o3,o4,none]/\Same H G/\G B=some (.lst (as.map V.ref))/\∀(j:Nat) b,as[j]?=some b->G b=some (.lst ((Cj xs (An i fl) (j:Int)).map V.int)))
      ⟨none,none,rfl,s1,hB,fun j b z=>(Fa j b z).2.2⟩ ?_ ?_
     . rintro i σ G hi ⟨o3,o4,rfl,g,hBG,hab⟩;rw[show(0:Int)+(i:Int)=(i:Int) by omega];have ek:=j8 i fl;refine⟨_,rfl,_,rfl,l,_,_,_,rfl,rfl,g.seq hS,m4 O9m O9m,_,rfl,?_⟩;refine ite2 (fun h1=>?_) (fun h1=>?_);rotate_left
       . rw[if_neg h1,qh7]at ek;exact⟨_,_,rfl,g,hBG,by rw[ek];exact hab⟩
       rw[if_pos h1]at ek;have UE:=h4 _ (Bq (d:=[]) hi);have hfr:=Zv _ (Bq (d:=[]) hi)
       have eh:∀j:Int,Cj xs (An (i+1) fl) j=Cj xs (An i fl) j++List.replicate (Gd (xs.getD i []) j) (i:Int):=fun j=>by
        rw[ek,k6,qb9]
       have Se:=Fl i fl
       have wQ:∀j:Int,(Cj xs (An i fl) j).length<=4000:=fun j=>by
        have:=Vb h4 (f:=j) (An i fl);omega
       have hmem:(xs.map tI)[i]?=some (tI (xs.getD i [])):=by rw[qa3,qa0 hi,qa4,qa0 hi];rfl
       obtain⟨v0,hv0,vB⟩:=r.get hmem;have WI:Io us (i:Int)=some v0:=Ca hv0;have pZ:TI K H v0 (xs.getD i []):=vB;obtain⟨av,rfl,jJ⟩:=TI.sq pZ;have Qk:=g.seqT jJ;generalize xs.getD i []=fs at jJ Qk UE hfr eh
       refine⟨_,rfl,_,rfl,a,us,_,_,rfl,rfl,g.seq hq,WI,av,rfl,⟨_,Qk⟩,aG (K:=K) (a:=av) (xs:=fs.map V.int) (fun m σ G2=>∃o4,σ=[rS a,rS l,rS B,some (.int (i:Int)),o4,none]/\Same H G2/\Dv K G2 av (fs.map V.int)/\G2 B=some (.lst (as.map V.ref))/\∀(j:Nat) b,as[j]?=some b->G2 b=some (.lst ((Cj xs (An i fl) (j:Int)++List.replicate (Gd (fs.take m) (j:Int)) (i:Int)).map V.int)))
        ⟨_,rfl,g,Qk,hBG,fun j b z=>by rw[hab j b z];simp[Gd]⟩ (fun m σ G2 _ ⟨_,_,_,s,_⟩=>s) ?_ ?_⟩
       . rintro m y σ G2 hy ⟨VO,rfl,g2,QE,hB2,EI⟩;have hm:m<fs.length:=by have:=(qa2.mp hy).1;simpa using this
         have EC:y=.int fs[m]:=by
          rw[qa3,qa0 hm]at hy;simpa using hy.symm
         subst EC;obtain⟨f0,f1⟩:=hfr _ (qc8 hm);have ct:∀j:Int,Gd (fs.take (m+1)) j=Gd (fs.take m) j+(if fs[m]=j then 1 else 0):=fun j=>CB hm;have hc4:∀j:Int,Gd (fs.take m) j<=4:=fun j=>qe1 (Xm _ _) (by rw[qb5];omega);generalize fs[m]=IV at f0 f1 ct;obtain⟨b,hb,hat⟩:=AM (as:=as) f0 (by rw[hal];exact f1);have lC:=EI _ _ hb;rw[show((IV.toNat:Nat):Int)=IV by omega]at lC;obtain⟨tY,vR,_⟩:=Fa _ _ hb;have hh:=wQ IV;have hc:=hc4 IV;refine⟨_,rfl,_,rfl,B,_,_,_,rfl,rfl,.of hB2,hat,.inl ⟨rfl,_,.of lC⟩,_,rfl,b,_,_,rfl,rfl,lC,Bh (by rw[qa1,qb8,qi0];omega),?_⟩;refine⟨_,rfl,g2.turn tY,?_,by rw[A8 vR.symm];exact hB2,fun j c z=>?_⟩
         . exact(g2.turn tY).seqT jJ
         . by_cases e:c=b
           . subst e;have ej:=LM hnd z hb;subst ej;rw[Ab,show((IV.toNat:Nat):Int)=IV by omega,ct,if_pos rfl,ql0,←qn2,qa6 (l₂:=[(i:Int)])];rfl
           . have nj:¬IV=(j:Int):=fun w=>e (by
              have:j=IV.toNat:=O9m
              subst this;rw[z]at hb;exact qb6 hb)
             rw[A8 e,ct,if_neg nj];exact EI j c z
       . rintro σ G2 ⟨VO,rfl,g2,QE,hB2,EI⟩;rw[qa1,qb4]at EI;exact⟨_,_,rfl,g2,hB2,fun j b z=>by rw[eh];exact EI j b z⟩
     . rintro σ G ⟨o3,o4,rfl,g,hBG,hab⟩;exact key _ _ ⟨_,_,rfl,g,hBG,hab⟩
   refine Ja fun o3 o4 H2 s2 hB2 hab=>?_;refine qr5 (fun σ' H'=>∃D:Addr,σ'=[rS a,rS l,rS B,o3,o4,rS D]/\Same H2 H'/\H2 D=none/\H' D=some (.lst [])) (fun key=>?_) ?_
   . refine⟨qb3 _,fun D hD=>?_⟩;exact key _ _ ⟨D,rfl,Same.new hD,hD,Ab⟩
   refine Kf fun D H3 s3 nD hD=>?_;obtain⟨ks,hks⟩:∃ks,ks=An xs.length fl:=⟨_,rfl⟩
   rw[←hks]at hab
   have AT:∀(G:Hp),Same H2 G->∀x:Int,0<=x->x<(xs.length:Int)->∃b,Io (as.map V.ref) x=some (.ref b)/\G b=some (.lst ((Cj xs ks x).map V.int)):=fun G g x x0 x1=>by
    obtain⟨b,hb,hat⟩:=AM (as:=as) x0 (by rw[hal];exact x1);have:=hab _ _ hb;rw[show((x.toNat:Nat):Int)=x by omega]at this;exact⟨b,hat,g _ _ this⟩
   refine qr5 (fun σ' H'=>∃(o3:Option V) (du:List V),σ'=[rS a,rS l,rS B,o3,o4,rS D]/\Same H2 H'/\H' D=some (.lst du)/\Reps K H' du ((Eg xs ks).map tI)) (fun key=>?_) ?_
   . refine⟨_,rfl,a,us,rfl,.inl ((s2.trans s3).seq hq),_,rfl,O9m,O9m,?_⟩;rw[ul]
     refine Cm (lo:=0) (n:=xs.length) (fun i σ G=>∃(o3:Option V) (du:List V),σ=[rS a,rS l,rS B,o3,o4,rS D]/\Same H2 G/\G D=some (.lst du)/\Reps K G du ((((Go i).filter fun p=>fl p&&Df xs ks p).map (Hl xs ks)).map tI))
      ⟨_,[],rfl,s3,hD,rfl⟩ ?_ ?_
     . rintro i σ G hi ⟨tT,du,rfl,g,Bl,rD⟩;rw[show(0:Int)+(i:Int)=(i:Int) by omega]
       have LZ:du.length<=i:=by
        have:=rD.length;rw[qa1,qa1]at this;have h2:((Go i).filter fun p=>fl p&&Df xs ks p).length<=(Go i).length:=qi1 ..;rw[C2]at h2;omega
       have e5:((Go (i+1)).filter fun p=>fl p&&Df xs ks p)=((Go i).filter fun p=>fl p&&Df xs ks p)++(if (fl (i:Int)&&Df xs ks (i:Int))=true then [(i:Int)] else []):=by
        rw[G6,qi3]
        congr 1
        by_cases hz:(fl (i:Int)&&Df xs ks (i:Int))=true
        . rw[if_pos hz,qg7 (by exact hz),qf5]
        . rw[if_neg hz,qg3 (by exact hz),qf5]
       have stay:¬(fl (i:Int)&&Df xs ks (i:Int))=true->∀G',Same H2 G'->G' D=some (.lst du)->Reps K G' du ((((Go i).filter fun p=>fl p&&Df xs ks p).map (Hl xs ks)).map tI)->Reps K G' du ((((Go (i+1)).filter fun p=>fl p&&Df xs ks p).map (Hl xs ks)).map tI):=fun hz G' _ _ rr=>by
        rw[e5,if_neg hz,qh7];exact rr
       have gH:=s2.trans g;obtain⟨b,KY,hb⟩:=AT G g (i:Int) O9m O9m;refine⟨_,rfl,_,rfl,l,_,_,_,rfl,rfl,gH.seq hS,m4 O9m O9m,_,rfl,?_⟩;by_cases hf:fl (i:Int)=true;rotate_left
       . refine Dt hf ?_;refine Dt (by simp) ?_;exact⟨_,du,rfl,g,Bl,stay (by simp[hf]) G g Bl rD⟩
       refine Hz hf ?_;refine⟨_,rfl,_,rfl,B,_,_,_,rfl,rfl,.of (g _ _ hB2),KY,b,_,rfl,.inl (.of hb),rfl,_,rfl,?_⟩;rw[qa1];by_cases e1:(Cj xs ks (i:Int)).length=1;rotate_left
       . refine Dt (fun w=>e1 (by have:((Cj xs ks (i:Int)).length:Int)=1:=by simpa using w
                                  omega)) ?_
         refine Dt (by simp) ?_;exact⟨_,du,rfl,g,Bl,stay (by unfold Df;rw[qe5 e1];simp) G g Bl rD⟩
       refine Hz (by rw[e1];rfl) ?_
       obtain⟨h0,oO⟩:∃h0,Cj xs ks (i:Int)=[h0]:=by
        match hz:Cj xs ks (i:Int),e1 with
        | [h0],_=>exact⟨h0,rfl⟩
       have WQ:h0∈An xs.length fl:=by
        rw[←hks];refine Va (f:=(i:Int)) (xs:=xs) ?_;rw[oO];simp
       obtain⟨⟨xG,h01⟩,_⟩:=Hm.mp WQ;obtain⟨c,RT,hc⟩:=AT G g h0 xG h01;rw[oO]at hb;refine⟨_,rfl,_,rfl,_,rfl,B,_,_,_,rfl,rfl,.of (g _ _ hB2),KY,b,_,_,_,rfl,rfl,.of hb,rfl,B,_,_,_,rfl,rfl,.of (g _ _ hB2),RT,c,_,rfl,.inl (.of hc),rfl,_,rfl,?_⟩;rw[qa1];by_cases e2:(Cj xs ks h0).length=0;rotate_left
       . refine Dt (fun w=>e2 (by have:((Cj xs ks h0).length:Int)=0:=by simpa using w
                                  omega)) ?_
         exact⟨_,du,rfl,g,Bl,stay (by unfold Df;rw[oO];show ¬(_&&(_&&decide ((Cj xs ks h0).length=0)))=true;rw[qe5 e2];simp) G g Bl rD⟩
       refine Hz (by rw[e2];rfl) ?_;refine⟨_,rfl,.inl ⟨rfl,_,.of Bl⟩,_,rfl,_,rfl,_,rfl,B,_,_,_,rfl,rfl,.of (g _ _ hB2),KY,b,_,_,_,rfl,rfl,.of hb,rfl,Au (by simp),fun T1 hT1=>?_⟩;have g1:Same G (upd G T1 (.tup [.int i,.int h0])):=Same.new hT1;have v1:(upd G T1 (.tup [.int i,.int h0])) T1=some (.tup [.int i,.int h0]):=Ab;generalize upd G T1 (.tup [.int i,.int h0])=G1 at g1 v1;have Qr:=g1 _ _ Bl;refine⟨D,_,_,rfl,rfl,Qr,Bh O9m,?_⟩;refine⟨_,_,rfl,(g.trans g1).turn nD,Ab,?_⟩
       have gd:(fl (i:Int)&&Df xs ks (i:Int))=true:=by
        unfold Df;rw[hf,oO];show(true&&(decide (1=1)&&decide ((Cj xs ks h0).length=0)))=true;rw[e2];rfl
       rw[e5,if_pos gd,qa6]
       have ep:[(i:Int)].map (Hl xs ks)=[[(i:Int),h0]]:=by
        show [Hl xs ks (i:Int)]=_;unfold Hl;rw[oO];rfl
       rw[ep];exact C4 Qr (Reps.same g1 rD) (TI.mk (.of v1))
     . rintro σ G ⟨tT,du,rfl,g,Bl,rD⟩;rw[Zs,←hks]at rD;exact key _ _ ⟨_,du,rfl,g,Bl,rD⟩
   refine Ja fun tT du H4 s4 Tw tQ=>?_;rw[hks]at tQ;exact⟨_,rfl,k D du H4 (s2.free nD) (s2.trans s4) Tw tQ⟩
noncomputable abbrev Wa:Stmt:=Ew 142
theorem N3:FnScope ["_law_pieces","_law_names_here","_law_left","_law_kept","_law_rows","_law_place"] ["_law_pieces","_law_names_here","_law_left"] (As Wa):=Bb
theorem DJ{f:Addr}{fd:FuncData}(F:D5 K "_law_cut" "_law_cut" Wa f fd)(T:Txt K mg Aq) :Bt P w K mg base Dw 1 f fd ["_law_pieces","_law_names_here","_law_left"] (X9 K):=by
 refine F.ok N3 (fun vs H Q E h=>?_) (fun Da A outer s H vs Q E hr h=>?_)
 . obtain⟨_,_,_,_,_,_,rfl,_⟩:=h;rfl
 . obtain⟨a,n,l,xs,names,fl,rfl,hL,hq,hF,ok,k⟩:=h
   have h4:∀x∈xs,x.length<=4:=fun x hx=>by
    obtain⟨i,hi⟩:=qc6 hx;have:=(B9 ok.sh (k:=i) (qa2.mp hi).1).2
    rwa [Fo hi]at this
   have Zv:∀x∈xs,∀f∈x,0<=f/\f<(xs.length:Int):=fun x hx f hf=>by
    obtain⟨i,hi⟩:=qc6 hx;have hil:=(qa2.mp hi).1;have:=(B9 ok.sh (k:=i) hil).1 f (by rw[Fo hi];exact hf);omega
   have hle:=ok.le;have hnl:=ok.len;obtain⟨xu,U9,Pj⟩:=LT.len hL;have hn:=ok.ok
   refine⟨_,(Ad (Ff (N':=["_law_place","_law_left"]) (cap:=[none,some 2]) (i:=3) N3.nd (by rfl) (by first | exact Or.inl rfl | exact Or.inr rfl) (by rfl) (by kernel_rfl) (Bu (by rfl) T.n_range (Aa (Ao (Ai (K:=K)) T.n_len qe0 (Aa (pv 0) Ac)) Ac)) (fun _ _ _ _=>(Am (i:=0) JY)) (fun _ _ _ _=>(Ih (Cq (Ap (Ah (K:=K)) (pv 1) (pv 0) (fun _ _=>rfl))))) (fun _ _ _ _=>(pv 0)))
    (Ad (Al (i:=4) N3.nd (Cc Ac))
    (Ad (Ce qc3 rfl (Bi (K:=K) (pv 3)) (Am (i:=5) N3.nd) (Ag (C5 (B0 (K:=K) qc5 qd4 qd3 Ch (pv 4) (Aa (B0 (K:=K) qd8 qg1 qg0 (Fk (K:=K)) Bg (Aa (Ay (Ds (K:=K)) (Cc (Aa (Ap (Ah (K:=K)) (pv 1) (pv 5) (fun _ _=>rfl)) Ac)) (Bm (N':=["_law_face","_law_names_here"]) (cap:=[none,some 1]) (by rfl) (by kernel_rfl) (Et (K:=K) (Ap (Ah (K:=K)) (pv 0) (pv 5) (fun _ _=>rfl))) (fun _ _ _ _=>(Am (i:=0) dP)) (fun _ _ _ _=>Bk) (fun _ _ _ _=>(Ap (Ah (K:=K)) (pv 1) (pv 0) (fun _ _=>rfl))))) Ac)) Ac)))))
    (Ag (Av (B0 (K:=K) qd8 qg1 qg0 (Fk (K:=K)) Bg (Aa (pv 4) Ac))))))),?_⟩
   refine qr5 (fun σ' H'=>∃P:Addr,σ'=[rS a,rS n,rS l,rS P,none,none]/\Same H H'/\H P=none/\H' P=some (.lst ((An xs.length fl).map V.int))) (fun key=>?_) ?_
   . refine⟨_,rfl,a,xu,rfl,.inl U9,_,rfl,O9m,O9m,fun D hD=>?_⟩;rw[Pj]
     refine C9 (n:=xs.length) (fun m ws τ G=>Same H G/\G D=some (.lst ws)/\ws=(An m fl).map V.int/\m<=xs.length/\∃o,τ=[o,rS l])
      ⟨Same.new hD,Ab,rfl,qb3 _,none,rfl⟩ ?_ ?_
     . rintro m ws τ G hm ⟨g,Bl,rfl,hml,o,rfl⟩;rw[show(0:Int)+(m:Int)=(m:Int) by omega];have Se:=Fl m fl
       have e5:An (m+1) fl=An m fl++(if fl (m:Int)=true then [(m:Int)] else []):=by
        unfold An;rw[G6,qi3]
        congr 1
        by_cases hz:fl (m:Int)=true
        . rw[if_pos hz,qg7 hz,qf5]
        . rw[if_neg hz,qg3 hz,qf5]
       refine⟨_,rfl,_,rfl,l,_,_,_,rfl,rfl,g.seq hF,m4 O9m O9m,_,rfl,?_⟩;refine ite2 (fun h1=>?_) (fun h1=>?_)
       . refine⟨_,rfl,Bl,Bh (by rw[qa1];omega),g.turn hD,Ab,?_,O9m,_,rfl⟩;rw[e5,if_pos h1,qa6];rfl
       . refine⟨g,Bl,?_,O9m,_,rfl⟩;rw[e5,if_neg h1,qh7]
     . rintro ws τ G ⟨g,Bl,rfl,_,_⟩;exact key _ _ ⟨D,rfl,g,hD,Bl⟩
   refine Kf fun P H1 s1 nP hP=>?_;have RJ:∀p∈An xs.length fl,0<=p/\p<(xs.length:Int):=fun p hp=>(Hm.mp hp).1;have Se:(An xs.length fl).length<=40:=qe1 (Fl _ _) hle;generalize An xs.length fl=ks at hP RJ Se k;refine qr5 (fun σ' H'=>∃D:Addr,σ'=[rS a,rS n,rS l,rS P,rS D,none]/\Same H H'/\H' P=some (.lst (ks.map V.int))/\P≠D/\H D=none/\H' D=some (.lst [])) (fun key=>?_) ?_
   . exact⟨qb3 _,fun D hD=>key _ _ ⟨D,rfl,s1.trans (Same.new hD),(Same.new hD) _ _ hP,Be hP hD,s1.free hD,Ab⟩⟩
   refine cN fun D H2 s2 KZ vS nD hD=>?_;refine qr5 (fun σ' H'=>∃o:Option V,σ'=[rS a,rS n,rS l,rS P,rS D,o]/\Same H H'/\H' D=some (.lst ((ks.map fun p=>Str.join (Str.ofString " ") (Jx names xs id p)).map V.str))) (fun key=>?_) ?_
   . refine⟨_,rfl,P,rfl,⟨_,.of KZ⟩,?_⟩
     refine for_list (K:=K) (a:=P) (xs:=ks.map V.int) (fun i σ G=>∃o:Option V,σ=[rS a,rS n,rS l,rS P,rS D,o]/\Same H G/\G P=some (.lst (ks.map V.int))/\G D=some (.lst (((ks.take i).map fun p=>Str.join (Str.ofString " ") (Jx names xs id p)).map V.str)))
      ⟨none,rfl,s2,KZ,hD⟩ (fun i σ G _ ⟨_,_,_,pL,_⟩=>.of pL) ?_ ?_
     . rintro i v σ G hv ⟨o,rfl,g,pL,Bl⟩;rw[qa3]at hv;obtain⟨p,hp,rfl⟩:=qb1.mp hv;have hi:i<ks.length:=(qa2.mp hp).1;obtain⟨p0,p1⟩:=RJ p (qa8 hp);obtain⟨fk,f4⟩:=B9 ok.sh (show p.toNat<xs.length by omega);have eS:∀f∈xs.getD p.toNat [],0<=f/\f<(names.length:Int):=fun f hf=>⟨(fk f hf).1,by have:=(fk f hf).2;omega⟩
       have FN:((ks.take (i+1)).map fun p=>Str.join (Str.ofString " ") (Jx names xs id p))=((ks.take i).map fun p=>Str.join (Str.ofString " ") (Jx names xs id p))++[Str.join (Str.ofString " ") (Fq names p.toNat (xs.getD p.toNat []))]:=by
        rw[qd6,hp,qa6];rfl
       obtain⟨z1,z2,z3⟩:=Gp hn (show p.toNat<names.length by omega) eS f4;obtain⟨pu,vp,WH,wC,UZ⟩:=LT.get hL p0 p1;obtain⟨av,rfl,Qk⟩:=TI.sq UZ;generalize xs.getD p.toNat []=q at Qk eS f4 FN z1 z2 z3;refine⟨_,rfl,.inl ⟨rfl,_,.of Bl⟩,rfl,_,rfl,_,rfl,n,_,_,_,rfl,rfl,g.seq hq,Kj O9m O9m,Au (by simp),fun l1 hl1=>?_⟩;have s2:Same G (upd G l1 (.lst [.str (nmAt names p.toNat)])):=Same.new hl1;have e2:upd G l1 (.lst [.str (nmAt names p.toNat)]) l1=some (.lst [.str (nmAt names p.toNat)]):=Ab;generalize upd G l1 (.lst [.str (nmAt names p.toNat)])=G2 at s2 e2;have g2:=g.trans s2;refine⟨_,rfl,_,rfl,a,pu,_,_,rfl,rfl,g2.seq WH,wC,av,rfl,⟨_,g2.seqT Qk⟩,fun E hE=>?_⟩
       refine Dg (K:=K) (a:=av) (xs:=q.map V.int) (fun j ys τ G3=>Same G2 G3/\G3 E=some (.lst ys)/\ys=((q.take j).map fun f=>nmAt names (id f).toNat).map V.str/\∃o,τ=[o,rS n])
        ⟨Same.new hE,Ab,rfl,none,rfl⟩ (fun j ys τ G3 _ ⟨g3,_⟩=>(g2.trans g3).seqT Qk) ?_ ?_
       . rintro j x ys τ G3 hx ⟨g3,AE,rfl,o,rfl⟩;rw[qa3]at hx;obtain⟨f,hf,rfl⟩:=qb1.mp hx;have hj:j<q.length:=(qa2.mp hf).1;obtain⟨f0,f1⟩:=eS f (qa8 hf);refine⟨_,rfl,_,rfl,n,_,_,_,rfl,rfl,(g2.trans g3).seq hq,Kj f0 f1,AE,Bh (by simp;omega),g3.turn hE,Ab,?_,_,rfl⟩;rw[qg5,hf,qa6,qa6];rfl
       . rintro ys τ G3 ⟨g3,AE,rfl,_⟩;rw[qa1,qb4]at AE;refine⟨l1,E,_,_,rfl,rfl,.of (g3 _ _ e2),.of AE,Au (by simp;omega),fun c hc=>?_⟩;have s4:=(s2.trans g3).trans (Same.new (o:=.lst ([V.str (nmAt names p.toNat)]++(q.map fun f=>nmAt names (id f).toNat).map V.str)) hc);refine⟨Str.ofString " ",c,Fq names p.toNat q,rfl,rfl,.of Ab,?_,?_⟩
         . have e:(Str.ofString " ").length=1:=by decide +kernel
           rw[e];omega
         . rw[Nn];refine⟨D,_,_,rfl,rfl,s4 _ _ Bl,Bh (by simp;omega),?_⟩;refine⟨_,rfl,(g.trans s4).turn nD,?_,?_⟩
           . rw[A8 vS];exact s4 _ _ pL
           . rw[Ab,FN,qa6];rfl
     . rintro σ G ⟨o,rfl,g,pL,Bl⟩;rw[qa1,qb4]at Bl;exact key _ _ ⟨o,rfl,g,Bl⟩
   refine Gj fun o H3 s3 EM=>?_;refine⟨rfl,_,rfl,Str.ofString "; ",D,_,rfl,rfl,.of EM,?_,?_⟩
   . have e:(Str.ofString "; ").length=2:=by decide +kernel
     have h1:=Iq (ys:=ks.map fun p=>Str.join (Str.ofString " ") (Jx names xs id p)) (B:=50) fun y hy=>by
      obtain⟨p,hp,rfl⟩:=qe2.mp hy;obtain⟨p0,p1⟩:=RJ p hp;obtain⟨fk,f4⟩:=B9 ok.sh (show p.toNat<xs.length by omega);exact(Gp hn (show p.toNat<names.length by omega) (fun f hf=>⟨(fk f hf).1,by have:=(fk f hf).2;omega⟩) f4).2.2
     rw[e];rw[qa1]at h1 ⊢;omega
   . rw[Nn];exact k H3 s3
noncomputable abbrev Ju:Stmt:=Ew 144
theorem B3:FnScope ["_law_pieces","_law_names_here","_law_pairs","_law_first","_law_open_pairs","_law_pair","_law_low","_law_high","_law_rows","_law_place","_law_piece"] ["_law_pieces","_law_names_here","_law_pairs"] (As Ju):=Bb
theorem Tt{f:Addr}{fd:FuncData}(F:D5 K "_law_glue_due" "_law_glue_due" Ju f fd)(T:Txt K mg Aq) :Bt P w K mg base Dw 1 f fd ["_law_pieces","_law_names_here","_law_pairs"] (Mc K):=by
 refine F.ok B3 (fun vs H Q E h=>?_) (fun Da A outer s H vs Q E hr h=>?_)
 . obtain⟨_,_,_,_,_,_,rfl,_⟩:=h;rfl
 . obtain⟨a,n,b,xs,names,ps,rfl,hL,hq,hB,ok,bL,hps,k⟩:=h
   have h4:∀x∈xs,x.length<=4:=fun x hx=>by
    obtain⟨i,hi⟩:=qc6 hx;have:=(B9 ok.sh (k:=i) (qa2.mp hi).1).2
    rwa [Fo hi]at this
   have Zv:∀x∈xs,∀f∈x,0<=f/\f<(xs.length:Int):=fun x hx f hf=>by
    obtain⟨i,hi⟩:=qc6 hx;have hil:=(qa2.mp hi).1;have:=(B9 ok.sh (k:=i) hil).1 f (by rw[Fo hi];exact hf);omega
   have hle:=ok.le;have hnl:=ok.len;obtain⟨xu,U9,Pj⟩:=LT.len hL;obtain⟨_,pu,eb,kX,rB⟩:=id hB
   refine⟨_,(Ad (Al (i:=3) B3.nd (J0 (by rfl) (by rfl) T.n_list (by rfl) T.n_range (Aa (Ao (Ai (K:=K)) T.n_len qe0 (Aa (pv 0) Ac)) Ac)))
    (Ad (Al (i:=4) B3.nd (Cg (Ga (K:=K)) (by rfl) T.n_list Ez (Aa (pv 2) Ac)))
    (Ad (Rv qc3 (Aw U1 (Ao (Ai (K:=K)) T.n_len qe0 (Aa (pv 4) Ac)) Af (A9 _)) (Ad (Al (i:=5) B3.nd (Ap (Ah (K:=K)) (pv 4) Af (fun _ _=>rfl)))
    (Ad (Al (i:=6) B3.nd (Ao (Vo (by rfl)) T.n_min Vp (Aa (Ap (Ah (K:=K)) (pv 3) (Ap (Bc (K:=K)) (pv 5) Af (fun _ _=>rfl)) (fun _ _=>rfl)) (Aa (Ap (Ah (K:=K)) (pv 3) (Ap (Bc (K:=K)) (pv 5) Af (fun _ _=>rfl)) (fun _ _=>rfl)) Ac))))
    (Ad (Al (i:=7) B3.nd (Ao (Ly (by rfl)) T.n_max Lz (Aa (Ap (Ah (K:=K)) (pv 3) (Ap (Bc (K:=K)) (pv 5) Af (fun _ _=>rfl)) (fun _ _=>rfl)) (Aa (Ap (Ah (K:=K)) (pv 3) (Ap (Bc (K:=K)) (pv 5) Af (fun _ _=>rfl)) (fun _ _=>rfl)) Ac))))
    (Ad (Al (i:=4) B3.nd (Ct (Je (K:=K)) (pv 4) (Cw Af) Ej))
    (Ag (Bj (Aw Uy (pv 6) (pv 7) (A9 _)) (Ad (Al (i:=3) B3.nd (Bm (N':=["_law_one","_law_high","_law_low"]) (cap:=[none,some 7,some 6]) (by rfl) (by kernel_rfl) (Bi (K:=K) (pv 3)) (fun _ _ _ _=>(Am (i:=0) jX)) (fun _ _ _ _=>Bk) (fun _ _ _ _=>(Rx (Aw Cb (pv 0) (pv 1) (A9 _)) (pv 2) (pv 0)))))
    (Ag (Al (i:=4) B3.nd (Ay (Ds (K:=K)) (pv 4) (d9 (K:=K) (by rfl) (by rfl) T.n_list (by rfl) T.n_zip (Aa (Ap (Ah (K:=K)) (pv 0) (Ap (Bc (K:=K)) (pv 5) Af (fun _ _=>rfl)) (fun _ _=>rfl)) (Aa (Ap (Ah (K:=K)) (pv 0) (Ap (Bc (K:=K)) (pv 5) Af (fun _ _=>rfl)) (fun _ _=>rfl)) Ac))))))) Ax)))))))
    (Ad (Al (i:=8) B3.nd (Cc Ac))
    (Ad (Ce qc3 rfl (Ij (K:=K) (by rfl) T.n_enumerate (Aa (pv 0) Ac)) (Fj (K:=K) (n:=2) (by rfl) (B4 (Am (i:=9) B3.nd) (B4 (Am (i:=10) B3.nd) Fg))) (Ag (Bj (Aw Cb (Ap (Ah (K:=K)) (pv 3) (pv 9) (fun _ _=>rfl)) (pv 9) (A9 _)) (Ag (C5 (B0 (K:=K) qc5 qd4 qd3 Ch (pv 8) (Aa (B0 (K:=K) qd8 qg1 qg0 (Fk (K:=K)) Bg (Aa (Ay (Ds (K:=K)) (Cc (Aa (Ap (Ah (K:=K)) (pv 1) (pv 9) (fun _ _=>rfl)) Ac)) (Bm (N':=["_law_face","_law_names_here","_law_first"]) (cap:=[none,some 1,some 3]) (by rfl) (by kernel_rfl) (Et (K:=K) (pv 10)) (fun _ _ _ _=>(Am (i:=0) JX)) (fun _ _ _ _=>Bk) (fun _ _ _ _=>(Ap (Ah (K:=K)) (pv 1) (Ap (Ah (K:=K)) (pv 2) (pv 0) (fun _ _=>rfl)) (fun _ _=>rfl))))) Ac)) Ac)))) Ax)))
    (Ag (Av (Bs (Aa (B0 (K:=K) qd8 qg1 qg0 (Fk (K:=K)) Bg (Aa (pv 8) Ac)) (Aa (Ao (Ai (K:=K)) T.n_len qe0 (Aa (pv 8) Ac)) Ac)))))))))),?_⟩
   cases eb;have hn:=ok.ok;have G0:=Y7 ok.sh;have f4:∀p,B5 xs p->(fc xs p).length<=4:=fun p hp=>(B9 ok.sh (k:=p.toNat) (by have:=hp.1;have:=hp.2;omega)).2;refine qr5 (fun σ' H'=>∃(l:Addr),σ'=[rS a,rS n,rS b,rS l,none,none,none,none,none,none,none]/\Same H H'/\H' l=some (.lst ((Go xs.length).map V.int))) (fun key=>?_) ?_
   . refine⟨_,rfl,a,xu,rfl,.inl U9,xu.length,rfl,O9m,fun l hl=>?_⟩;exact key _ _ ⟨l,rfl,Same.new hl,by rw[Ab,Pj]⟩
   refine Gj fun l H1 s1 hl=>?_;refine qr5 (fun σ' H'=>∃(w:Addr),σ'=[rS a,rS n,rS b,rS l,rS w,none,none,none,none,none,none]/\Same H1 H'/\H' w=some (.lst pu)) (fun key=>?_) ?_
   . refine⟨_,rfl,b,pu,rfl,.inl (s1.seq kX),fun w hw=>?_⟩;exact key _ _ ⟨w,rfl,Same.new hw,Ab⟩
   refine Gj fun w H2 s2 hw=>?_
   have LV:K7 (Go xs.length)<=40:=by
    unfold K7;refine qe1 (List.countP_le_length ..) ?_;rw[qg9,C2];exact hle
   refine qr5 (fun σ' H'=>∃(l w:Addr) (fs:List Int) (o5 o6 o7:Option V),σ'=[rS a,rS n,rS b,rS l,rS w,o5,o6,o7,none,none,none]/\Same H H'/\H' l=some (.lst (fs.map V.int))/\Hy xs fs/\Hw xs ps fs) (fun key=>?_) ?_
   . refine⟨JA K H a n b xs ps,⟨5*K7 (Go xs.length)+ps.length,l,w,Go xs.length,pu,ps,_,_,_,rfl,s1.trans s2,s2 _ _ hl,hw,Reps.same (s1.trans s2) rB,Dj.start hps,rfl,O9m⟩,?_⟩;clear s1 s2 hl hw LV rB kX;rintro m σ G ⟨l,w,fs,wu,ws,o5,o6,o7,rfl,g,hl,hw,rW,hW,hm,UE⟩;have ML:wu.length=ws.length:=by have:=rW.length;simpa using this
     refine⟨_,rfl,w,wu,rfl,.inl (.of hw),_,_,rfl,rfl,_,rfl,?_⟩;refine ite2 (fun h1=>?_) (fun h1=>?_);rotate_left
     . have e0:ws=[]:=by
        have:¬(0:Int)<(wu.length:Int):=by simpa using h1
        exact List.eq_nil_of_length_eq_zero O9m
       subst e0;exact key _ _ ⟨l,w,fs,_,_,_,rfl,g,hl,hW.lab,hW.done G0 fun z hz=>⟨(hps z hz).1,(hps z hz).2.1⟩⟩
     refine⟨fun σ' G'=>∃m',m'<m/\JA K H a n b xs ps m' σ' G',fun σ' G' h=>h,?_⟩
     obtain⟨z,X1,rfl⟩:∃z X1,ws=z::X1:=by
      cases ws with
      | nil=>rw[qh1]at ML;rw[ML]at h1;simp at h1
      | cons z X1=>exact⟨z,X1,rfl⟩
     obtain⟨v,MM,rfl,tv,QJ⟩:=rW;obtain⟨z1,z2,z3⟩:=hW.wrng z (by simp);have Qq:=hW.lab;have hfl:=Qq.len;obtain⟨av,rfl,Qk⟩:=TI.sq (show TI K G v (pr z) from tv);have Ow:Dv K G av [.int z.1,.int z.2]:=Qk;have iX:Io (fs.map V.int) z.1=some (.int (lb fs z.1)):=Dz z1.1 (by rw[hfl];exact z1.2);have at2:Io (fs.map V.int) z.2=some (.int (lb fs z.2)):=Dz z2.1 (by rw[hfl];exact z2.2);have emin:(if lb fs z.2<lb fs z.1 then lb fs z.2 else lb fs z.1)=min (lb fs z.1) (lb fs z.2):=by split<;>omega
     have emax:(if lb fs z.2 > lb fs z.1 then lb fs z.2 else lb fs z.1)=max (lb fs z.1) (lb fs z.2):=by split<;>omega
     refine Co [rS a,rS n,rS b,rS l,rS w,rS av,o6,o7,none,none,none] G (fun D0 h0=>⟨_,rfl,w,_,_,_,rfl,rfl,.of hw,Hr _ _,h0⟩) ?_;refine qr5 (fun σ' H'=>σ'=[rS a,rS n,rS b,rS l,rS w,rS av,some (.int (min (lb fs z.1) (lb fs z.2))),o7,none,none,none]/\G=H') (fun key=>?_) ?_
     . refine⟨_,rfl,_,rfl,av,_,_,_,rfl,rfl,Ow,rfl,l,_,_,_,rfl,rfl,.of hl,iX,_,rfl,_,rfl,av,_,_,_,rfl,rfl,Ow,rfl,l,_,_,_,rfl,rfl,.of hl,at2,_,_,rfl,?_⟩;rw[emin];exact key _ _ ⟨rfl,rfl⟩
     rintro _ _ ⟨rfl,rfl⟩;refine qr5 (fun σ' H'=>σ'=[rS a,rS n,rS b,rS l,rS w,rS av,some (.int (min (lb fs z.1) (lb fs z.2))),some (.int (max (lb fs z.1) (lb fs z.2))),none,none,none]/\G=H') (fun key=>?_) ?_
     . refine⟨_,rfl,_,rfl,av,_,_,_,rfl,rfl,Ow,rfl,l,_,_,_,rfl,rfl,.of hl,iX,_,rfl,_,rfl,av,_,_,_,rfl,rfl,Ow,rfl,l,_,_,_,rfl,rfl,.of hl,at2,_,_,rfl,?_⟩;rw[emax];exact key _ _ ⟨rfl,rfl⟩
     rintro _ _ ⟨rfl,rfl⟩;refine qr5 (fun σ' H'=>∃w2:Addr,σ'=[rS a,rS n,rS b,rS l,rS w2,rS av,some (.int (min (lb fs z.1) (lb fs z.2))),some (.int (max (lb fs z.1) (lb fs z.2))),none,none,none]/\Same G H'/\H' w2=some (.lst MM)) (fun key=>?_) ?_
     . refine⟨_,rfl,_,rfl,w,_,rfl,.of hw,fun c hc=>?_⟩;refine key _ _ ⟨c,rfl,Same.new hc,?_⟩;rw[Ab,oR];rfl
     refine Gj fun w2 G1 g1 UC=>?_;have LY:=g.trans g1;have hl1:=g1 _ _ hl;refine⟨_,rfl,_,rfl,rfl,_,rfl,?_⟩;have hwl:(z::X1).length=X1.length+1:=rfl;refine ite2 (fun h2=>?_) (fun h2=>?_);rotate_left
     . have e:lb fs z.1=lb fs z.2:=by
        have h3:min (lb fs z.1) (lb fs z.2)=max (lb fs z.1) (lb fs z.2):=by simpa using h2
        omega
       exact⟨5*K7 fs+X1.length,O9m,l,w2,fs,MM,X1,_,_,_,rfl,LY,hl1,UC,Reps.same g1 QJ,hW.skip1 e,rfl,O9m⟩
     have hne:¬lb fs z.1=lb fs z.2:=fun e=>by rw[e]at h2;simp at h2
     have hmg:=hW.merge1 G0 hne;have hless:=j4 Qq z1 z2 hne;have l4:=f4 _ z1;generalize min (lb fs z.1) (lb fs z.2)=lo at hmg hless;generalize max (lb fs z.1) (lb fs z.2)=hi' at hmg hless;refine qr5 (fun σ' H'=>∃M:Addr,σ'=[rS a,rS n,rS b,rS M,rS w2,rS av,iS lo,iS hi',none,none,none]/\Same G1 H'/\H' M=some (.lst ((mrg fs lo hi').map V.int))) (fun key=>?_) ?_
     . refine⟨_,rfl,l,rfl,⟨_,.of hl1⟩,fun D hD=>?_⟩
       refine Bp (K:=K) (a:=l) (xs:=fs.map V.int) (fun m zs τ G2=>Same G1 G2/\G2 D=some (.lst zs)/\zs=((fs.take m).map fun x=>if x=hi' then lo else x).map V.int/\∃o,τ=[o,iS hi',iS lo])
        ⟨Same.new hD,Ab,rfl,none,rfl⟩ (fun m zs τ G2 _ ⟨g,_⟩=>.of (g _ _ hl1)) ?_ ?_
       . rintro m x zs τ G2 hx ⟨g2,Bl,hzs,o,rfl⟩;obtain⟨hm',rfl⟩:=M6 hx
         have e5:(fs.take (m+1)).map (fun x=>if x=hi' then lo else x)=(fs.take m).map (fun x=>if x=hi' then lo else x)++[if fs[m]=hi' then lo else fs[m]]:=by
          rw[qd6,qa0 hm',qa6];rfl
         have pF:zs.length<=63:=by rw[hzs,qa1,qa1,qb5];omega
         generalize fs[m]=x at e5;refine⟨_,rfl,_,rfl,rfl,_,rfl,?_⟩;refine ite2 (fun h1=>?_) (fun h1=>?_)
         . have e:x=hi':=by simpa using h1
           refine⟨_,rfl,Bl,Bh O9m,g2.turn hD,Ab,?_,_,rfl⟩;rw[e5,if_pos e,qa6,hzs];rfl
         . have e:¬x=hi':=by simpa using h1
           refine⟨_,rfl,Bl,Bh O9m,g2.turn hD,Ab,?_,_,rfl⟩;rw[e5,if_neg e,qa6,hzs];rfl
       . rintro zs τ G2 ⟨g2,Bl,hzs,_⟩;rw[qa1,qb4]at hzs;exact key _ _ ⟨D,rfl,g2,by rw[Bl,hzs];rfl⟩
     refine Gj fun M G2 g2 hM=>?_;have OH:=LY.trans g2;obtain⟨xi,vi,hxi,qZ,pY⟩:=LT.get hL z1.1 z1.2;obtain⟨ai,rfl,qE⟩:=TI.sq pY;obtain⟨xj,vj,QX,QY,PX⟩:=LT.get hL z2.1 z2.2;obtain⟨aj,rfl,QD⟩:=TI.sq PX;have fV:Dv K H ai ((fc xs z.1).map V.int):=qE;have FU:Dv K H aj ((fc xs z.2).map V.int):=QD;have MW:=(g1.trans g2).seqT Ow;refine⟨_,rfl,_,rfl,_,rfl,av,_,_,_,rfl,rfl,MW,rfl,a,xi,_,_,rfl,rfl,OH.seq hxi,qZ,_,rfl,_,rfl,av,_,_,_,rfl,rfl,MW,rfl,a,xj,_,_,rfl,rfl,OH.seq QX,QY,ai,aj,_,_,rfl,OH.seqT fV,OH.seqT FU,by rw[qa1,qa1];exact z3,by rw[qa1];omega,fun lz ts G3 XY g3 uF OX hts=>?_⟩;have PZ:ts.length=(fc xs z.1).length:=by rw[OX,qa1]
     have zl:((fc xs z.1).zip (fc xs z.2)).length=(fc xs z.1).length:=by rw[List.length_zip];omega
     have rZ:Reps K G3 (ts.map V.ref) ((((fc xs z.1).zip (fc xs z.2)).map pr).map tI):=by
      refine Qw (by rw[qa1,qa1,qa1,zl,PZ]) fun i v d h1 h2=>?_;rw[qa3]at h1 h2;obtain⟨t,ht,rfl⟩:=qb1.mp h1;rw[qa3]at h2;obtain⟨q,hq2,rfl⟩:=qb1.mp h2;obtain⟨y,hy,rfl⟩:=qb1.mp hq2;rw[qf7]at hy;have h3:=hts i t ht;refine(TI.mk (.of ?_):TI K G3 (.ref t) (pr y));rw[h3]
      congr 2
      have i1:((fc xs z.1).map V.int).getD i .non=.int y.1:=Fo (by rw[qa3,hy.1];rfl);have i2:((fc xs z.2).map V.int).getD i .non=.int y.2:=Fo (by rw[qa3,hy.2];rfl);rw[i1,i2];rfl
     have WA:=(g2.trans g3) _ _ UC;have UW:MM.length=X1.length:=by have:=QJ.length;simpa using this
     refine⟨w2,lz,_,_,rfl,rfl,.of WA,.of uF,Au (by rw[qa1];omega),fun c hc=>?_⟩;have g4:=Same.new (o:=.lst (MM++ts.map V.ref)) hc;refine⟨5*K7 (mrg fs lo hi')+(X1++(fc xs z.1).zip (fc xs z.2)).length,?_,M,c,mrg fs lo hi',MM++ts.map V.ref,X1++(fc xs z.1).zip (fc xs z.2),_,_,_,rfl,(OH.trans g3).trans g4,(g3.trans g4) _ _ hM,Ab,?_,hmg,rfl,?_⟩
     . rw[hm,qb8,zl,hwl];omega
     . rw[qa6,qa6];exact reps_cat (Reps.same (((g1.trans g2).trans g3).trans g4) QJ) (Reps.same g4 rZ)
     . rw[qb8,zl];omega
   clear s1 s2 hl hw LV;refine mH fun l w fs o5 o6 o7 H3 s3 hl lab te=>?_;have hfl:=lab.len;refine qr5 (fun σ' H'=>∃D:Addr,σ'=[rS a,rS n,rS b,rS l,rS w,o5,o6,o7,rS D,none,none]/\Same H H'/\H' l=some (.lst (fs.map V.int))/\l≠D/\H D=none/\H' D=some (.lst [])) (fun key=>?_) ?_
   . exact⟨qb3 _,fun D hD=>key _ _ ⟨D,rfl,s3.trans (Same.new hD),(Same.new hD) _ _ hl,Be hl hD,s3.free hD,Ab⟩⟩
   refine cN fun D H4 s4 rJ VQ nD hD=>?_;have hfx:∀m,m<=xs.length->(Nf fs m).length<=40:=fun m hm=>qe1 (Jj fs m) O9m;refine qr5 (fun σ' H'=>∃o9 JU:Option V,σ'=[rS a,rS n,rS b,rS l,rS w,o5,o6,o7,rS D,o9,JU]/\Same H H'/\H' D=some (.lst (((Bo fs).map fun p=>Str.join (Str.ofString " ") (Jx names xs (lb fs) p)).map V.str))) (fun key=>?_) ?_
   . obtain⟨_,us,ez,ha,r⟩:=id hL;cases ez;have IQ:us.length=xs.length:=by have:=r.length;simpa using this
     refine⟨_,rfl,a,rfl,⟨us,s4.seq ha⟩,?_⟩
     refine Li (K:=K) (a:=a) (xs:=us) (fun i σ G=>∃o9 JU:Option V,σ=[rS a,rS n,rS b,rS l,rS w,o5,o6,o7,rS D,o9,JU]/\Same H G/\G l=some (.lst (fs.map V.int))/\G D=some (.lst (((Nf fs i).map fun p=>Str.join (Str.ofString " ") (Jx names xs (lb fs) p)).map V.str)))
      ⟨none,none,rfl,s4,rJ,hD⟩ (fun i σ G _ ⟨_,_,_,g,_⟩=>g.seq ha) ?_ ?_
     . rintro i v σ G p hv ⟨o9,JU,rfl,g,uG,Bl⟩ hp;have hi:i<xs.length:=by have:=(qa2.mp hv).1;omega
       obtain⟨dv,Sg,rv⟩:=r.getV hv
       have BR:dv=tI (xs.getD ((i:Int)).toNat []):=by
        rw[qa3,Gm (d:=[]) hi]at Sg;rw[qb9];simpa using Sg.symm
       subst BR;have rI:B5 xs (i:Int):=⟨O9m,O9m⟩
       have rN:=hfx i O9m;obtain⟨fk,pR⟩:=B9 ok.sh (show((i:Int)).toNat<xs.length by omega);have sp:Same G (upd G p (.tup [.int i,v])):=Same.new hp;have ep:upd G p (.tup [.int i,v]) p=some (.tup [.int i,v]):=Ab;have inr:∀f∈xs.getD ((i:Int)).toNat [],B5 xs f:=fun f hf=>G0.rng rI hf
       have eS:∀f∈xs.getD ((i:Int)).toNat [],0<=lb fs f/\lb fs f<(names.length:Int):=fun f hf=>by
        have:=lab.inR (inr f hf);exact⟨this.1,by have:=this.2;omega⟩
       have FN:=Vg fs i;have zz:=Gp hn (k:=((i:Int)).toNat) O9m (p:=(xs.getD ((i:Int)).toNat []).map (lb fs)) (fun f hf=>by obtain⟨f',hf',rfl⟩:=qe2.mp hf;exact eS f' hf') (by rw[qa1];exact pR);have er:Fq names ((i:Int)).toNat ((xs.getD ((i:Int)).toNat []).map (lb fs))=Jx names xs (lb fs) (i:Int):=by unfold Fq Jx;rw[qg6];rfl
       unfold N7 at zz;rw[er]at zz;unfold Jx at zz;obtain⟨z1,z2,z3⟩:=zz;have ON:Str.join (Str.ofString " ") (Jx names xs (lb fs) (i:Int))=Str.join (Str.ofString " ") (nmAt names ((i:Int)).toNat::(xs.getD ((i:Int)).toNat []).map fun f=>nmAt names (lb fs f).toNat):=rfl;generalize xs.getD ((i:Int)).toNat []=q at rv fk eS inr pR z1 z2 z3 ON;obtain⟨av,rfl,Qk⟩:=TI.sq (show TI K G v q from Rep.same g rv);refine⟨p,_,rfl,.of ep,rfl,_,_,rfl,_,_,rfl,rfl,?_⟩;generalize upd G p (.tup [.int i,.ref av])=G1 at sp ep;have g1:=g.trans sp;have HF:=sp _ _ uG;have Qr:=sp _ _ Bl;have mC:Io (fs.map V.int) (i:Int)=some (.int (lb fs (i:Int))):=Dz O9m O9m;refine⟨_,rfl,_,rfl,l,_,_,_,rfl,rfl,.of HF,mC,_,rfl,rfl,_,rfl,?_⟩;refine ite2 (fun h1=>?_) (fun h1=>?_);rotate_left
       . have e:¬lb fs (i:Int)=(i:Int):=by simpa using h1
         rw[if_neg e,qh7]at FN;exact⟨_,_,rfl,g1,HF,by rw[FN];exact Qr⟩
       have e:lb fs (i:Int)=(i:Int):=by simpa using h1
       rw[if_pos e]at FN;refine⟨_,rfl,.inl ⟨rfl,_,.of Qr⟩,rfl,_,rfl,_,rfl,n,_,_,_,rfl,rfl,g1.seq hq,Kj O9m O9m,Au (by simp),fun l1 hl1=>?_⟩;have s2:Same G1 (upd G1 l1 (.lst [.str (nmAt names ((i:Int)).toNat)])):=Same.new hl1;have e2:upd G1 l1 (.lst [.str (nmAt names ((i:Int)).toNat)]) l1=some (.lst [.str (nmAt names ((i:Int)).toNat)]):=Ab;generalize upd G1 l1 (.lst [.str (nmAt names ((i:Int)).toNat)])=G2 at s2 e2;have g2:=g1.trans s2;refine⟨_,rfl,av,rfl,⟨_,(sp.trans s2).seqT Qk⟩,fun E hE=>?_⟩
       refine Dg (K:=K) (a:=av) (xs:=q.map V.int) (fun j ys τ G3=>Same G2 G3/\G3 E=some (.lst ys)/\ys=((q.take j).map fun f=>nmAt names (lb fs f).toNat).map V.str/\∃o,τ=[o,rS n,rS l])
        ⟨Same.new hE,Ab,rfl,none,rfl⟩ (fun j ys τ G3 _ ⟨g3,_⟩=>((sp.trans s2).trans g3).seqT Qk) ?_ ?_
       . rintro j x ys τ G3 hx ⟨g3,AE,rfl,o,rfl⟩;rw[qa3]at hx;obtain⟨f,hf,rfl⟩:=qb1.mp hx;have hj:j<q.length:=(qa2.mp hf).1;obtain⟨f0,f1⟩:=eS f (qa8 hf);refine⟨_,rfl,_,rfl,_,rfl,l,_,_,_,rfl,rfl,.of ((s2.trans g3) _ _ HF),Dz (inr f (qa8 hf)).1 (by have:=(inr f (qa8 hf)).2;omega),n,_,_,_,rfl,rfl,(g2.trans g3).seq hq,Kj f0 f1,AE,Bh (by simp;omega),g3.turn hE,Ab,?_,_,rfl⟩;rw[qg5,hf,qa6,qa6];rfl
       . rintro ys τ G3 ⟨g3,AE,rfl,_⟩;rw[qa1,qb4]at AE;refine⟨l1,E,_,_,rfl,rfl,.of (g3 _ _ e2),.of AE,Au (by simp;omega),fun c hc=>?_⟩;have s4:=(s2.trans g3).trans (Same.new (o:=.lst ([V.str (nmAt names ((i:Int)).toNat)]++(q.map fun f=>nmAt names (lb fs f).toNat).map V.str)) hc);refine⟨Str.ofString " ",c,nmAt names ((i:Int)).toNat::q.map fun f=>nmAt names (lb fs f).toNat,rfl,rfl,.of Ab,?_,?_⟩
         . have e:(Str.ofString " ").length=1:=by decide +kernel
           rw[e];omega
         . rw[Nn];refine⟨D,_,_,rfl,rfl,s4 _ _ Qr,Bh (by simp;omega),?_⟩;refine⟨_,_,rfl,(g1.trans s4).turn nD,?_,?_⟩
           . rw[A8 VQ];exact s4 _ _ HF
           . rw[Ab,FN,qa6,qa6,←ON];rfl
     . rintro σ G ⟨o9,JU,rfl,g,uG,Bl⟩;rw[IQ,←hfl]at Bl;exact key _ _ ⟨o9,JU,rfl,g,Bl⟩
   refine X0 fun o9 JU H5 s5 CI=>?_
   have hpl:(Bo fs).length<=40:=by
    have:=hfx fs.length O9m;exact this
   refine⟨rfl,_,rfl,Str.ofString "; ",D,_,rfl,rfl,.of CI,?_,?_⟩
   . have e:(Str.ofString "; ").length=2:=by decide +kernel
     have h1:=Iq (ys:=(Bo fs).map fun p=>Str.join (Str.ofString " ") (Jx names xs (lb fs) p)) (B:=50) fun y hy=>by
      obtain⟨p,hp,rfl⟩:=qe2.mp hy;obtain⟨⟨p0,p1⟩,_⟩:=Ka lab hp;obtain⟨fk,pR⟩:=B9 ok.sh (show p.toNat<xs.length by omega)
      have zz:=Gp hn (k:=p.toNat) O9m (p:=(xs.getD p.toNat []).map (lb fs)) (fun f hf=>by
       obtain⟨f',hf',rfl⟩:=qe2.mp hf;have:=lab.inR (G0.rng ⟨p0,p1⟩ hf');exact⟨this.1,by have:=this.2;omega⟩) (by rw[qa1];exact pR)
      have er:Fq names p.toNat ((xs.getD p.toNat []).map (lb fs))=Jx names xs (lb fs) p:=by unfold Fq Jx;rw[qg6];rfl
      unfold N7 at zz;rw[er]at zz;exact zz.2.2
     rw[e];rw[qa1]at h1 ⊢;omega
   . rw[Nn];refine⟨_,rfl,D,_,rfl,.inl (.of CI),Au (by simp),fun T1 hT1=>?_⟩;refine k T1 fs _ (s5.trans (Same.new hT1)) lab te ?_;rw[Ab,qa1,qa1];rfl
noncomputable abbrev Kw:Stmt:=Ew 146
theorem V7:FnScope ["_law_pieces"] ["_law_pieces"] (As Kw):=Bb
theorem Wk{f:Addr}{fd:FuncData}(F:D5 K "_law_shifted" "_law_shifted" Kw f fd)(T:Txt K mg Aq) :Bt P w K mg base Dw 1 f fd ["_law_pieces"] (Nv K):=by
 refine F.ok V7 (fun vs H Q E h=>?_) (fun Da A outer s H vs Q E hr h=>?_)
 . obtain⟨_,_,rfl,_⟩:=h;rfl
 . obtain⟨a,xs,rfl,hL,M7,h4,k⟩:=h;obtain⟨_,us,z,hq,r⟩:=id hL;refine⟨_,(Ag (Av (Bm (N':=["_law_piece"]) (cap:=[none]) (by rfl) (by kernel_rfl) (Bi (K:=K) (pv 0)) (fun _ _ _ _=>(Am (i:=0) i6)) (fun _ _ _ _=>Bk) (fun _ _ _ _=>(Cg (De (K:=K)) (by rfl) T.n_tuple C1 (Aa (Bm (N':=["_law_face"]) (cap:=[none]) (by rfl) (by kernel_rfl) (Et (K:=K) (pv 0)) (fun _ _ _ _=>(Am (i:=0) jW)) (fun _ _ _ _=>Bk) (fun _ _ _ _=>(Ay Dl (pv 0) Af))) Ac)))))),?_⟩;cases z;have ul:us.length=xs.length:=by have:=r.length;simpa using this
   refine⟨_,rfl,a,rfl,⟨us,hq⟩,fun D hD=>?_⟩
   refine Bp (K:=K) (a:=a) (xs:=us) (fun i zs τ G=>Same H G/\G D=some (.lst zs)/\Reps K G zs ((Fv (xs.take i)).map tI)/\∃o,τ=[o])
    ⟨Same.new hD,Ab,rfl,none,rfl⟩ (fun i zs τ G _ ⟨g,_⟩=>g.seq hq) ?_ ?_
   . rintro i x zs τ G hx ⟨g,Bl,rG,o,rfl⟩;have hi:i<xs.length:=by have:=(qa2.mp hx).1;omega
     obtain⟨dv,Sg,rv⟩:=r.getV hx
     have BR:dv=tI xs[i]:=by
      rw[qa3,qa0 hi]at Sg;simpa using Sg.symm
     subst BR;have FL:=h4 _ (qc8 hi)
     have e5:Fv (xs.take (i+1))=Fv (xs.take i)++[xs[i].map (·+1)]:=by
      unfold Fv;rw[qd6,qa0 hi,qa6];rfl
     have zl:zs.length<=1000:=by
      have:=rG.length;unfold Fv at this;rw[qa1,qa1,qb5]at this;omega
     generalize xs[i]=p at FL e5 rv;obtain⟨ap,rfl,IJ⟩:=TI.sq (show TI K G x p from Rep.same g rv);refine⟨_,rfl,ap,rfl,⟨_,IJ⟩,fun E hE=>?_⟩
     refine Dg (K:=K) (a:=ap) (xs:=p.map V.int) (fun j ws τ' G2=>Same G G2/\G2 E=some (.lst ws)/\ws=((p.take j).map (·+1)).map V.int/\∃o',τ'=[o'])
      ⟨Same.new hE,Ab,rfl,none,rfl⟩ (fun j ws τ' G2 _ ⟨g2,_⟩=>g2.seqT IJ) ?_ ?_
     . rintro j y ws τ' G2 hy ⟨g2,cI,hws,o',rfl⟩;rw[qa3]at hy;obtain⟨f,hf,rfl⟩:=qb1.mp hy;refine⟨_,rfl,_,_,rfl,rfl,cI,Bh (by rw[hws,qa1,qa1,qb5];omega),g2.turn hE,Ab,?_,_,rfl⟩;rw[hws,qg5,hf,qa6,qa6];rfl
     . rintro ws τ' G2 ⟨g2,cI,hws,_⟩;rw[qa1,qb4]at hws;refine⟨E,_,rfl,.inl ⟨.of cI,fun T1 hT1=>?_⟩⟩;have g3:=g2.trans (Same.new (o:=.tup ws) hT1);have tt:TI K (upd G2 T1 (.tup ws)) (.ref T1) (p.map (·+1)):=TI.mk (by rw[←hws];exact .of Ab);generalize upd G2 T1 (.tup ws)=G3 at g3 tt;refine⟨g3 _ _ Bl,Bh O9m,(g.trans g3).turn hD,Ab,?_,_,rfl⟩;rw[e5];exact C4 (g3 _ _ Bl) (Reps.same g3 rG) tt
   . rintro zs τ G ⟨g,Bl,rG,_⟩;rw[ul,qb4]at rG;exact k D zs G hD g Bl rG
noncomputable abbrev Fx:Stmt:=Ew 3
theorem N1:FnScope ["thing","bound"] ["thing","bound"] (As Fx):=Bb
theorem Oa{f:Addr}{fd:FuncData}(F:D5 K "is_whole_below" "is_whole_below" Fx f fd)(T:Txt K mg Aq)(Gx:Has P w K mg base "is_whole" ["thing"] 1 (Ic K)):Bt P w K mg base Dw 2 f fd ["thing","bound"] (Fc K):=by
 refine F.ok N1 (fun vs H Q E h=>?_) (fun Da A outer s H vs Q E hr h=>?_)
 . obtain⟨_,_,_,rfl,_⟩:=h;rfl
 . obtain⟨x,d,b,rfl,hx,k⟩:=h;refine⟨_,(Ag (Av (Dy (Ak Gx hr (Aa (pv 0) Ac)) (Fh (Ry U0 N9 Af (pv 0) (pv 1)))))),?_⟩;refine⟨_,rfl,x,d,rfl,hx,_,rfl,?_⟩;refine ite2 (fun e=>?_) (fun e=>?_)
   . obtain⟨i,rfl⟩:=Q5 e;cases (show x=.int i from hx);refine⟨_,rfl,_,_,rfl,rfl,_,rfl,?_⟩;refine ite2 (fun e1=>?_) (fun e1=>?_)
     . refine⟨_,rfl,_,_,rfl,rfl,?_⟩;have e2:Pt (.int i) b=decide (i<b):=by show(decide (0<=i)&&decide (i<b))=_;rw[e1];rfl
       rw[e2]at k;exact k
     . have e2:Pt (.int i) b=false:=by show(decide (0<=i)&&decide (i<b))=_;simp at e1;simp;omega
       rw[e2]at k;exact k
   . have e2:Pt d b=false:=by
      cases d<;>first | rfl | (exfalso;exact e rfl)
     rw[e2]at k;exact k
noncomputable abbrev Ks:Stmt:=Ew 45
theorem N0:FnScope ["shape","kept","spots"] ["shape","kept"] (As Ks):=Bb
theorem Wf{f:Addr}{fd:FuncData}(F:D5 K "left_with" "left_with" Ks f fd)(T:Txt K mg Aq)(Gw:Has P w K mg base "spots_of" ["things"] 1 (Ox K))(F4:Has P w K mg base "called_by" ["spots","piece"] 1 (Mu K)):Bt P w K mg base Dw 2 f fd ["shape","kept"] (Nr K):=by
 refine F.ok N0 (fun vs H Q E h=>?_) (fun Da A outer s H vs Q E hr h=>?_)
 . obtain⟨_,_,_,_,rfl,_⟩:=h;rfl
 . obtain⟨a,b,ys,ls,rfl,hL,hS,hnd,Zv,hcl,AD,h4,k⟩:=h
   refine⟨_,(Ad (Al (i:=2) N0.nd (Ak Gw hr (Aa (pv 1) Ac)))
    (Ag (Av (Bm (N':=["old","spots","shape"]) (cap:=[none,some 2,some 0]) (by rfl) (by kernel_rfl) (Bi (K:=K) (pv 1)) (fun _ _ _ _=>(Am (i:=0) NP)) (fun _ _ _ _=>Bk) (fun _ _ _ _=>(Ak F4 hr (Aa (pv 1) (Aa (Ap (Ah (K:=K)) (pv 2) (pv 0) (fun _ _=>rfl)) Ac)))))))),?_⟩
   refine qr5 (fun σ' H'=>∃S:Addr,σ'=[rS a,rS b,rS S]/\Same H H'/\H' S=some (.dK (cK (On ls)))) (fun key=>?_) ?_
   . refine⟨_,rfl,b,rfl,.inl ⟨b,ls,rfl,hS,hnd,AD,fun S H' hS' s' wX=>?_⟩⟩;exact key _ _ ⟨S,rfl,s',wX⟩
   refine Gj fun S H1 s1 hSd=>?_;refine⟨_,rfl,b,rfl,⟨_,s1.seq hS⟩,fun D hD=>?_⟩
   refine Bp (K:=K) (a:=b) (xs:=ls.map V.int) (fun i us τ G=>Same H1 G/\G D=some (.lst us)/\Reps K G us (((ls.take i).map fun l=>(ys.getD l.toNat []).map (Gg ls)).map tI)/\∃o,τ=[o,rS S,rS a])
    ⟨Same.new hD,Ab,rfl,none,rfl⟩ (fun i us τ G _ ⟨g,_⟩=>(s1.trans g).seq hS) ?_ ?_
   . rintro i x us τ G hx ⟨g,Bl,rG,o,rfl⟩;have hi:i<ls.length:=by have:=(qa2.mp hx).1;simpa using this
     have hxv:x=.int ls[i]:=by
      rw[qa3,qa0 hi]at hx;simpa using hx.symm
     subst hxv;have IT:=qc8 hi;obtain⟨l0,l1⟩:=Zv _ IT;have hc:=hcl _ IT
     have e5:(ls.take (i+1)).map (fun l=>(ys.getD l.toNat []).map (Gg ls))=(ls.take i).map (fun l=>(ys.getD l.toNat []).map (Gg ls))++[(ys.getD ls[i].toNat []).map (Gg ls)]:=by
      rw[qd6,qa0 hi,qa6];rfl
     generalize ls[i]=l at l0 l1 hc e5;obtain⟨yu,vy,QW,WB,uZ⟩:=LT.get (Rep.same (s1.trans g) hL) l0 l1;have rJ:(ys.getD l.toNat []).length<=4:=h4 _ (Bq O9m);have pV:us.length<=1000:=by have:=rG.length;rw[qa1,qa1,qb5]at this;omega
     refine⟨_,rfl,_,rfl,_,rfl,a,yu,_,vy,rfl,rfl,QW,WB,S,vy,rfl,.inl ⟨S,vy,On ls,ys.getD l.toNat [],Gg ls,rfl,g _ _ hSd,uZ,O9m,fun f hf=>aT hnd (hc f hf),fun w G2 g2 tw=>?_⟩⟩;refine⟨g2 _ _ Bl,Bh O9m,(g.trans g2).turn hD,Ab,?_,_,rfl⟩;rw[e5];exact C4 (g2 _ _ Bl) (Reps.same g2 rG) tw
   . rintro us τ G ⟨g,Bl,rG,_⟩;rw[qa1,qb4]at rG;exact k D us G (s1.free hD) (s1.trans g) Bl rG
noncomputable abbrev d4:Stmt:=Ew 66
theorem Qv:FnScope ["shape","told","face","holders"] ["shape"] (As d4):=Bb
theorem gQ{f:Addr}{fd:FuncData}(F:D5 K "bent" "bent" d4 f fd)(T:Txt K mg Aq)(Il:Has P w K mg base "holders_of" ["shape","face"] 1 (Mb K)):Bt P w K mg base Dw 2 f fd ["shape"] (V2 K):=by
 refine F.ok Qv (fun vs H Q E h=>?_) (fun Da A outer s H vs Q E hr h=>?_)
 . obtain⟨_,_,rfl,_⟩:=h;rfl
 . obtain⟨a,xs,rfl,hL,M7,h4,k⟩:=h;obtain⟨us,hq,ul⟩:=LT.len hL
   refine⟨_,(Ad (Al (i:=1) Qv.nd (Cc Ac))
    (Ad (Ce qc3 rfl (Bu (by rfl) T.n_range (Aa (Ao (Ai (K:=K)) T.n_len qe0 (Aa (pv 0) Ac)) Ac)) (Am (i:=2) Qv.nd) (Ad (Al (i:=3) Qv.nd (Ak Il hr (Aa (pv 0) (Aa (pv 2) Ac))))
    (Ag (Bj (PW.pt (K1 (Aw Cb (Ao (Ai (K:=K)) T.n_len qe0 (Aa (pv 3) Ac)) Af (A9 _)) (Jz (Aw Cb (Ao (Ai (K:=K)) T.n_len qe0 (Aa (Ak Il hr (Aa (pv 0) (Aa (Ap (Ah (K:=K)) (pv 3) Af (fun _ _=>rfl)) Ac))) Ac)) Af (A9 _))))) (Ag (C5 (B0 (K:=K) qc5 qd4 qd3 Ch (pv 1) (Aa (Bs (Aa (pv 2) (Aa (Ap (Ah (K:=K)) (pv 3) Af (fun _ _=>rfl)) Ac))) Ac)))) Ax))))
    (Ag (Av (pv 1))))),?_⟩
   refine⟨qb3 _,fun D hD=>?_⟩;have s0:Same H (upd H D (.lst [])):=Same.new hD;refine⟨_,rfl,a,us,rfl,.inl (s0.seq hq),_,rfl,O9m,O9m,?_⟩;rw[ul]
   refine Cm (lo:=0) (n:=xs.length) (fun i σ G=>∃o2 o3 du,σ=[rS a,rS D,o2,o3]/\Same H G/\G D=some (.lst du)/\Reps K G du ((Hu xs i).map tI))
    ⟨none,none,[],rfl,s0,Ab,rfl⟩ ?_ ?_
   . rintro i σ G hi ⟨o2,o3,du,rfl,g,Bl,rD⟩;rw[show(0:Int)+(i:Int)=(i:Int) by omega];have LZ:du.length=(Hu xs i).length:=by have:=rD.length;simpa using this
     have bl:=Vu xs i;have eb:Hu xs (i+1)=(if (Gc xs (i:Int)).length=1/\(Gc xs ((Gc xs (i:Int)).getD 0 0)).length=0 then Hu xs i++[[(i:Int),(Gc xs (i:Int)).getD 0 0]] else Hu xs i):=rfl;refine⟨_,rfl,_,rfl,a,xs,_,rfl,Rep.same g hL,M7,h4,fun Ho G1 YF g1 HM=>?_⟩;generalize Gc xs (i:Int)=hs at HM eb;have Qr:=g1 _ _ Bl;have nG:=Reps.same g1 rD;refine⟨_,rfl,Ho,_,rfl,.inl (.of HM),rfl,_,rfl,?_⟩;rw[qa1];refine ite2 (fun h1=>?_) (fun h1=>?_);rotate_left
     . have e1:¬hs.length=1:=fun z=>h1 (by rw[z];rfl);refine Dt (by simp) ?_;refine⟨_,_,du,rfl,g.trans g1,Qr,?_⟩;rw[eb,if_neg (fun z=>e1 z.1)];exact nG
     have e1:hs.length=1:=by
      have:(hs.length:Int)=1:=by simpa using h1
      omega
     obtain⟨h0,rfl⟩:∃h0,hs=[h0]:=by
      match hs,e1 with
      | [h0],_=>exact⟨h0,rfl⟩
     refine⟨_,rfl,_,rfl,Ho,_,_,_,rfl,rfl,.of HM,rfl,a,xs,h0,rfl,Rep.same (g.trans g1) hL,M7,h4,fun H2 G2 PL g2 SD=>?_⟩;refine⟨H2,_,rfl,.inl (.of SD),rfl,_,rfl,?_⟩;rw[qa1];have gg:=g.trans (g1.trans g2);have Pn:=g2 _ _ Qr;have IL:=Reps.same g2 nG;refine ite2 (fun h2=>?_) (fun h2=>?_)
     . have e2:(Gc xs h0).length=0:=by
        have:((Gc xs h0).length:Int)=0:=by simpa using h2
        omega
       refine⟨_,rfl,.inl ⟨rfl,_,.of Pn⟩,_,rfl,_,rfl,Ho,_,_,_,rfl,rfl,.of (g2 _ _ HM),rfl,Au (by simp),fun T1 hT1=>?_⟩;have g3:Same G2 (upd G2 T1 (.tup [.int i,.int h0])):=Same.new hT1;have v3:(upd G2 T1 (.tup [.int i,.int h0])) T1=some (.tup [.int i,.int h0]):=Ab;generalize upd G2 T1 (.tup [.int i,.int h0])=G3 at g3 v3;have oE:=g3 _ _ Pn;refine⟨D,_,_,rfl,rfl,oE,Bh O9m,?_⟩;refine⟨_,_,_,rfl,(gg.trans g3).turn hD,Ab,?_⟩;rw[eb,if_pos ⟨rfl,e2⟩];exact C4 oE (Reps.same g3 IL) (TI.mk (.of v3))
     . have e2:¬(Gc xs h0).length=0:=fun z=>h2 (by rw[z];rfl);refine⟨_,_,du,rfl,gg,Pn,?_⟩;rw[eb,if_neg (fun z=>e2 z.2)];exact IL
   . rintro σ G ⟨o2,o3,du,rfl,g,Bl,rD⟩;exact⟨_,rfl,k D du G hD g Bl rD⟩
noncomputable abbrev O1:Stmt:=Ew 106
theorem b5:FnScope ["shape","names"] ["shape","names"] (As O1):=Bb
theorem e8{f:Addr}{fd:FuncData}(F:D5 K "written" "written" O1 f fd)(T:Txt K mg Aq)(Pm:Has P w K mg base "row_text" ["names","place","piece"] 1 (P2 K)):Bt P w K mg base Dw 2 f fd ["shape","names"] (Mr K):=by
 refine F.ok b5 (fun vs H Q E h=>?_) (fun Da A outer s H vs Q E hr h=>?_)
 . obtain⟨_,_,_,_,rfl,_⟩:=h;rfl
 . obtain⟨v,n,xs,names,rfl,hL,hq,hs,hx,hnl,hn,k⟩:=h;obtain⟨a,us,rfl,ha,r⟩:=id hL;have hl:us.length=xs.length:=by have:=r.length;simpa using this
   refine⟨_,(Ag (Av (B0 (K:=K) qd8 qg1 qg0 (Fk (K:=K)) Bg (Aa (Bm (N':=["place","piece","names"]) (cap:=[none,none,some 1]) (by rfl) (by kernel_rfl) (Ij (K:=K) (by rfl) T.n_enumerate (Aa (pv 0) Ac)) (fun _ _ _ _=>(Fj (K:=K) (n:=2) (by rfl) (B4 (Am (i:=0) DQ) (B4 (Am (i:=1) DQ) Fg)))) (fun _ _ _ _=>Bk) (fun _ _ _ _=>(Ak Pm hr (Aa (pv 2) (Aa (pv 0) (Aa (pv 1) Ac)))))) Ac)))),?_⟩;refine⟨rfl,_,rfl,a,rfl,⟨us,ha⟩,fun D hD=>?_⟩
   refine t7 (K:=K) (a:=a) (xs:=us) (fun i ys τ G=>Same H G/\G D=some (.lst ys)/\ys=((List.range i).map fun k=>N7 names k (xs.getD k [])).map V.str/\∃o1 o2,τ=[o1,o2,rS n])
    ⟨Same.new hD,Ab,rfl,none,none,rfl⟩ (fun i ys τ G _ ⟨s2,_⟩=>s2.seq ha) ?_ ?_
   . rintro i v ys τ G p hv ⟨s2,Hq,rfl,o1,o2,rfl⟩ hp;have hi:i<xs.length:=by have:=(qa2.mp hv).1;omega
     obtain⟨dv,Sg,rv⟩:=r.getV hv
     have BR:dv=tI (xs.getD i []):=by
      rw[qa3,qa0 hi]at Sg;rw[qa4,qa0 hi];simpa using Sg.symm
     subst BR;obtain⟨fk,f4⟩:=B9 hs hi;have sp:Same G (upd G p (.tup [.int i,v])):=Same.new hp;refine⟨p,_,rfl,.of Ab,rfl,_,_,rfl,_,_,rfl,rfl,?_⟩;generalize upd G p (.tup [.int i,v])=G1 at sp;refine⟨_,rfl,_,rfl,_,rfl,n,i,v,names,xs.getD i [],rfl,(s2.trans sp).seq hq,O9m,Rep.same (s2.trans sp) rv,fun f hf=>⟨(fk f hf).1,by have:=(fk f hf).2;omega⟩,f4,hn,fun G2 s3=>?_⟩;refine⟨s3 _ _ (sp _ _ Hq),Bh (by simp;omega),((s2.trans sp).trans s3).turn hD,Ab,?_,_,_,rfl⟩;rw[qi9,qa6,qa6];rfl
   . rintro ys τ G ⟨s2,Hq,rfl,_⟩;rw[hl]at Hq;refine⟨Str.ofString "; ",D,_,rfl,rfl,.of Hq,?_,?_⟩
     . have e:(Str.ofString "; ").length=2:=by decide +kernel
       have h1:=Iq (ys:=(List.range xs.length).map fun k=>N7 names k (xs.getD k [])) (B:=50) fun y hy=>by
        obtain⟨k,hk,rfl⟩:=qe2.mp hy;have hk:=qd7.mp hk;obtain⟨fk,f4⟩:=B9 hs hk;exact(Gp hn O9m (fun f hf=>⟨(fk f hf).1,by have:=(fk f hf).2;omega⟩) f4).2.2
       rw[e];rw[qa1,qg9]at h1 ⊢;omega
     . rw[Nn]
       have e2:Bw xs names=Str.join (Str.ofString "; ") ((List.range xs.length).map fun k=>N7 names k (xs.getD k [])):=by
        unfold Bw Cr;rw[qg6];rfl
       rw[←e2];exact k G s2
noncomputable abbrev O3:Stmt:=Ew 108
theorem Mv:FnScope ["thing","rows","row"] ["thing"] (As O3):=Bb
theorem f6{f:Addr}{fd:FuncData}(F:D5 K "rows_of" "rows_of" O3 f fd)(T:Txt K mg Aq)(Cv:Has P w K mg base "is_name" ["word"] 1 (Jm K)):Bt P w K mg base Dw 2 f fd ["thing"] (Q8 K):=by
 refine F.ok Mv (fun vs H Q E h=>?_) (fun Da A outer s H vs Q E hr h=>?_)
 . obtain⟨_,_,rfl,_⟩:=h;rfl
 . obtain⟨xs,names,rfl,hs,hx,hnl,hn,k⟩:=h;obtain⟨t1,t2,t3⟩:=Q7 hs hx hnl hn;have qJ:=CV hs hnl hn
   refine⟨_,(Ad (Bj (Dx (Cq (Ao (Cf (K:=K)) T.n_isinstance Bn (Aa (pv 0) (Aa (Er (v:=.ty "str") rfl T.n_str F5 rfl) Ac))))) (Ag Ea) Ax)
    (Ad (Bj (Aw Cb (Ao Kc T.n_len qe0 (Aa (pv 0) Ac)) Af (A9 _)) (Ag (Av (Cc Ac))) Ax)
    (Ad (Ff (N':=["row"]) (cap:=[none]) (i:=1) Mv.nd (by rfl) (by first | exact Or.inl rfl | exact Or.inr rfl) (by rfl) (by kernel_rfl) (Bi (K:=K) (B0 (K:=K) qd8 qk1 qk0 Jf (pv 0) (Aa Bg Ac))) (fun _ _ _ _=>(Am (i:=0) dR)) (fun _ _ _ _=>Bk) (fun _ _ _ _=>(B0 (K:=K) qd8 qk1 qk0 Jf (pv 0) (Aa Bg Ac))))
    (Ad (Ce qc3 rfl (Bi (K:=K) (pv 1)) (Am (i:=2) Mv.nd) (Ag (Bj (Dx (Cq (Ao (F1 (K:=K) (by rfl)) T.n_all Gz (Aa (Bm (N':=["word"]) (cap:=[none]) (by rfl) (by kernel_rfl) (Bi (K:=K) (pv 2)) (fun _ _ _ _=>(Am (i:=0) dQ)) (fun _ _ _ _=>Bk) (fun _ _ _ _=>(Ak Cv hr (Aa (pv 0) Ac)))) Ac)))) (Ag Ea) Ax)))
    (Ag (Av (pv 1))))))),?_⟩
   refine⟨_,rfl,_,"str",.str _,rfl,.inr (.inr (.inl rfl)),rfl,_,rfl,?_⟩;refine Dt (by simp[Wv]) ?_;refine⟨_,rfl,_,rfl,Au O9m,rfl,_,rfl,?_⟩;refine ite2 (fun h1=>?_) (fun h1=>?_)
   . have UB:xs.length=0:=by
      have h2:(Bw xs names).length=0:=by simpa using h1
      by_cases h3:1<=xs.length
      . have:=t2 h3;omega
      . omega
     refine⟨qb3 _,fun l hl=>k (.ref l) _ (Same.new hl) ⟨l,[],rfl,.of Ab,?_⟩⟩;unfold Cr;rw[UB];rfl
   have eE:Cr xs names≠[]:=by
    intro z;refine h1 ?_;have e:xs.length=0:=by simpa[Cr]using congrArg List.length z
    rw[t3 e];rfl
   have e1:=d6 eE fun r hr=>(qJ r hr).1;have hrl:(Cr xs names).length=xs.length:=by simp[Cr]
   refine Jb (fun σ' H'=>σ'=[some (.str (Bw xs names)),none,none]/\H=H') ?_ fun Wu=>Wu _ _ ⟨rfl,rfl⟩;refine L9 ?_;refine qr5 (fun σ' H'=>∃(D:Addr),σ'=[some (.str (Bw xs names)),rS D,none]/\Same H H'/\Rep K H' (.ref D) (Vl (Cr xs names))) (fun key=>?_) ?_
   . refine⟨_,rfl,rfl,_,_,rfl,rfl,by decide +kernel,Au O9m,fun l hl=>?_⟩;have e2:Txt.split (Bw xs names) (Str.ofString "; ")=(Cr xs names).map (Str.join (Str.ofString " ")):=e1;rw[e2];have s1:Same H (upd H l (.lst (((Cr xs names).map (Str.join (Str.ofString " "))).map V.str))):=Same.new hl;have el:upd H l (.lst (((Cr xs names).map (Str.join (Str.ofString " "))).map V.str)) l=some (.lst (((Cr xs names).map (Str.join (Str.ofString " "))).map V.str)):=Ab;generalize upd H l (.lst (((Cr xs names).map (Str.join (Str.ofString " "))).map V.str))=H1 at s1 el;refine⟨l,rfl,⟨_,.of el⟩,fun D hD=>?_⟩
     refine Bp (K:=K) (a:=l) (xs:=((Cr xs names).map (Str.join (Str.ofString " "))).map V.str) (fun i ys τ G=>Same H1 G/\G D=some (.lst ys)/\(∃bs:List Addr,ys=bs.map V.ref/\bs.length=i/\∀(j:Nat) b,bs[j]?=some b->b≠D/\G b=some (.lst (((Cr xs names).getD j []).map V.str)))/\∃o,τ=[o])
      ⟨Same.new hD,Ab,⟨[],rfl,rfl,fun j b e=>by simp at e⟩,none,rfl⟩ (fun i ys τ G _ ⟨s2,_⟩=>.of (s2 _ _ el)) ?_ ?_
     . rintro i x ys τ G hx ⟨s2,Hq,⟨bs,rfl,RP,hb⟩,o,rfl⟩;rw[qa3,qa3]at hx;obtain⟨t,ht,rfl⟩:=qb1.mp hx;obtain⟨r,hr,rfl⟩:=qb1.mp ht;have hrm:=qa8 hr;have hi:i<xs.length:=by have:=(qa2.mp hr).1;omega
       have er:(Cr xs names).getD i []=r:=by rw[qa4,hr];rfl
       obtain⟨r1,r2,r3⟩:=qJ r hrm;have hz:=Jg (Str.ofString " ") r;have hz2:=Iq (ys:=r) (B:=8) fun y hy=>(r1 y hy).le;have e3:(Str.ofString " ").length=1:=by decide +kernel
       rw[e3]at hz;refine⟨_,rfl,rfl,_,_,rfl,rfl,by decide +kernel,Au O9m,fun b hb2=>?_⟩;rw[cQ r2 r1];have qS:b≠D:=fun z=>by rw[z,Hq]at hb2;cases hb2
       refine⟨by rw[A8 qS.symm];exact Hq,Bh (by simp;omega),(s2.trans (Same.new hb2)).turn hD,Ab,⟨bs++[b],by rw[qa6];rfl,by simp[RP],fun j c hc=>?_⟩,_,rfl⟩;by_cases hj:j<bs.length
       . rw[qf8 hj]at hc;obtain⟨c1,c2⟩:=hb j c hc;refine⟨c1,?_⟩;rw[A8 c1];exact(Same.new hb2) _ _ c2
       . rw[qk9 (by omega)]at hc
         have e4:j-bs.length=0:=by
          by_cases h5:j-bs.length=0
          . exact h5
          . have:=(qa2.mp hc).1;simp at this;omega
         rw[e4]at hc;have e5:c=b:=by simpa using hc.symm
         subst e5;refine⟨qS,?_⟩;rw[A8 qS,Ab,show j=i by omega,er]
     . rintro ys τ G ⟨s2,Hq,⟨bs,rfl,RP,hb⟩,_⟩;refine key _ _ ⟨D,rfl,s1.trans s2,fZ Hq (by simpa using RP) fun j b e=>(hb j b e).2⟩
   refine Gj fun D H2 s2 hR=>?_;obtain⟨_,us,z,hq,IQ,Fa⟩:=Wb hR;cases z;refine⟨_,rfl,D,rfl,⟨us,hq⟩,?_⟩
   refine for_list (K:=K) (a:=D) (xs:=us) (fun i σ G=>∃o,σ=[some (.str (Bw xs names)),rS D,o]/\Same H2 G)
    ⟨none,rfl,Same.refl _⟩ (fun i σ G _ ⟨_,_,s3⟩=>s3.seq hq) ?_ ?_
   . rintro i u σ G hu ⟨o,rfl,s3⟩;obtain⟨b,r,rfl,hr,hb⟩:=Fa i u hu;obtain⟨r1,r2,r3⟩:=qJ r (qa8 hr);refine⟨_,rfl,b,rfl,⟨_,s3.seq hb⟩,fun D2 Hq=>?_⟩
     refine Bp (K:=K) (a:=b) (xs:=r.map V.str) (fun j ys τ G1=>Same G G1/\G1 D2=some (.lst ys)/\ys=(List.replicate j true).map V.bl/\∃o,τ=[o])
      ⟨Same.new Hq,Ab,rfl,none,rfl⟩ (fun j ys τ G1 _ ⟨s4,_⟩=>(s3.trans s4).seq hb) ?_ ?_
     . rintro j x ys τ G1 hx ⟨s4,Tw,rfl,o,rfl⟩;rw[qa3]at hx;obtain⟨w,hw,rfl⟩:=qb1.mp hx;have hj:j<r.length:=(qa2.mp hw).1;refine⟨_,rfl,w,rfl,r1 w (qa8 hw),fun G2 s5=>?_⟩;refine⟨s5 _ _ Tw,Bh (by simp;omega),(s4.trans s5).turn Hq,Ab,?_,_,rfl⟩;rw[ql0,qa6];rfl
     . rintro ys τ G1 ⟨s4,Tw,rfl,_⟩;refine⟨D2,List.replicate (r.map V.str).length true,rfl,.of Tw,_,rfl,?_⟩;rw[show(List.replicate (r.map V.str).length true).all id=true by simp];refine Dt (by decide) ?_;exact⟨_,rfl,s3.trans s4⟩
   . rintro σ G ⟨o,rfl,s3⟩;exact⟨_,rfl,k _ G (s2.trans s3) (Rep.same s3 hR)⟩
noncomputable abbrev Kr:Stmt:=Ew 110
theorem Fd:FnScope ["rows","spots","pieces","place","row"] ["rows"] (As Kr):=Bb
theorem We{f:Addr}{fd:FuncData}(F:D5 K "pieces_of" "pieces_of" Kr f fd)(T:Txt K mg Aq)(Jh:Has P w K mg base "spot_of" ["spots","name"] 1 (Mt K)):Bt P w K mg base Dw 2 f fd ["rows"] (Nq K):=by
 refine F.ok Fd (fun vs H Q E h=>?_) (fun Da A outer s H vs Q E hr h=>?_)
 . obtain⟨_,_,_,rfl,_⟩:=h;rfl
 . obtain⟨v,xs,names,rfl,hR,hs,hx,hnl,hnd,k⟩:=h;have J5:=hr.u8;obtain⟨a,us,rfl,iT,IQ,Fa⟩:=Wb hR;have hrl:(Cr xs names).length=xs.length:=by simp[Cr]
   refine⟨_,(Ad (Al (i:=1) Fd.nd Yi)
    (Ad (Al (i:=2) Fd.nd (Cc Ac))
    (Ad (Ce qc3 rfl (Ij (K:=K) (by rfl) T.n_enumerate (Aa (pv 0) Ac)) (Fj (K:=K) (n:=2) (by rfl) (B4 (Am (i:=3) Fd.nd) (B4 (Am (i:=4) Fd.nd) Fg))) (Ad (C5 (B0 (K:=K) qc5 qd4 qd3 Ch (pv 2) (Aa (Cg (De (K:=K)) (by rfl) T.n_tuple C1 (Aa (Bm (N':=["name","spots"]) (cap:=[none,some 1]) (by rfl) (by kernel_rfl) (Bi (K:=K) (Ct (Je (K:=K)) (pv 4) (Cw Af) Ej)) (fun _ _ _ _=>(Am (i:=0) DP)) (fun _ _ _ _=>Bk) (fun _ _ _ _=>(Ak Jh hr (Aa (pv 1) (Aa (pv 0) Ac))))) Ac)) Ac)))
    (Ad (Bj (Aw (JS (u1 J5)) (Ap (Ah (K:=K)) (pv 4) Af (fun _ _=>rfl)) (pv 1) rfl) (Ag Ea) Ax)
    (Ag (y8 (u1 J5) (pv 1) (Ap (Ah (K:=K)) (pv 4) Af (fun _ _=>rfl)) (pv 3) (by rfl))))))
    (Ag (Av (pv 2)))))),?_⟩
   refine qr5 (fun σ' H'=>∃(d:Addr),σ'=[rS a,rS d,none,none,none]/\H d=none/\Same H H'/\H' d=some (.dK [])) (fun key=>?_) ?_
   . intro d hd;exact key _ _ ⟨d,rfl,hd,Same.new hd,Ab⟩
   refine Kf fun d H1 hd s1 UN=>?_;refine qr5 (fun σ' H'=>∃(q:Addr),σ'=[rS a,rS d,rS q,none,none]/\H1 q=none/\Same H1 H'/\H' q=some (.lst [])) (fun key=>?_) ?_
   . exact⟨qb3 _,fun q hq=>key _ _ ⟨q,rfl,hq,Same.new hq,Ab⟩⟩
   refine Kf fun q H2 hq s2 XF=>?_;have TU:q≠d:=fun z=>by rw[z,UN]at hq;cases hq
   have Uu:=s1.trans s2;refine⟨_,rfl,a,rfl,⟨us,Uu.seq iT⟩,?_⟩
   refine Li (K:=K) (a:=a) (xs:=us) (fun i σ G=>∃o3 o4 Az,∃ts:List Addr,σ=[rS a,rS d,rS q,o3,o4]/\Same H G/\G d=some (.dK Az)/\Az.length<=i/\(∀k,k<i->k<xs.length->valV Az (.inr (nmAt names k))=some (.int k))/\(∀k,i<=k->k<xs.length->valV Az (.inr (nmAt names k))=none)/\G q=some (.lst (ts.map V.ref))/\ts.length=i/\∀(j:Nat) t,ts[j]?=some t->t≠d/\t≠q/\G t=some (.tup ((xs.getD j []).map V.int)))
    ⟨none,none,[],[],rfl,Uu,s2 _ _ UN,by simp,fun k hk=>O9m,fun k _ _=>rfl,XF,rfl,fun j t e=>by simp at e⟩ (fun i σ G _ ⟨_,_,_,_,_,s3,_⟩=>s3.seq iT) ?_ ?_
   . rintro i u σ G p hu ⟨o3,o4,Az,ts,rfl,s3,PJ,Se,hk1,hk2,LU,AB,hts⟩ hp;obtain⟨b,r,rfl,hr,hb⟩:=Fa i u hu;obtain⟨hi,rfl⟩:=Yh hr;obtain⟨fk,f4⟩:=B9 hs hi;have sp:Same G (upd G p (.tup [.int i,.ref b])):=Same.new hp;refine⟨p,_,rfl,.of Ab,rfl,_,_,rfl,_,_,rfl,rfl,?_⟩;generalize upd G p (.tup [.int i,.ref b])=G1 at sp;refine qr5 (fun σ' H'=>∃t:Addr,σ'=[rS a,rS d,rS q,iS i,rS b]/\G1 t=none/\(∀x o,x≠q->G1 x=some o->H' x=some o)/\H' q=some (.lst ((ts++[t]).map V.ref))/\H' t=some (.tup ((xs.getD i []).map V.int))) (fun key=>?_) ?_
     . refine⟨_,rfl,.inl ⟨rfl,_,.of (sp _ _ LU)⟩,_,rfl,_,rfl,b,_,rfl,(s3.trans sp).seq hb,fun c hc=>?_⟩;have s4:Same G1 (upd G1 c (.lst (cutV ((Fq names i (xs.getD i [])).map V.str) (some 1) none))):=Same.new hc
       have ec:upd G1 c (.lst (cutV ((Fq names i (xs.getD i [])).map V.str) (some 1) none)) c=some (.lst (((xs.getD i []).map fun f=>nmAt names f.toNat).map V.str)):=by
        rw[Ab,oR];rfl
       generalize upd G1 c (.lst (cutV ((Fq names i (xs.getD i [])).map V.str) (some 1) none))=G2 at s4 ec;refine⟨c,rfl,⟨_,.of ec⟩,fun D hD=>?_⟩
       refine Bp (K:=K) (a:=c) (xs:=((xs.getD i []).map fun f=>nmAt names f.toNat).map V.str) (fun j ys τ G3=>Same G2 G3/\G3 D=some (.lst ys)/\ys=((xs.getD i []).take j).map V.int/\∃o,τ=[o,rS d])
        ⟨Same.new hD,Ab,rfl,none,rfl⟩ (fun j ys τ G3 _ ⟨s5,_⟩=>.of (s5 _ _ ec)) ?_ ?_
       . rintro j x ys τ G3 hx ⟨s5,CI,rfl,o,rfl⟩;rw[qa3,qa3]at hx;obtain⟨w,hw,rfl⟩:=qb1.mp hx;obtain⟨f,hf,rfl⟩:=qb1.mp hw;have hj:j<(xs.getD i []).length:=(qa2.mp hf).1;obtain⟨f0,f1⟩:=fk f (qa8 hf);refine⟨_,rfl,_,rfl,d,Az,nmAt names f.toNat,f,rfl,s5 _ _ (s4 _ _ (sp _ _ PJ)),?_,CI,Bh (by simp;omega),s5.turn hD,Ab,?_,_,rfl⟩
         . rw[hk1 f.toNat (by omega) (by omega)]
           congr 2
           omega
         . rw[qg5,hf,qa6];rfl
       . rintro ys τ G3 ⟨s5,CI,rfl,_⟩;rw[qa1,qa1,qb4]at CI;refine⟨D,_,rfl,.inl ⟨.of CI,fun t ht=>?_⟩⟩;have s6:Same G3 (upd G3 t (.tup ((xs.getD i []).map V.int))):=Same.new ht;have et:upd G3 t (.tup ((xs.getD i []).map V.int)) t=some (.tup ((xs.getD i []).map V.int)):=Ab;generalize upd G3 t (.tup ((xs.getD i []).map V.int))=G4 at s6 et;have Zt:=(s4.trans s5).trans s6;have wH:G4 q=some (.lst (ts.map V.ref)):=Zt _ _ (sp _ _ LU)
         have qR:t≠q:=fun z=>by
          have e:=(s4.trans s5) _ _ (sp _ _ LU);rw[←z,ht]at e;cases e
         refine⟨q,_,_,rfl,rfl,wH,Bh (by simp;omega),key _ _ ⟨t,rfl,(s4.trans s5).free ht,fun x o hx e=>?_,?_,?_⟩⟩
         . rw[A8 hx];exact Zt _ _ e
         . rw[Ab,qa6];rfl
         . rw[A8 qR];exact et
     refine mK fun t G5 ht0 keep WG WE=>?_;have uI:G5 d=some (.dK Az):=keep _ _ TU.symm (sp _ _ PJ);have fq:H q=none:=s1.free hq;have s5:Same H G5:=fun x o e=>keep x o (Be e fq) ((s3.trans sp) _ _ e);have uJ:SqL K G5 b ((Fq names i (xs.getD i [])).map V.str):=s5.seq hb;have hat:Io ((Fq names i (xs.getD i [])).map V.str) 0=some (.str (nmAt names i)):=Ca (j:=0) rfl;have hno:=hk2 i (qa9 _) hi;refine qr5 (fun σ' H'=>σ'=[rS a,rS d,rS q,iS i,rS b]/\G5=H') (fun key=>?_) ?_
     . refine⟨_,rfl,b,_,_,_,rfl,rfl,uJ,hat,_,rfl,d,Az,.inr (nmAt names i),rfl,uI,rfl,_,rfl,?_⟩;refine Dt (by rw[hno];simp) ?_;exact key _ _ ⟨rfl,rfl⟩
     rintro _ _ ⟨rfl,rfl⟩;refine⟨_,rfl,_,rfl,_,rfl,b,_,_,_,rfl,rfl,uJ,hat,d,_,rfl,.k (k:=.inr (nmAt names i)) uI (Bh O9m),?_⟩;have OZ:t≠d:=fun z=>by rw[z,sp _ _ PJ]at ht0;cases ht0
     have qR:t≠q:=fun z=>by rw[z,sp _ _ LU]at ht0;cases ht0
     refine⟨_,_,_,ts++[t],rfl,s5.turn hd,Ab,?_,fun k hk hkx=>?_,fun k hk hkx=>?_,?_,by simp[AB],fun j z e=>?_⟩
     . rw[CZ _ hno,qb8];simp;omega
     . rw[Nm];by_cases hki:k=i
       . subst hki;rw[if_pos rfl]
       . rw[if_neg,hk1 k (by omega) hkx];intro z;exact hki (Wp hnd O9m O9m (Sum.inr.inj z))
     . rw[Nm,if_neg,hk2 k (by omega) hkx];intro z;have:=Wp hnd O9m O9m (Sum.inr.inj z);omega
     . rw[A8 TU];exact WG
     . by_cases hj:j<ts.length
       . rw[qf8 hj]at e;obtain⟨z1,z2,z3⟩:=hts j z e;refine⟨z1,z2,?_⟩;rw[A8 z1];exact keep _ _ z2 (sp _ _ z3)
       . rw[qk9 (by omega)]at e
         have e4:j-ts.length=0:=by
          by_cases h5:j-ts.length=0
          . exact h5
          . have:=(qa2.mp e).1;simp at this;omega
         rw[e4]at e;have e5:z=t:=by simpa using e.symm
         subst e5;refine⟨OZ,qR,?_⟩;rw[A8 OZ,show j=i by omega];exact WE
   . rintro σ G ⟨o3,o4,Az,ts,rfl,s3,PJ,Se,hk1,hk2,LU,AB,hts⟩;exact⟨_,rfl,k _ G s3 (nR LU O9m fun j t e=>(hts j t e).2.2)⟩
noncomputable abbrev O5:Stmt:=Ew 117
theorem Rh:FnScope ["word","parts"] ["word"] (As O5):=Bb
theorem f8{f:Addr}{fd:FuncData}(F:D5 K "is_pair" "is_pair" O5 f fd)(T:Txt K mg Aq)(Cv:Has P w K mg base "is_name" ["word"] 1 (Jm K)):Bt P w K mg base Dw 2 f fd ["word"] (Ra K):=by
 refine F.ok Rh (fun vs H Q E h=>?_) (fun Da A outer s H vs Q E hr h=>?_)
 . obtain⟨_,_,_,rfl,_⟩:=h;rfl
 . obtain⟨w,x,y,rfl,hw,k⟩:=h;have hl:=hw.len
   refine⟨_,(Ad (Al (i:=1) Rh.nd (B0 (K:=K) qd8 qk1 qk0 Jf (pv 0) (Aa Bg Ac)))
    (Ag (Av (Dy (Fi Cb (Ao (Ai (K:=K)) T.n_len qe0 (Aa (pv 1) Ac)) Af (A9 _)) (Dy (Ak Cv hr (Aa (Ap (Ah (K:=K)) (pv 1) Af (fun _ _=>rfl)) Ac)) (Fh (Ak Cv hr (Aa (Ap (Ah (K:=K)) (pv 1) Af (fun _ _=>rfl)) Ac)))))))),?_⟩
   refine⟨_,rfl,rfl,_,_,rfl,rfl,by decide +kernel,Au O9m,fun l hl=>?_⟩;have es:Txt.split w (Str.ofString "=")=[x,y]:=hw.split;rw[es];have s1:Same H (upd H l (.lst ([x,y].map V.str))):=Same.new hl;have e1:upd H l (.lst ([x,y].map V.str)) l=some (.lst ([x,y].map V.str)):=Ab;generalize upd H l (.lst ([x,y].map V.str))=H1 at s1 e1;refine⟨_,rfl,l,_,rfl,.inl (.of e1),rfl,_,rfl,?_⟩;refine Hz (by rfl) ?_;refine⟨_,rfl,l,_,_,_,rfl,rfl,.of e1,rfl,x,rfl,hw.ea,fun H2 s2=>⟨_,rfl,?_⟩⟩;refine Hz (by rfl) ?_;refine⟨_,rfl,l,_,_,_,rfl,rfl,.of (s2 _ _ e1),rfl,y,rfl,hw.eb,fun H3 s3=>?_⟩;exact k H3 ((s1.trans s2).trans s3)
noncomputable abbrev O4:Stmt:=Ew 124
theorem b7:FnScope ["spots","word"] ["spots","word"] (As O4):=Bb
theorem f7{f:Addr}{fd:FuncData}(F:D5 K "pair_of" "pair_of" O4 f fd)(T:Txt K mg Aq)(Jh:Has P w K mg base "spot_of" ["spots","name"] 1 (Mt K)):Bt P w K mg base Dw 2 f fd ["spots","word"] (Q9 K):=by
 refine F.ok b7 (fun vs H Q E h=>?_) (fun Da A outer s H vs Q E hr h=>?_)
 . obtain⟨_,_,_,_,_,rfl,_⟩:=h;rfl
 . obtain⟨d,Az,ns,w,z,rfl,hd,Zu,hz,k⟩:=h;obtain⟨z0,z1,z2,z3,hw⟩:=hz;have hl:=hw.len;refine⟨_,(Ag (Av (Cg (De (K:=K)) (by rfl) T.n_tuple C1 (Aa (Bm (N':=["name","spots"]) (cap:=[none,some 0]) (by rfl) (by kernel_rfl) (Bi (K:=K) (B0 (K:=K) qd8 qk1 qk0 Jf (pv 1) (Aa Bg Ac))) (fun _ _ _ _=>(Am (i:=0) DP)) (fun _ _ _ _=>Bk) (fun _ _ _ _=>(Ak Jh hr (Aa (pv 1) (Aa (pv 0) Ac))))) Ac)))),?_⟩;refine⟨_,rfl,rfl,_,_,rfl,rfl,by decide +kernel,Au O9m,fun l hl=>?_⟩;rw[show Txt.split w (Str.ofString "=")=[nmAt ns z.1.toNat,nmAt ns z.2.toNat] from hw.split];have s1:Same H (upd H l (.lst ([nmAt ns z.1.toNat,nmAt ns z.2.toNat].map V.str))):=Same.new hl;have e1:upd H l (.lst ([nmAt ns z.1.toNat,nmAt ns z.2.toNat].map V.str)) l=some (.lst ([nmAt ns z.1.toNat,nmAt ns z.2.toNat].map V.str)):=Ab;generalize upd H l (.lst ([nmAt ns z.1.toNat,nmAt ns z.2.toNat].map V.str))=H1 at s1 e1
   have hv:∀(i:Nat) x,[nmAt ns z.1.toNat,nmAt ns z.2.toNat][i]?=some x->valV Az (.inr x)=some (.int ((pr z).getD i 0)):=fun i x hx=>by
    match i,hx with
    | 0,hx =>
      have e:x=nmAt ns z.1.toNat:=by simpa using hx.symm
      subst e;have:=Zu z.1.toNat _ (Gm (d:=Str.empty) O9m)
      rwa [show((z.1.toNat:Nat):Int)=z.1 by omega]at this
    | 1,hx =>
      have e:x=nmAt ns z.2.toNat:=by simpa using hx.symm
      subst e;have:=Zu z.2.toNat _ (Gm (d:=Str.empty) O9m)
      rwa [show((z.2.toNat:Nat):Int)=z.2 by omega]at this
    | i+2,hx=>simp at hx
   refine⟨l,rfl,⟨_,.of e1⟩,fun D hD=>?_⟩
   refine Bp (K:=K) (a:=l) (xs:=[nmAt ns z.1.toNat,nmAt ns z.2.toNat].map V.str) (fun i ys τ G=>Same H1 G/\G D=some (.lst ys)/\ys=((pr z).take i).map V.int/\∃o,τ=[o,rS d])
    ⟨Same.new hD,Ab,rfl,none,rfl⟩ (fun i ys τ G _ ⟨g,_⟩=>g.seq (.of e1)) ?_ ?_
   . rintro i x ys τ G hx ⟨g,Bl,hys,o,rfl⟩;rw[qa3]at hx;obtain⟨y,hy,rfl⟩:=qb1.mp hx;have hi:i<2:=(qa2.mp hy).1;refine⟨_,rfl,_,rfl,d,Az,y,_,rfl,(s1.trans g) _ _ hd,hv i y hy,Bl,Bh (by rw[hys,qa1,qb5];omega),g.turn hD,Ab,?_,_,rfl⟩;rw[hys,qg5,Gm (d:=0) (show i<(pr z).length from hi),qa6];rfl
   . rintro ys τ G ⟨g,Bl,hys,_⟩;refine⟨D,_,rfl,.inl ⟨.of Bl,fun T1 hT1=>?_⟩⟩;refine k _ _ ((s1.trans g).trans (Same.new hT1)) (TI.mk ?_);rw[show(pr z).map V.int=ys from hys.symm];exact .of Ab
noncomputable abbrev Rq:Stmt:=Ew 130
theorem O0:FnScope ["_law_pieces","_law_thing","_law_face","_law_j"] ["_law_pieces","_law_thing"] (As Rq):=Bb
theorem BF{f:Addr}{fd:FuncData}(F:D5 K "_law_fits" "_law_fits" Rq f fd)(T:Txt K mg Aq)(Ed:Has P w K mg base "_law_level" ["_law_piece"] 1 (Di K))(Ji:Has P w K mg base "_law_meets" ["_law_pieces","_law_faces","_law_face"] 1 (Oy K))(Sn:Has P w K mg base "_law_whole" ["_law_found"] 1 (Rc K)):Bt P w K mg base Dw 2 f fd ["_law_pieces","_law_thing"] (Uh K):=by
 refine F.ok O0 (fun vs H Q E h=>?_) (fun Da A outer s H vs Q E hr h=>?_)
 . obtain⟨_,_,_,_,rfl,_⟩:=h;rfl
 . obtain⟨a,th,e,xs,rfl,hL,LX,M7,hd,k⟩:=h;have J5:=hr.u8
   refine⟨_,(Ad (Bj (PW.pt (Ru (Dx (Cq (Ao (CC (K:=K)) T.n_isinstance Bn (Aa (pv 1) (Aa (Er (v:=.ty "tuple") rfl T.n_tuple C1 rfl) Ac))))) (Rt (Aw (Fz (K:=K) J5) (Ao (Ai (K:=K)) T.n_len qe0 (Aa (pv 1) Ac)) (Bs (Aa Af (Aa Af (Aa Af (Aa Af Ac))))) rfl)))) (Ag (Av E3)) Ax)
    (Ad (Ce qc3 rfl (Et (K:=K) (pv 1)) (Am (i:=2) O0.nd) (Ad (Bj (PW.pt (Ru (Dx (Cq (Ak Sn hr (Aa (pv 2) Ac)))) (Ru (Aw N9 (pv 2) Af (A9 _)) (Rt (Aw nJ (pv 2) (Ao (Ai (K:=K)) T.n_len qe0 (Aa (pv 0) Ac)) (A9 _)))))) (Ag (Av E3)) Ax)
    (Ag (Bj (Aw Uy (Ay Dl (Ak Ed hr (Aa (Ap (Ah (K:=K)) (pv 0) (pv 2) (fun _ _=>rfl)) Ac)) Af) (Ak Ed hr (Aa (pv 1) Ac)) (A9 _)) (Ag (Av E3)) Ax))))
    (Ad (Ce qc3 rfl (Bu (by rfl) T.n_range (Aa (Ao (Ai (K:=K)) T.n_len qe0 (Aa (pv 1) Ac)) Ac)) (Am (i:=3) O0.nd) (Ag (Bj (Dx (Cq (Ak Ji hr (Aa (pv 0) (Aa (Ct (Hn (K:=K)) (pv 1) Ej (Cw (pv 3))) (Aa (Ap (Bc (K:=K)) (pv 1) (pv 3) (fun _ _=>rfl)) Ac)))))) (Ag (Av E3)) Ax)))
    (Ag (Av E3))))),?_⟩
   refine⟨_,rfl,th,"tuple",.one e,rfl,.inr (.inr (.inr (.inl rfl))),hd,_,rfl,?_⟩;cases e with
   | nul=>exact k H (Same.refl H)
   | d d =>
     have hd:Rep K H th d:=hd;have k:∀H',Same H H'->Q (.bl (E7 xs d)) H':=k;cases d with
     | non=>exact k H (Same.refl H)
     | bl b=>exact k H (Same.refl H)
     | int i=>exact k H (Same.refl H)
     | str z=>exact k H (Same.refl H)
     | lst es=>exact k H (Same.refl H)
     | tup ds =>
       obtain⟨pa,us,rfl,iT,r0⟩:=id hd;have ul:us.length=ds.length:=r0.length;refine Dt (by simp[uA,UA,Wv]) ?_;refine⟨_,rfl,pa,us,rfl,.inr iT,Au (by simp),fun C hC=>?_⟩;have sC:Same H (upd H C (.tup [.int 0,.int 2,.int 3,.int 4])):=Same.new hC;refine⟨.int (us.length:Int),Bx [0,2,3,4],rfl,.inr ⟨C,_,rfl,.of Ab,Dr.mpr rfl⟩,(by rw[E8];decide),_,rfl,?_⟩;rw[ul]
       have cnt:(!(Bx [0,2,3,4]).any fun e=>eqD e (.int (ds.length:Int)))=!Nh ds.length:=by
        have:(Bx [0,2,3,4]).any (fun e=>eqD e (.int (ds.length:Int)))=Nh ds.length:=by
         simp only[Bx,qf0,ql5,qi4,List.any_nil,eqD,Nh];rw[qh2];simp only[qm2,qq8,qn7];omega
        rw[this]
       have k1:=k _ sC;by_cases hc:Nh ds.length=true;rotate_left
       . have hc':Nh ds.length=false:=by simpa using hc
         refine Hz (by rw[if_pos rfl,cnt,hc'];rfl) ?_;have e2:E7 xs (.tup ds)=false:=by rw[Du];simp[hc']
         rw[e2]at k1;exact k1
       refine Dt (by rw[if_pos rfl,cnt,hc];simp) ?_;have uE:ds.length<=4:=(Xn hc).1
       refine⟨_,rfl,pa,rfl,⟨_,sC.seqT iT⟩,aG (K:=K) (a:=pa) (xs:=us) (fun i σ H2=>Same H H2/\(∃o2,σ=[rS a,rS pa,o2,none])/\((ds.take i).all fun e=>B6 xs e (By ds.length-1))=true)
        ⟨sC,⟨none,rfl⟩,rfl⟩ (fun i σ H2 _ ⟨s2,_⟩=>s2.seqT iT) ?_ ?_⟩
       . rintro i x σ H2 hx ⟨s2,⟨o2,rfl⟩,hall⟩;have hq:Dv K H2 pa us:=s2.seqT iT;have r:Reps K H2 us ds:=Reps.same s2 r0;have HL:LT K H2 (.ref a) xs:=Rep.same s2 hL;have k1:=k H2 s2;obtain⟨xu,U9,qX⟩:=LT.len HL;obtain⟨e,he,re⟩:=r.getV hx;have hne:1<=ds.length:=by have:=(qa2.mp he).1;omega
         have hn2:2<=ds.length:=by have:=(Xn hc).2;omega
         have bad:B6 xs e (By ds.length-1)=false->E7 xs (.tup ds)=false:=fun z=>by
          have:(ds.all fun e=>B6 xs e (By ds.length-1))=false:=by
           rw[List.all_eq_false];exact⟨e,qa8 he,by simp[z]⟩
          rw[Du,this];simp
         refine⟨_,rfl,x,e,rfl,re,_,rfl,?_⟩;by_cases hw:Fu e=true;rotate_left
         . have wB:Fu e=false:=by simpa using hw
           refine Hz (by rw[wB];rfl) ?_;have e2:=bad (by cases e<;>first | rfl | (exfalso;exact hw rfl));rw[e2]at k1;exact k1
         refine Dt (by rw[hw];simp) ?_;obtain⟨f,rfl⟩:=Q5 hw;cases (show x=.int f from re);refine⟨_,rfl,_,_,rfl,rfl,_,rfl,?_⟩;by_cases h0:0<=f;rotate_left
         . refine Hz (by simp;omega) ?_;have e2:=bad (by show(decide (0<=f)&&decide (f<(xs.length:Int))&&decide (By (xs.getD f.toNat []).length=_))=false;simp[h0]);rw[e2]at k1;exact k1
         refine Dt (by simp;omega) ?_;refine⟨_,rfl,_,rfl,a,xu,rfl,.inl U9,_,_,rfl,rfl,_,rfl,?_⟩;rw[qX];by_cases h1:f<(xs.length:Int);rotate_left
         . refine Hz (by simp;omega) ?_;have e2:=bad (by show(decide (0<=f)&&decide (f<(xs.length:Int))&&decide (By (xs.getD f.toNat []).length=_))=false;simp[h1]);rw[e2]at k1;exact k1
         refine Dt (by simp;omega) ?_;obtain⟨uW,v,hq',hv,tv⟩:=LT.get HL h0 h1;refine⟨_,rfl,_,rfl,a,uW,f,_,rfl,rfl,hq',hv,v,Bx (xs.getD f.toNat []),rfl,.inr tv,_,_,rfl,rfl,_,rfl,.ref pa,ds,rfl,.inr (Rep.same s2 hd),rfl,_,rfl,?_⟩;rw[show(Bx (xs.getD f.toNat [])).length=(xs.getD f.toNat []).length from qa1 ..]
         have key:B6 xs (.int f) (By ds.length-1)=decide (By (xs.getD f.toNat []).length+1=By ds.length):=by
          show(decide (0<=f)&&decide (f<(xs.length:Int))&&decide (By (xs.getD f.toNat []).length=By ds.length-1))=_;rw[qe9 h0,qe9 h1];simp only[Bool.and_self,Bool.true_and];exact decide_eq_decide.mpr O9m
         by_cases hg:By (xs.getD f.toNat []).length+1=By ds.length;rotate_left
         . refine Hz (pB hg) ?_;have e2:=bad (by rw[key];exact qe5 hg);rw[e2]at k1;exact k1
         refine Dt (PR hg) ?_;refine⟨s2,⟨_,rfl⟩,?_⟩;rw[qd6,he,List.all_append,hall];show(true&&(B6 xs (.int f) (By ds.length-1)&&true))=true;rw[key,qe9 hg];rfl
       . rintro σ H1 ⟨s1,⟨o2,rfl⟩,hall⟩;have hq:Dv K H1 pa us:=s1.seqT iT;have HL:LT K H1 (.ref a) xs:=Rep.same s1 hL;have hd1:Rep K H1 (.ref pa) (.tup ds):=Rep.same s1 hd;have k1:=k H1 s1;rw[ul,qb4]at hall;have hint:=Tb hall
         have tv:TI K H1 (.ref pa) (ds.map cO):=by
          have:=hd1;rw[hint]at this;exact this
         generalize hp:ds.map cO=p at hint tv;have NY:p.length=ds.length:=by rw[←hp,qa1]
         have e2:E7 xs (.tup ds)=(decide (By ds.length<2) || E1 xs p):=by rw[Du];rw[hall,hc,hp];rfl
         have hfs:∀f∈p,0<=f/\f<(xs.length:Int)/\By (xs.getD f.toNat []).length+1=By p.length:=by
          intro f hf;rw[qd2]at hall
          have hm:L2.D.int f∈ds:=by
           rw[hint];exact qe2.mpr ⟨f,hf,rfl⟩
          have:=hall _ hm;simp only[B6,qc9,qh5]at this;obtain⟨⟨f0,f1⟩,f2⟩:=this;exact⟨f0,f1,by rw[NY];omega⟩
         have ma:=bH LX hfs;rw[NY]at ma;obtain⟨QN,ez,IJ⟩:=tv.sq;cases ez
         have no:∀j G,j<ds.length->¬meetsB xs (p.take j) (p.getD j 0)=true->Same H G->Q (.bl false) G:=fun j G hj hm g=>by
          have kG:=k G g
          have:E7 xs (.tup ds)=false:=by
           rw[e2,Bool.eq_false_iff];exact fun z=>hm (ma.mpr z j hj)
          rw[this]at kG;exact kG
         refine⟨_,rfl,pa,us,rfl,.inr hq,_,rfl,O9m,O9m,?_⟩;rw[ul]
         refine Cm (lo:=0) (n:=((ds.length:Nat):Int).toNat) (fun j σ H2=>Same H1 H2/\(∃o2 o3,σ=[rS a,rS pa,o2,o3])/\∀j',j'<j->meetsB xs (p.take j') (p.getD j' 0)=true)
          ⟨Same.refl _,⟨_,none,rfl⟩,fun j' h=>absurd h O9m⟩ ?_ ?_
         . rintro j σ G hj ⟨g,⟨o2,o3,rfl⟩,hall2⟩;have hj':j<p.length:=O9m
           rw[show(0:Int)+(j:Int)=(j:Int) by omega]
           have RQ:Io (p.map V.int) (j:Int)=some (.int (p.getD j 0)):=by
            have:=Dz (sp:=p) (x:=(j:Int)) O9m O9m
            rwa [qb9]at this
           refine⟨_,rfl,_,rfl,_,rfl,_,rfl,pa,_,rfl,g.seqT IJ,?_,fun T1 G1 g1 q1=>?_⟩
           . rw[qa1];rintro ⟨_,z⟩;rw[HT.sIx_nat]at z;omega
           rw[Lj,←ql9]at q1;have gg:=g.trans g1;obtain⟨x0,x1,x2⟩:=hfs _ (Bq hj');have UI:=LX.at x0 x1;refine⟨_,rfl,_,rfl,pa,_,_,_,rfl,rfl,gg.seqT IJ,RQ,a,.ref T1,xs,p.take j,p.getD j 0,rfl,Rep.same gg HL,TI.mk q1,x0,x1,fun y hy=>⟨(hfs y (qf3 hy)).1,(hfs y (qf3 hy)).2.1⟩,by rw[qb5];omega,?_,?_⟩
           . rw[C6,C6]at x2;by_cases hz:(xs.getD (p.getD j 0).toNat []).length=0
             . exact .inl hz
             . refine .inr ⟨by rw[qb5];omega,fun y hy=>?_⟩;obtain⟨y0,y1,y2⟩:=hfs y (qf3 hy);have WU:=LX.at y0 y1;rw[C6,C6]at y2;rw[qb5];omega
           refine⟨_,rfl,?_⟩;by_cases hm:meetsB xs (p.take j) (p.getD j 0)=true
           . rw[hm];refine Dt (by simp) ?_;refine⟨gg,⟨_,_,rfl⟩,fun j' hj2=>?_⟩;by_cases z:j'=j
             . subst z;exact hm
             . exact hall2 j' O9m
           . refine Hz (by simpa using hm) ?_;exact no j G1 O9m hm (s1.trans gg)
         . rintro σ G ⟨g,⟨o2,o3,rfl⟩,hall2⟩;have kG:=k G (s1.trans g)
           have:E7 xs (.tup ds)=true:=by
            rw[e2];exact ma.mp fun j hj=>hall2 j O9m
           rw[this]at kG;exact kG
noncomputable abbrev Rn:Stmt:=Ew 132
theorem Us:FnScope ["_law_pieces","_law_cell","_law_points"] ["_law_pieces","_law_cell"] (As Rn):=Bb
theorem bE{f:Addr}{fd:FuncData}(F:D5 K "_law_side" "_law_side" Rn f fd)(T:Txt K mg Aq)(Fn:Has P w K mg base "_law_pick" ["_law_cell","_law_j","_law_many"] 1 (Lr K)):Bt P w K mg base Dw 2 f fd ["_law_pieces","_law_cell"] (Ul K):=by
 refine F.ok Us (fun vs H Q E h=>?_) (fun Da A outer s H vs Q E hr h=>?_)
 . obtain⟨_,_,_,rfl,_⟩:=h;rfl
 . obtain⟨a,xs,c,rfl,hL,M7,k⟩:=h;obtain⟨us,hq,ul⟩:=LT.len hL
   refine⟨_,(Ad (Ff (N':=["_law_place","_law_pieces"]) (cap:=[none,some 0]) (i:=2) Us.nd (by rfl) (by first | exact Or.inl rfl | exact Or.inr rfl) (by rfl) (by kernel_rfl) (Bu (by rfl) T.n_range (Aa (Ao (Ai (K:=K)) T.n_len qe0 (Aa (pv 0) Ac)) Ac)) (fun _ _ _ _=>(Am (i:=0) KG)) (fun _ _ _ _=>(Ih (Aw Cb (Ao (Ai (K:=K)) T.n_len qe0 (Aa (Ap (Ah (K:=K)) (pv 1) (pv 0) (fun _ _=>rfl)) Ac)) Af (A9 _)))) (fun _ _ _ _=>(pv 0)))
    (Ad (Bj (Aw Cb (Ao (Ai (K:=K)) T.n_len qe0 (Aa (pv 2) Ac)) Af (A9 _)) (Ag (Av (Bs Ac))) Ax)
    (Ag (Av (Bs (Aa (Ap (Ah (K:=K)) (pv 2) (Ak Fn hr (Aa (pv 1) (Aa Af (Aa (Ao (Ai (K:=K)) T.n_len qe0 (Aa (pv 2) Ac)) Ac)))) (fun _ _=>rfl)) (Aa (Ap (Ah (K:=K)) (pv 2) (Ak Fn hr (Aa (pv 1) (Aa Af (Aa (Ao (Ai (K:=K)) T.n_len qe0 (Aa (pv 2) Ac)) Ac)))) (fun _ _=>rfl)) Ac))))))),?_⟩
   refine qr5 (fun σ' H'=>∃(P:Addr) (ps:List Int),σ'=[rS a,iS c,rS P]/\Same H H'/\H' P=some (.lst (ps.map V.int))) (fun key=>?_) ?_
   . refine⟨_,rfl,a,us,rfl,.inl hq,_,rfl,O9m,O9m,fun D hD=>?_⟩
     refine C9 (fun i ys τ G=>Same H G/\G D=some (.lst ys)/\(∃ps:List Int,ys=ps.map V.int/\ps.length<=i)/\∃o,τ=[o,rS a])
      ⟨Same.new hD,Ab,⟨[],rfl,qa9 _⟩,none,rfl⟩ ?_ ?_
     . rintro i ys τ G hi ⟨g,Bl,⟨ps,rfl,hpl⟩,o,rfl⟩;have hi2:i<xs.length:=O9m
       obtain⟨u1,v1,hu1,lM,FI⟩:=LT.get (i:=(0:Int)+(i:Int)) (Rep.same g hL) O9m O9m;obtain⟨b1,rfl,hb1⟩:=FI.sq;refine⟨_,rfl,_,rfl,a,u1,_,_,rfl,rfl,hu1,lM,b1,_,rfl,.inr hb1,rfl,_,rfl,?_⟩;refine ite2 (fun h1=>?_) (fun h1=>?_)
       . exact⟨_,rfl,Bl,Bh (by rw[qa1];omega),g.turn hD,Ab,⟨ps++[(0:Int)+(i:Int)],by simp,by simp;omega⟩,_,rfl⟩
       . exact⟨g,Bl,⟨ps,rfl,O9m⟩,_,rfl⟩
     . rintro ys τ G ⟨g,Bl,⟨ps,rfl,hpl⟩,_⟩;exact key _ _ ⟨D,ps,rfl,g,Bl⟩
   refine X0 fun P ps H1 s1 hP=>?_;have pe:(ps.map V.int).length=ps.length:=qa1 ..;refine⟨_,rfl,P,_,rfl,.inl (.of hP),rfl,_,rfl,?_⟩;rw[pe];refine ite2 (fun h1=>?_) (fun h1=>?_)
   . refine⟨qb3 _,fun T1 hT1=>?_⟩;exact k (.ref T1) [] _ (s1.trans (Same.new hT1)) (TI.mk (.of Ab))
   . have hp:0<(ps.length:Int):=by
      have:¬ps.length=0:=fun z=>h1 (by rw[z];rfl);omega
     refine⟨_,rfl,_,rfl,_,rfl,P,_,rfl,.inl (.of hP),_,_,_,rfl,by rw[pe];exact hp,fun r1 H2 s2 VM tR=>?_⟩;rw[pe]at tR;refine⟨P,_,_,_,rfl,rfl,.of (s2 _ _ hP),Dz VM tR,_,rfl,_,rfl,_,rfl,P,_,rfl,.inl (.of (s2 _ _ hP)),_,_,_,rfl,by rw[pe];exact hp,fun r2 H3 s3 vM TQ=>?_⟩;rw[pe]at TQ;refine⟨P,_,_,_,rfl,rfl,.of ((s2.trans s3) _ _ hP),Dz vM TQ,Au (by simp),fun T1 hT1=>?_⟩;exact k (.ref T1) [_,_] _ (((s1.trans s2).trans s3).trans (Same.new hT1)) (TI.mk (.of Ab))
noncomputable abbrev Hk:Stmt:=Ew 136
theorem Bv:FnScope ["_law_words","_law_word","_law_family","_law_layer","_law_rows","_law_k","_law_below","_law_one","_law_face","_law_more"] ["_law_words","_law_word","_law_family"] (As Hk):=Bb
theorem Qn{f:Addr}{fd:FuncData}(F:D5 K "_law_words_with" "_law_words_with" Hk f fd)(T:Txt K mg Aq)(E6:Has P w K mg base "_law_faces_by" ["_law_word","_law_family"] 1 (Ir K)):Bt P w K mg base Dw 2 f fd ["_law_words","_law_word","_law_family"] (Kh K):=by
 refine F.ok Bv (fun vs H Q E h=>?_) (fun Da A outer s H vs Q E hr h=>?_)
 . obtain⟨_,_,_,_,_,_,rfl,_⟩:=h;rfl
 . obtain⟨l,us,v,ws,w,fam,rfl,hl,hr0,hv,hw,hlen,k⟩:=h;have J5:=hr.u8
   have vG:∀u∈[w],D6 fam u:=fun u hu=>by
    have e:u=w:=by simpa using hu
    subst e;exact hw
   refine⟨_,(Ad (Al (i:=3) Bv.nd (Cc (Aa (pv 1) Ac)))
    (Ad (Al (i:=4) Bv.nd (Cc Ac))
    (Ad (Ce qc3 rfl (Bu (by rfl) T.n_range (Aa Af Ac)) (Am (i:=5) Bv.nd) (Ad (Al (i:=4) Bv.nd (Ay (Ds (K:=K)) (pv 3) (pv 4)))
    (Ad (Al (i:=6) Bv.nd (Cc Ac))
    (Ad (Ce qc3 rfl (Bi (K:=K) (pv 3)) (Am (i:=7) Bv.nd) (Ag (Ce qc3 rfl (Bi (K:=K) (Ak E6 hr (Aa (pv 7) (Aa (pv 2) Ac)))) (Am (i:=8) Bv.nd) (Ag (Bj (PW.pt (K1 (Aw (Fz (K:=K) J5) (pv 8) (pv 0) rfl) (Jz (Aw (Fz (K:=K) J5) (pv 8) (pv 6) rfl)))) (Ag (C5 (B0 (K:=K) qc5 qd4 qd3 Ch (pv 6) (Aa (pv 8) Ac)))) Ax)))))
    (Ag (Al (i:=3) Bv.nd (pv 6)))))))
    (Ad (Al (i:=9) Bv.nd (Cg (Ga (K:=K)) (by rfl) T.n_list Ez (Aa (pv 0) Ac)))
    (Ad (Ce qc3 rfl (Bi (K:=K) (pv 4)) (Am (i:=7) Bv.nd) (Ag (Bj (Aw (Fz (K:=K) J5) (pv 7) (pv 9) rfl) (Ag (C5 (B0 (K:=K) qc5 qd4 qd3 Ch (pv 9) (Aa (pv 7) Ac)))) Ax)))
    (Ag (Av (pv 9)))))))),?_⟩
   refine⟨_,rfl,Au (by simp),fun L0 sD=>?_⟩;have s1:Same H (upd H L0 (.lst [v])):=Same.new sD;refine⟨qb3 _,fun R0 WX=>?_⟩;have s2:Same (upd H L0 (.lst [v])) (upd (upd H L0 (.lst [v])) R0 (.lst [])):=Same.new WX
   refine⟨_,rfl,by decide,by decide,Cm (lo:=0) (n:=(4:Int).toNat)
    (fun i σ H2=>∃(L R:Addr) (lu ru:List V) (layer rows:LLInt) (o5 o6 o7 o8 o9:Option V),σ=[rS l,some v,iS fam,rS L,rS R,o5,o6,o7,o8,o9]/\Same H H2 ∧
      H2 L=some (.lst lu)/\Reps K H2 lu (layer.map tI)/\H2 R=some (.lst ru)/\Reps K H2 ru (rows.map tI)/\(∀u∈layer,D6 fam u)/\J3 ws fam (4-i) layer rows=J3 ws fam 4 [w] []/\layer.length<=4 ^ i/\rows.length<=1000*i)
    ⟨L0,R0,[v],[],[w],[],none,none,none,none,none,rfl,s1.trans s2,s2 _ _ Ab,Reps.one (qm4 (s1.trans s2) hv),Ab,rfl,vG,rfl,by simp,by simp⟩ ?_ ?_⟩
   . rintro i σ H2 hi ⟨L,R,lu,ru,layer,rows,o5,o6,o7,o8,o9,rfl,sH,hL,rL,hR,rR,lX,hlay,AD,hrl⟩;have yF:i<4:=by simpa using hi
     have yG:4 ^ i<=64:=by
      have:i=0\/i=1\/i=2\/i=3:=O9m
      rcases this with rfl | rfl | rfl | rfl<;>decide
     have VV:lu.length=layer.length:=by have:=rL.length;simpa using this
     have QH:ru.length=rows.length:=by have:=rR.length;simpa using this
     refine⟨_,rfl,_,rfl,L,R,_,_,rfl,rfl,.of hL,.of hR,Au O9m,fun R1 PK=>?_⟩;have sa:Same H2 (upd H2 R1 (.lst (lu++ru))):=Same.new PK;have rX:(upd H2 R1 (.lst (lu++ru))) R1=some (.lst (lu++ru)):=Ab
     have VI:Reps K (upd H2 R1 (.lst (lu++ru))) (lu++ru) ((layer++rows).map tI):=by
      rw[qa6];exact(Reps.same sa rL).append (Reps.same sa rR)
     have UK:=sa _ _ hL;have vL:Reps K (upd H2 R1 (.lst (lu++ru))) lu (layer.map tI):=Reps.same sa rL;have OY:Same H (upd H2 R1 (.lst (lu++ru))):=sH.trans sa;refine⟨qb3 _,fun B hB=>?_⟩;have sb:Same (upd H2 R1 (.lst (lu++ru))) (upd (upd H2 R1 (.lst (lu++ru))) B (.lst [])):=Same.new hB;have uN:H B=none:=OY.free hB
     refine⟨_,rfl,L,rfl,⟨_,.of (sb _ _ UK)⟩,for_list (K:=K) (a:=L) (xs:=lu)
      (fun j σ H3=>∃(bu:List V) (o7 o8:Option V),σ=[rS l,some v,iS fam,rS L,rS R1,some (.int (0+i)),rS B,o7,o8,o9]/\Same (upd H2 R1 (.lst (lu++ru))) H3/\H3 B=some (.lst bu) ∧
        Reps K H3 bu ((Dh ws fam [] (layer.take j)).map tI))
      ⟨[],_,_,rfl,sb,Ab,rfl⟩ (fun j σ H3 _ ⟨_,_,_,_,s3,_⟩=>.of (s3 _ _ UK)) ?_ ?_⟩
     . rintro j x σ H3 hx ⟨bu,o7,o8,rfl,s3,pN,rB⟩;have hj:j<lu.length:=(qa2.mp hx).1;have hjl:j<layer.length:=O9m
       have hjx:(layer.map tI)[j]?=some (tI layer[j]):=by rw[qa3,qa0 hjl];rfl
       obtain⟨x',hx',tx⟩:=vL.get hjx;rw[hx]at hx';cases hx';have uC:D6 fam layer[j]:=lX _ (qc8 _);refine⟨_,rfl,_,rfl,x,layer[j],fam,rfl,qm4 s3 tx,uC,fun p fu H4 hp s4 FL r4=>?_⟩;have fl:=Gy uC;have OI:fu.length=(Ar layer[j] fam).length:=by have:=r4.length;simpa using this
       have wJ:p≠B:=fun z=>by rw[z,pN]at hp;cases hp
       have sI:=s4 _ _ pN
       refine⟨p,rfl,⟨_,.of FL⟩,for_list (K:=K) (a:=p) (xs:=fu)
        (fun m σ H5=>∃(bu:List V) (o8:Option V),σ=[rS l,some v,iS fam,rS L,rS R1,some (.int (0+i)),rS B,some x,o8,o9]/\Dk B H4 H5/\H5 B=some (.lst bu) ∧
          Reps K H5 bu ((Cn ws (Dh ws fam [] (layer.take j)) ((Ar layer[j] fam).take m)).map tI)/\(Cn ws (Dh ws fam [] (layer.take j)) ((Ar layer[j] fam).take m)).length<=1000)
        ⟨bu,_,rfl,Dk.refl _ _,sI,(by simpa[Cn]using Reps.same s4 rB),?_⟩ (fun m σ H5 _ ⟨_,_,_,s5,_⟩=>.of (s5 _ _ wJ FL)) ?_ ?_⟩
       . have:=Jl (ws:=ws) (fam:=fam) (layer.take j) [] (fun u hu=>lX u (qf3 hu));simp only[List.take_zero,Cn,qh1,qb5]at this ⊢;omega
       . rintro m y σ H5 hy ⟨MB,VN,rfl,s5,iV,GD,rP⟩;have hm:m<fu.length:=(qa2.mp hy).1;have nZ:m<(Ar layer[j] fam).length:=O9m
         have rH:((Ar layer[j] fam).map tI)[m]?=some (tI (Ar layer[j] fam)[m]):=by rw[qa3,qa0 nZ];rfl
         obtain⟨y',hy',ty⟩:=r4.get rH;rw[hy]at hy';cases hy';generalize hf:(Ar layer[j] fam)[m]=fc at ty;have PV:TI K H5 y fc:=TI.t (s5.t sI) ty
         have wN:H5 l=some (.lst us):=by
          refine s5 l _ (fun z=>?_) (s4 _ _ (s3 _ _ (OY _ _ hl)));rw[z]at hl;rw[hl]at uN;cases uN
         have vI:Rep K H5 (.ref l) (.lst (ws.map tI)):=⟨l,us,rfl,.of wN,Reps.t (s5.t sI) (Og ws) (Reps.same ((OY.trans s3).trans s4) hr0)⟩
         have TN:Rep K H5 (.ref B) (.lst ((Cn ws (Dh ws fam [] (layer.take j)) ((Ar layer[j] fam).take m)).map tI)):=⟨B,MB,rfl,.of iV,GD⟩
         have e0:Cn ws (Dh ws fam [] (layer.take j)) ((Ar layer[j] fam).take (m+1))=(if fc ∉ ws/\fc ∉ Cn ws (Dh ws fam [] (layer.take j)) ((Ar layer[j] fam).take m) then Cn ws (Dh ws fam [] (layer.take j)) ((Ar layer[j] fam).take m)++[fc] else Cn ws (Dh ws fam [] (layer.take j)) ((Ar layer[j] fam).take m)):=by
          rw[qd6,qa0 nZ,hf];exact Qg _ _ _ _
         have RO:MB.length=(Cn ws (Dh ws fam [] (layer.take j)) ((Ar layer[j] fam).take m)).length:=by have:=GD.length;simpa using this
         have EG:(Cn ws (Dh ws fam [] (layer.take j)) ((Ar layer[j] fam).take (m+1))).length<=1000:=by
          have h1:=Nk (ws:=ws) ((Ar layer[j] fam).take (m+1)) (Dh ws fam [] (layer.take j));have h2:=Jl (ws:=ws) (fam:=fam) (layer.take j) [] (fun u hu=>lX u (qf3 hu));simp only[qh1,qb5]at h1 h2;have h3:(Ar layer[j] fam).length<=4:=by have:=fl.1;have:=fl.2;split at*<;> omega
          omega
         generalize hacc:Cn ws (Dh ws fam [] (layer.take j)) ((Ar layer[j] fam).take m)=acc at GD TN e0 RO rP;refine⟨_,rfl,_,rfl,tI fc,ws.map tI,PV,.inl vI,(by have:=Jk ws;omega),_,rfl,?_⟩;by_cases h1:fc∈ws
         . refine Dt (by rw[if_pos rfl,Ll];simp[h1]) ?_;refine Dt (by simp) ?_;refine⟨MB,_,rfl,s5,iV,?_,EG⟩;rw[e0,if_neg (by simp[h1])];exact GD
         . refine Hz (by rw[if_pos rfl,Ll];simp[h1]) ?_;refine⟨_,rfl,_,rfl,tI fc,acc.map tI,PV,.inl TN,(by have:=Jk acc;omega),_,rfl,?_⟩;by_cases h2:fc∈acc
           . refine Dt (by rw[if_pos rfl,Ll];simp[h2]) ?_;refine⟨MB,_,rfl,s5,iV,?_,EG⟩;rw[e0,if_neg (by simp[h2])];exact GD
           . refine Hz (by rw[if_pos rfl,Ll];simp[h2]) ?_;refine⟨_,rfl,.inl ⟨rfl,_,.of iV⟩,_,rfl,B,_,_,rfl,rfl,iV,Bh O9m,?_⟩;refine⟨_,_,rfl,s5.upd,Ab,?_,EG⟩;rw[e0,if_pos ⟨h1,h2⟩];exact C4 iV GD PV
       . rintro σ H5 ⟨MB,VN,rfl,s5,iV,GD,_⟩;refine⟨MB,_,_,rfl,?_,iV,?_⟩
         . exact s5.same (s3.trans s4) hB
         . rw[OI,qb4]at GD;rw[qd6,qa0 hjl];have e1:Dh ws fam [] (layer.take j++(some layer[j]).toList)=Cn ws (Dh ws fam [] (layer.take j)) (Ar layer[j] fam):=S8 _ _ _ _ _;rw[e1];exact GD
     . rintro σ H3 ⟨bu,o7,o8,rfl,s3,pN,rB⟩;rw[VV,qb4]at rB;refine⟨_,rfl,?_⟩;refine⟨B,R1,bu,lu++ru,Dh ws fam [] layer,layer++rows,_,_,_,_,_,rfl,OY.trans s3,pN,rB,s3 _ _ rX,Reps.same s3 VI,?_,?_,?_,?_⟩
       . intro u hu;rcases L3 _ _ hu with z|⟨t,ht,z⟩
         . exact nomatch z
         . exact(Kb (lX t ht) z).1
       . rw[←hlay,show 4-i=(4-(i+1))+1 by omega];rfl
       . have:=Jl (ws:=ws) (fam:=fam) layer [] lX;simp only[qh1]at this;rw[Nat.pow_succ];omega
       . rw[qb8];omega
   . rintro σ H2 ⟨L,R,lu,ru,layer,rows,o5,o6,o7,o8,o9,rfl,sH,hL,rL,hR,rR,lX,hlay,AD,hrl⟩;have iR:rows=J3 ws fam 4 [w] []:=hlay;have RD:=j6 (ws:=ws) hw;rw[←iR]at RD;have QH:ru.length=rows.length:=by have:=rR.length;simpa using this
     refine⟨_,rfl,l,_,rfl,.inl (.of (sH _ _ hl)),fun M hM=>?_⟩;have sm:Same H2 (upd H2 M (.lst us)):=Same.new hM;have RY:H M=none:=sH.free hM;have pV:us.length=ws.length:=by have:=hr0.length;simpa using this
     refine⟨_,rfl,R,rfl,⟨_,.of (sm _ _ hR)⟩,for_list (K:=K) (a:=R) (xs:=ru)
      (fun j σ H3=>∃(mu:List V) (o7:Option V),σ=[rS l,some v,iS fam,rS L,rS R,o5,o6,o7,o8,rS M]/\Same H2 H3/\H3 M=some (.lst mu)/\Reps K H3 mu ((Dm ws (rows.take j)).map tI))
      ⟨us,_,rfl,sm,Ab,(by simpa[Dm]using Reps.same (sH.trans sm) hr0)⟩ (fun j σ H3 _ ⟨_,_,_,s3,_⟩=>.of (s3 _ _ hR)) ?_ ?_⟩
     . rintro j x σ H3 hx ⟨mu,vO,rfl,s3,LA,rM⟩;have hj:j<ru.length:=(qa2.mp hx).1;have hjl:j<rows.length:=O9m
       have hjx:(rows.map tI)[j]?=some (tI rows[j]):=by rw[qa3,qa0 hjl];rfl
       obtain⟨x',hx',tx⟩:=rR.get hjx;rw[hx]at hx';cases hx';generalize hf:rows[j]=fc at tx;have tF:TI K H3 x fc:=qm4 s3 tx
       have e0:Dm ws (rows.take (j+1))=(if fc∈Dm ws (rows.take j) then Dm ws (rows.take j) else Dm ws (rows.take j)++[fc]):=by
        rw[qd6,qa0 hjl,hf];exact Qh _ _ _
       have hal:=Tf (rows.take j) ws;rw[qb5]at hal;have mul:mu.length=(Dm ws (rows.take j)).length:=by have:=rM.length;simpa using this
       generalize hacc:Dm ws (rows.take j)=acc at rM e0 hal mul;have VH:Rep K H3 (.ref M) (.lst (acc.map tI)):=⟨M,mu,rfl,.of LA,rM⟩
       refine⟨_,rfl,_,rfl,tI fc,acc.map tI,tF,.inl VH,(by have:=Jk acc;omega),_,rfl,?_⟩;by_cases h1:fc∈acc
       . refine Dt (by rw[if_pos rfl,Ll];simp[h1]) ?_;refine⟨mu,_,rfl,s3,LA,?_⟩;rw[e0,if_pos h1];exact rM
       . refine Hz (by rw[if_pos rfl,Ll];simp[h1]) ?_;refine⟨_,rfl,.inl ⟨rfl,_,.of LA⟩,_,rfl,M,_,_,rfl,rfl,LA,Bh O9m,?_⟩;refine⟨_,_,rfl,s3.turn hM,Ab,?_⟩;rw[e0,if_neg h1];exact C4 LA rM tF
     . rintro σ H3 ⟨mu,vO,rfl,s3,LA,rM⟩;rw[QH,qb4,iR]at rM;exact⟨_,rfl,k M mu H3 RY (sH.trans s3) LA rM⟩
noncomputable abbrev Jw:Stmt:=Ew 143
theorem F9:FnScope ["_law_pieces","_law_names_here","_law_left","_law_pairs"] ["_law_pieces","_law_names_here"] (As Jw):=Bb
theorem Tv{f:Addr}{fd:FuncData}(F:D5 K "_law_core_due" "_law_core_due" Jw f fd)(T:Txt K mg Aq)(J8:Has P w K mg base "_law_bent_of" ["_law_pieces","_law_left"] 1 (Nx K))(l7:Has P w K mg base "_law_cut" ["_law_pieces","_law_names_here","_law_left"] 1 (X9 K)):Bt P w K mg base Dw 2 f fd ["_law_pieces","_law_names_here"] (Md K):=by
 refine F.ok F9 (fun vs H Q E h=>?_) (fun Da A outer s H vs Q E hr h=>?_)
 . obtain⟨_,_,_,_,rfl,_⟩:=h;rfl
 . obtain⟨a,n,xs,names,rfl,hL,hq,ok,k⟩:=h
   have h4:∀x∈xs,x.length<=4:=fun x hx=>by
    obtain⟨i,hi⟩:=qc6 hx;have:=(B9 ok.sh (k:=i) (qa2.mp hi).1).2
    rwa [Fo hi]at this
   have Zv:∀x∈xs,∀f∈x,0<=f/\f<(xs.length:Int):=fun x hx f hf=>by
    obtain⟨i,hi⟩:=qc6 hx;have hil:=(qa2.mp hi).1;have:=(B9 ok.sh (k:=i) hil).1 f (by rw[Fo hi];exact hf);omega
   have hle:=ok.le;have hnl:=ok.len;obtain⟨xu,U9,Pj⟩:=LT.len hL
   refine⟨_,(Ad (Ff (N':=["_law_piece"]) (cap:=[none]) (i:=2) F9.nd (by rfl) (by first | exact Or.inl rfl | exact Or.inr rfl) (by rfl) (by kernel_rfl) (Bi (K:=K) (pv 0)) (fun _ _ _ _=>(Am (i:=0) i6)) (fun _ _ _ _=>Bk) (fun _ _ _ _=>E3))
    (Ad (Al (i:=3) F9.nd (Ak J8 hr (Aa (pv 0) (Aa (pv 2) Ac))))
    (Ad (Rv qc3 (Aw U1 (Ao (Ai (K:=K)) T.n_len qe0 (Aa (pv 3) Ac)) Af (A9 _)) (Ad (dB E3 (dD (pv 2) (Ap (Bc (K:=K)) (Ap (Ah (K:=K)) (pv 3) Af (fun _ _=>rfl)) Af (fun _ _=>rfl)) Yc))
    (Ad (dB E3 (dD (pv 2) (Ap (Bc (K:=K)) (Ap (Ah (K:=K)) (pv 3) Af (fun _ _=>rfl)) Af (fun _ _=>rfl)) Yc))
    (Ag (Al (i:=3) F9.nd (Ak J8 hr (Aa (pv 0) (Aa (pv 2) Ac))))))))
    (Ag (Av (Bs (Aa (Ak l7 hr (Aa (pv 0) (Aa (pv 1) (Aa (pv 2) Ac)))) (Aa (Ao (Ai (K:=K)) T.n_len qe0 (Aa (Bm (N':=["_law_one"]) (cap:=[none]) (by rfl) (by kernel_rfl) (Bi (K:=K) (pv 2)) (fun _ _ _ _=>(Am (i:=0) jY)) (fun _ _ _ _=>(Ih (Cq (pv 0)))) (fun _ _ _ _=>(pv 0))) Ac)) Ac)))))))),?_⟩
   refine qr5 (fun σ' H'=>∃Lf:Addr,σ'=[rS a,rS n,rS Lf,none]/\Same H H'/\H Lf=none/\H' Lf=some (.lst (Vf xs.length fun _=>true))) (fun key=>?_) ?_
   . refine⟨_,rfl,a,rfl,⟨_,U9⟩,fun D hD=>?_⟩
     refine Bp (K:=K) (a:=a) (xs:=xu) (fun i ws τ G=>Same H G/\G D=some (.lst ws)/\ws=Vf i (fun _=>true)/\∃o,τ=[o])
      ⟨Same.new hD,Ab,rfl,none,rfl⟩ (fun i ws τ G _ ⟨g,_⟩=>g.seq U9) ?_ ?_
     . rintro i x ws τ G hx ⟨g,Bl,rfl,o,rfl⟩;have hi:i<xu.length:=(qa2.mp hx).1;refine⟨Bl,Bh (by rw[Oj];omega),g.turn hD,Ab,?_,_,rfl⟩;unfold Vf;rw[G6,qa6];rfl
     . rintro ws τ G ⟨g,Bl,rfl,_⟩;rw[Pj]at Bl;exact key _ _ ⟨D,rfl,g,hD,Bl⟩
   refine Kf fun Lf H1 s1 TY hLf=>?_;refine qr5 (fun σ' H'=>∃(F:Addr) (fu:List V),σ'=[rS a,rS n,rS Lf,rS F]/\Same H1 H'/\H1 F=none/\H' F=some (.lst fu)/\Reps K H' fu ((Eg xs (An xs.length fun _=>true)).map tI)) (fun key=>?_) ?_
   . refine⟨_,rfl,_,rfl,a,Lf,xs,fun _=>true,rfl,Rep.same s1 hL,.of hLf,O9m,h4,Zv,fun F fu H' hF s' sG rF=>?_⟩;exact key _ _ ⟨F,fu,rfl,s',hF,sG,rF⟩
   refine v5 fun F fu H3 s3 nF hF rF=>?_;have jM:=s1.trans s3;refine qr5 (fun σ' H'=>∃(F:Addr) (fl:Int->Bool),σ'=[rS a,rS n,rS Lf,rS F]/\Same H H'/\H' Lf=some (.lst (Vf xs.length fl))/\(D4 xs xs.length xs.length (fun _=>true) []).1=fl) (fun key=>?_) ?_
   . refine⟨fun m σ G=>∃(F:Addr) (fu:List V) (fl:Int->Bool) (acc:LLInt) (q:Nat),σ=[rS a,rS n,rS Lf,rS F]/\Same H G/\F≠Lf/\G Lf=some (.lst (Vf xs.length fl))/\G F=some (.lst fu)/\Reps K G fu ((Eg xs (An xs.length fl)).map tI)/\(An xs.length fl).length=m/\m<=q/\D4 xs xs.length q fl acc=D4 xs xs.length xs.length (fun _=>true) [],⟨xs.length,F,fu,fun _=>true,[],xs.length,rfl,jM,(Be hLf nF).symm,s3 _ _ hLf,hF,rF,by rw[Y1,C2],qa9 _,rfl⟩,?_⟩;rintro m σ G ⟨F,fu,fl,acc,q,rfl,g,VU,sA,SE,qM,hm,WL,K9⟩;have OI:fu.length=(Eg xs (An xs.length fl)).length:=by have:=qM.length;simpa using this
     refine⟨_,rfl,F,_,rfl,.inl (.of SE),_,_,rfl,rfl,_,rfl,?_⟩;refine ite2 (fun h1=>?_) (fun h1=>?_);rotate_left
     . have hz:Eg xs (An xs.length fl)=[]:=qn5.mp (by
        have:¬(0:Int)<(fu.length:Int):=by simpa using h1
        omega)
       exact key _ _ ⟨F,fl,rfl,g,sA,by rw[←K9,S1 hz q]⟩
     obtain⟨p0,r0,hb⟩:∃p0 r0,Eg xs (An xs.length fl)=p0::r0:=by
      cases hq:Eg xs (An xs.length fl) with
      | nil =>
        exfalso
        rw[hq,qh1]at OI;have:(0:Int)<(fu.length:Int):=by simpa using h1
        omega
      | cons p0 r0=>exact⟨p0,r0,rfl⟩
     obtain⟨kk,hh,rfl,k0,k1,h0,HP,hlt⟩:=r9 hb;rw[hb]at qM;obtain⟨v,pQ,sQ,rv,_⟩:=qM;subst sQ;obtain⟨av,rfl,Qk⟩:=TI.sq (show TI K G v [kk,hh] from rv);have tv:TI K G (.ref av) [kk,hh]:=rv;have at0:Io (V.ref av::pQ) 0=some (.ref av):=Ca (j:=0) rfl;refine⟨fun σ' H'=>∃m',m'<m/\∃(F:Addr) (fu:List V) (fl:Int->Bool) (acc:LLInt) (q:Nat),σ'=[rS a,rS n,rS Lf,rS F]/\Same H H'/\F≠Lf/\H' Lf=some (.lst (Vf xs.length fl))/\H' F=some (.lst fu)/\Reps K H' fu ((Eg xs (An xs.length fl)).map tI)/\(An xs.length fl).length=m'/\m'<=q/\D4 xs xs.length q fl acc=D4 xs xs.length xs.length (fun _=>true) [],fun _ _ z=>z,?_⟩;refine Aj (fun σ' H'=>σ'=[rS a,rS n,rS Lf,rS F]/\Same H H'/\H' Lf=some (.lst (Vf xs.length fun q=>fl q&&decide (q≠kk)))/\H' F=some (.lst (.ref av::pQ))/\TI K H' (.ref av) [kk,hh]) ?_ fun L6=>?_;rotate_left
     . refine⟨_,rfl,_,rfl,F,_,_,_,rfl,rfl,.of SE,at0,av,_,_,_,rfl,rfl,Qk,rfl,Lf,_,_,_,rfl,rfl,sA,EA k0 (by rw[Oj];exact k1),?_⟩;rw[AG k0 k1];have sx:Dk Lf G (upd G Lf (.lst (Vf xs.length fun q=>fl q&&decide (q≠kk)))):=(Dk.refl Lf G).upd;exact L6 _ _ ⟨rfl,g.turn TY,Ab,by rw[A8 VU];exact SE,TI.t (sx.t sA) tv⟩
     refine mL fun G2 g2 RZ sE MO=>?_;obtain⟨_,ez,QE⟩:=TI.sq MO;cases ez;refine Aj (fun σ' H'=>σ'=[rS a,rS n,rS Lf,rS F]/\Same H H'/\H' Lf=some (.lst (Vf xs.length (without fl [kk,hh])))) ?_ fun L6=>?_;rotate_left
     . refine⟨_,rfl,_,rfl,F,_,_,_,rfl,rfl,.of sE,at0,av,_,_,_,rfl,rfl,QE,rfl,Lf,_,_,_,rfl,rfl,RZ,EA h0 (by rw[Oj];exact HP),?_⟩;rw[AG h0 HP];exact L6 _ _ ⟨rfl,g2.turn TY,Ab⟩
     refine IF fun G3 g3 LB=>?_;refine⟨_,rfl,_,rfl,a,Lf,xs,without fl [kk,hh],rfl,Rep.same g3 hL,.of LB,O9m,h4,Zv,fun F2 SM G4 pM g4 LC QM=>?_⟩;obtain⟨q',rfl⟩:∃q',q=q'+1:=⟨q-1,O9m⟩
     refine⟨_,hm▸hlt,F2,SM,without fl [kk,hh],acc++[[kk,hh]],q',rfl,g3.trans g4,(Be LB pM).symm,g4 _ _ LB,LC,QM,rfl,O9m,?_⟩;rw[←K9];exact(Pr hb).symm
   refine Ja fun F' fl H4 s4 lB K9=>?_;have ek:B1 xs=An xs.length fl:=by unfold B1;rw[K9]
   rw[ek]at k;refine⟨_,rfl,_,rfl,_,rfl,a,n,Lf,xs,names,fl,rfl,Rep.same s4 hL,s4.seq hq,.of lB,ok,fun H5 s5=>?_⟩;have vF:=s4.trans s5;refine⟨_,rfl,Lf,rfl,⟨_,.of (s5 _ _ lB)⟩,fun D hD=>?_⟩
   refine Ps (K:=K) (a:=Lf) (xs:=Vf xs.length fl) (fun i ys τ G=>Same H5 G/\G D=some (.lst ys)/\ys.length=(An i fl).length/\i<=xs.length/\∃o,τ=[o])
    ⟨Same.new hD,Ab,rfl,qb3 _,none,rfl⟩ (fun i ys τ G _ ⟨g,_⟩=>g.seq (.of (s5 _ _ lB))) ?_ ?_
   . rintro i x ys τ G hx ⟨g,Bl,hyl,hil,o,rfl⟩;have hi:i<xs.length:=by have:=(qa2.mp hx).1;rwa [Oj]at this
     have ex:x=.bl (fl (i:Int)):=by
      unfold Vf at hx;rw[qa3,Ib hi]at hx;simpa using hx.symm
     subst ex;have Se:=Fl i fl
     have e5:(An (i+1) fl).length=(An i fl).length+(if fl (i:Int)=true then 1 else 0):=by
      unfold An;rw[G6,qi3,qb8]
      congr 1
      by_cases hz:fl (i:Int)=true
      . rw[if_pos hz,qg7 hz,qf5];rfl
      . rw[if_neg hz,qg3 hz,qf5];rfl
     refine⟨_,rfl,_,rfl,?_⟩;refine ite2 (fun h1=>?_) (fun h1=>?_)
     . refine⟨_,rfl,Bl,Bh O9m,g.turn hD,Ab,?_,O9m,_,rfl⟩;rw[e5,if_pos h1,qb8,hyl];rfl
     . refine⟨g,Bl,?_,O9m,_,rfl⟩;rw[e5,if_neg h1,hyl];rfl
   . rintro ys τ G ⟨g,Bl,hyl,_,_⟩;rw[Oj]at hyl;refine⟨D,ys,rfl,.inl (.of Bl),Au (by simp),fun T1 hT1=>?_⟩;refine k T1 _ (vF.trans (g.trans (Same.new hT1))) ?_;rw[Ab,hyl]
noncomputable abbrev Jt:Stmt:=Ew 145
theorem Dp:FnScope ["_law_pieces","_law_script","_law_pairs","_law_k","_law_cell","_law_place","_law_like"] ["_law_pieces","_law_script"] (As Jt):=Bb
theorem Ts{f:Addr}{fd:FuncData}(F:D5 K "_law_pairs_by" "_law_pairs_by" Jt f fd)(T:Txt K mg Aq)(Fn:Has P w K mg base "_law_pick" ["_law_cell","_law_j","_law_many"] 1 (Lr K))(Ee:Has P w K mg base "_law_cell_at" ["_law_script","_law_k"] 1 (Jn K))(Ed:Has P w K mg base "_law_level" ["_law_piece"] 1 (Di K)):Bt P w K mg base Dw 2 f fd ["_law_pieces","_law_script"] (Nw K):=by
 refine F.ok Dp (fun vs H Q E h=>?_) (fun Da A outer s H vs Q E hr h=>?_)
 . obtain⟨_,_,_,_,rfl,_⟩:=h;rfl
 . obtain⟨a,c,xs,cells,rfl,hL,hS,hsh,eE,M7,hcl,k⟩:=h;obtain⟨xu,U9,Pj⟩:=LT.len hL
   refine⟨_,(Ad (Al (i:=2) Dp.nd (Cc Ac))
    (Ad (Ce qc3 rfl (Bu (by rfl) T.n_range (Aa (Ay Dl Af (Ay Cd (Ak Ee hr (Aa (pv 1) (Aa Af Ac))) Af)) Ac)) (Am (i:=3) Dp.nd) (Ad (Al (i:=4) Dp.nd (Ay Cd (Ak Ee hr (Aa (pv 1) (Aa (Ay Dl Af (pv 3)) Ac))) Af))
    (Ad (Al (i:=5) Dp.nd (Ak Fn hr (Aa (pv 4) (Aa Af (Aa (Ao (Ai (K:=K)) T.n_len qe0 (Aa (pv 0) Ac)) Ac)))))
    (Ad (Ff (N':=["_law_at","_law_pieces","_law_place"]) (cap:=[none,some 0,some 5]) (i:=6) Dp.nd (by rfl) (by first | exact Or.inl rfl | exact Or.inr rfl) (by rfl) (by kernel_rfl) (Bu (by rfl) T.n_range (Aa (Ao (Ai (K:=K)) T.n_len qe0 (Aa (pv 0) Ac)) Ac)) (fun _ _ _ _=>(Am (i:=0) JW)) (fun _ _ _ _=>(Ih (Aw Cb (Ak Ed hr (Aa (Ap (Ah (K:=K)) (pv 1) (pv 0) (fun _ _=>rfl)) Ac)) (Ak Ed hr (Aa (Ap (Ah (K:=K)) (pv 1) (pv 2) (fun _ _=>rfl)) Ac)) (A9 _)))) (fun _ _ _ _=>(pv 0)))
    (Ag (C5 (B0 (K:=K) qc5 qd4 qd3 Ch (pv 2) (Aa (Bs (Aa (pv 5) (Aa (Ap (Ah (K:=K)) (pv 6) (Ak Fn hr (Aa (pv 4) (Aa Af (Aa (Ao (Ai (K:=K)) T.n_len qe0 (Aa (pv 6) Ac)) Ac)))) (fun _ _=>rfl)) Ac))) Ac))))))))
    (Ag (Av (pv 2))))),?_⟩
   refine qr5 (fun σ' H'=>∃D,σ'=[rS a,rS c,rS D,none,none,none,none]/\Same H H'/\H D=none/\H' D=some (.lst [])) (fun key=>?_) ?_
   . exact⟨qb3 _,fun D hD=>key _ _ ⟨D,rfl,Same.new hD,hD,Ab⟩⟩
   refine Kf fun D H1 s1 nD J9=>?_;refine⟨_,rfl,c,cells,2,rfl,s1.seq hS,by decide,hcl,_,_,rfl,rfl,(by decide:(0:Int)<4),_,_,rfl,rfl,?_⟩;obtain⟨r,hr,er⟩:∃r:Nat,(1<=r/\r<=4)/\1+Ni cells 2%4=(r:Int):=⟨(1+Ni cells 2%4).toNat,O9m,O9m⟩
   refine⟨(r:Int),congrArg (fun z=>[V.int z]) er,O9m,O9m,?_⟩
   refine Cm (lo:=0) (n:=r) (fun m σ G=>∃(us:List V) (ps:List (Int × Int)) (o3 o4 o5 o6:Option V),σ=[rS a,rS c,rS D,o3,o4,o5,o6]/\Same H G/\G D=some (.lst us)/\Reps K G us ((ps.map pr).map tI)/\ps.length=m/\Gu xs ps)
    ⟨[],[],none,none,none,none,rfl,s1,J9,rfl,rfl,fun z hz=>by cases hz⟩ ?_ ?_
   . rintro m σ G hm ⟨us,ps,o3,o4,o5,o6,rfl,g,Bl,rU,hpl,hok⟩;have pV:us.length=ps.length:=by have:=rU.length;simpa using this
     refine qr5 (fun σ' H'=>∃cell:Int,σ'=[rS a,rS c,rS D,some (.int ((0:Int)+(m:Int))),iS cell,o5,o6]/\G=H') (fun key=>?_) ?_
     . exact⟨_,rfl,_,rfl,_,_,rfl,rfl,c,cells,_,rfl,g.seq hS,O9m,hcl,_,_,rfl,rfl,(by decide:(0:Int)<1000003),key _ _ ⟨_,rfl,rfl⟩⟩
     rintro _ _ ⟨cell,rfl,rfl⟩;refine qr5 (fun σ' H'=>∃one:Int,σ'=[rS a,rS c,rS D,some (.int ((0:Int)+(m:Int))),iS cell,iS one,o6]/\Same G H'/\B5 xs one) (fun key=>?_) ?_
     . refine⟨_,rfl,_,rfl,a,xu,rfl,.inl (g.seq U9),cell,0,(xu.length:Int),rfl,O9m,fun r' H' s' r0 r1=>key _ _ ⟨r',rfl,s',r0,O9m⟩⟩
     refine Gj fun one G1 g1 lY=>?_;have LY:=g.trans g1;refine qr5 (fun σ' H'=>∃(A:Addr) (ls:List Int),σ'=[rS a,rS c,rS D,some (.int ((0:Int)+(m:Int))),iS cell,iS one,rS A]/\Same G1 H'/\H' A=some (.lst (ls.map V.int))/\ls.length<=xs.length/\0<ls.length/\∀l∈ls,B5 xs l/\By (fc xs l).length=By (fc xs one).length) (fun key=>?_) ?_
     . refine⟨_,rfl,a,xu,rfl,.inl (LY.seq U9),_,rfl,O9m,O9m,fun E hE=>?_⟩;rw[Pj]
       refine C9 (n:=xs.length) (fun i ws τ G2=>Same G1 G2/\G2 E=some (.lst ws)/\∃ls:List Int,ws=ls.map V.int/\ls.length<=i/\i<=xs.length/\(one<(i:Int)->0<ls.length)/\(∀l∈ls,B5 xs l/\By (fc xs l).length=By (fc xs one).length)/\∃o,τ=[o,rS a,iS one])
        ⟨Same.new hE,Ab,[],rfl,qa9 _,qb3 _,(fun z=>by have:=lY.1;omega),(fun l hl=>by cases hl),none,rfl⟩ ?_ ?_
       . rintro i ws τ G2 hi ⟨g2,cI,ls,rfl,AD,hil,kU,hls,o,rfl⟩;rw[show(0:Int)+(i:Int)=(i:Int) by omega];have gg:=LY.trans g2;have ri:B5 xs (i:Int):=⟨O9m,O9m⟩
         obtain⟨xq,vx,ED,iQ,jF⟩:=LT.get (Rep.same gg hL) ri.1 ri.2;obtain⟨xo,vo,VZ,WC,vA⟩:=LT.get (Rep.same gg hL) lY.1 lY.2;have el:(Bx (fc xs (i:Int))).length=(fc xs (i:Int)).length:=qa1 ..;have XN:(Bx (fc xs one)).length=(fc xs one).length:=qa1 ..;refine⟨_,rfl,_,rfl,a,xq,_,vx,rfl,rfl,ED,iQ,vx,Bx (fc xs (i:Int)),rfl,.inr jF,_,rfl,_,rfl,a,xo,_,vo,rfl,rfl,VZ,WC,vo,Bx (fc xs one),rfl,.inr vA,rfl,_,rfl,?_⟩;rw[el,XN];refine ite2 (fun h2=>?_) (fun h2=>?_)
         . have e2:By (fc xs (i:Int)).length=By (fc xs one).length:=by simpa using h2
           refine⟨_,rfl,cI,Bh (by rw[qa1];omega),g2.turn hE,Ab,ls++[(i:Int)],by rw[qa6];rfl,by simp;omega,O9m,fun _=>by simp,fun l hl=>?_,_,rfl⟩;rcases qd5.mp hl with w | w
           . exact hls l w
           . rw[qd1.mp w];exact⟨ri,e2⟩
         . refine⟨g2,cI,ls,rfl,O9m,O9m,fun z=>?_,hls,_,rfl⟩;by_cases e:one=(i:Int)
           . subst e;exact absurd (by simp) h2
           . exact kU O9m
       . rintro ws τ G2 ⟨g2,cI,ls,rfl,AD,hil,kU,hls,_⟩;exact key _ _ ⟨E,ls,rfl,g2,cI,AD,kU lY.2,hls⟩
     refine iF fun A ls G2 g2 hA AD UD hls=>?_;have gg:=LY.trans g2;have ll:(ls.map V.int).length=ls.length:=qa1 ..;refine⟨_,rfl,.inl ⟨rfl,_,.of ((g1.trans g2) _ _ Bl)⟩,_,rfl,_,rfl,_,rfl,_,rfl,A,_,rfl,.inl (.of hA),cell,1,((ls.map V.int).length:Int),rfl,O9m,fun r' G3 g3 r0 r1=>?_⟩;have XS:Io (ls.map V.int) r'=some (.int (lb ls r')):=Dz r0 O9m;have BL:=hls (lb ls r') (Bq O9m);refine⟨A,_,_,_,rfl,rfl,.of (g3 _ _ hA),XS,Au (by simp),fun T1 hT1=>?_⟩;generalize lb ls r'=two at BL hT1;have g4:Same G3 (upd G3 T1 (.tup [.int one,.int two])):=Same.new hT1;have tt:TI K (upd G3 T1 (.tup [.int one,.int two])) (.ref T1) (pr (one,two)):=TI.mk (.of Ab);generalize upd G3 T1 (.tup [.int one,.int two])=G4 at g4 tt;have pP:=((g1.trans g2).trans g3).trans g4;refine⟨D,_,_,rfl,rfl,pP _ _ Bl,Bh O9m,?_⟩;refine⟨us++[.ref T1],ps++[(one,two)],_,_,_,_,rfl,(g.trans pP).turn nD,Ab,?_,by simp;omega,fun z hz=>?_⟩
     . rw[show(ps++[(one,two)]).map pr=ps.map pr++[pr (one,two)] by rw[qa6];rfl];exact C4 (pP _ _ Bl) (Reps.same pP rU) tt
     . rcases qd5.mp hz with w | w
       . exact hok z w
       . rw[qd1.mp w];exact⟨lY,BL.1,gW hsh lY BL.1 BL.2.symm⟩
   . rintro σ G ⟨us,ps,o3,o4,o5,o6,rfl,g,Bl,rU,hpl,hok⟩;exact⟨_,rfl,k D us ps G g nD Bl rU O9m O9m hok⟩
noncomputable abbrev En:Stmt:=Ew 9
theorem Kq:FnScope ["shape","thing","level"] ["shape","thing","level"] (As En):=Bb
theorem K4{f:Addr}{fd:FuncData}(F:D5 K "is_place_of_level" "is_place_of_level" En f fd)(T:Txt K mg Aq)(C3:Has P w K mg base "is_whole_below" ["thing","bound"] 2 (Fc K))(El:Has P w K mg base "level_of" ["piece"] 1 (Di K)):Bt P w K mg base Dw 3 f fd ["shape","thing","level"] (D9 K):=by
 refine F.ok Kq (fun vs H Q E h=>?_) (fun Da A outer s H vs Q E hr h=>?_)
 . obtain⟨_,_,_,_,_,rfl,_⟩:=h;rfl
 . obtain⟨a,x,d,l,xs,rfl,hL,hx,k⟩:=h;obtain⟨us,hq,IQ⟩:=LT.len hL;refine⟨_,(Ag (Av (Dy (Ak C3 hr (Aa (pv 1) (Aa (Ao (Ai (K:=K)) T.n_len qe0 (Aa (pv 0) Ac)) Ac))) (Fh (Fi Cb (Ak El hr (Aa (Ap (Ah (K:=K)) (pv 0) (pv 1) (fun _ _=>rfl)) Ac)) (pv 2) (A9 _)))))),?_⟩;refine⟨_,rfl,_,rfl,a,us,rfl,.inl hq,x,d,_,rfl,hx,_,rfl,?_⟩;rw[IQ];refine ite2 (fun e=>?_) (fun e=>?_)
   . obtain⟨i,rfl⟩:∃i,d=.int i:=by cases d<;>first | exact⟨_,rfl⟩ | (exfalso;simp[Pt]at e)
     cases (show x=.int i from hx);have e':(decide (0<=i)&&decide (i<(xs.length:Int)))=true:=e;have h0:0<=i/\i<(xs.length:Int):=by simpa using e'
     obtain⟨us',v,hq',hv,tv⟩:=LT.get hL h0.1 h0.2;refine⟨_,rfl,_,rfl,a,us',i,v,rfl,rfl,hq',hv,v,_,rfl,.inr tv,_,rfl,rfl,?_⟩
     have e2:B6 xs (.int i) l=decide (By (Bx (xs.getD i.toNat [])).length=l):=by
      show(decide (0<=i)&&decide (i<(xs.length:Int))&&decide (By (xs.getD i.toNat []).length=l))=_;rw[e'];simp[Bx]
     rw[e2]at k
     have e3:decide (V.int (By (Bx (xs.getD i.toNat [])).length)=V.int l)=decide (By (Bx (xs.getD i.toNat [])).length=l):=by
      by_cases z:By (Bx (xs.getD i.toNat [])).length=l
      . simp[z]
      . simp[z]
     rw[e3];exact k
   . have e2:B6 xs d l=false:=by
      cases d with
      | int i =>
        have e':¬(decide (0<=i)&&decide (i<(xs.length:Int)))=true:=e;show(decide (0<=i)&&decide (i<(xs.length:Int))&&decide (By (xs.getD i.toNat []).length=l))=false;rw[Bool.eq_false_iff.mpr e'];rfl
      | _=>rfl
     rw[e2]at k;exact k
noncomputable abbrev O7:Stmt:=Ew 69
theorem b9:FnScope ["shape","thing"] ["shape","thing"] (As O7):=Bb
theorem g5{f:Addr}{fd:FuncData}(F:D5 K "is_bent" "is_bent" O7 f fd)(T:Txt K mg Aq)(Sm:Has P w K mg base "bent" ["shape"] 2 (V2 K))(Gx:Has P w K mg base "is_whole" ["thing"] 1 (Ic K)):Bt P w K mg base Dw 3 f fd ["shape","thing"] (Rb K):=by
 refine F.ok b9 (fun vs H Q E h=>?_) (fun Da A outer s H vs Q E hr h=>?_)
 . obtain⟨_,_,_,_,rfl,_⟩:=h;rfl
 . obtain⟨a,v,ys,p,rfl,hL,hyl,h4,hv,hpl,k⟩:=h;have J5:=hr.u8;obtain⟨ap,rfl,IJ⟩:=TI.sq hv
   refine⟨_,(Ad (Bj (PW.pt (Ru (Dx (Cq (Ao (Cf (K:=K)) T.n_isinstance Bn (Aa (pv 1) (Aa (Er (v:=.ty "tuple") rfl T.n_tuple C1 rfl) Ac))))) (Rt (Dx (Cq (Ao (F1 (K:=K) (by rfl)) T.n_all Gz (Aa (Bm (N':=["place"]) (cap:=[none]) (by rfl) (by kernel_rfl) (Et (K:=K) (pv 1)) (fun _ _ _ _=>(Am (i:=0) kN)) (fun _ _ _ _=>Bk) (fun _ _ _ _=>(Ak Gx hr (Aa (pv 0) Ac)))) Ac))))))) (Ag (Av E3)) Ax)
    (Ag (Av (Fi (Wt (K:=K) J5) (pv 1) (Ak Sm hr (Aa (pv 0) Ac)) rfl)))),?_⟩
   refine⟨_,rfl,_,_,tI p,rfl,.inr (.inr (.inr (.inl rfl))),hv,_,rfl,?_⟩;refine Dt (by simp[Wv,tI]) ?_;refine⟨_,rfl,ap,rfl,⟨_,IJ⟩,fun D hD=>?_⟩
   refine Dg (K:=K) (a:=ap) (xs:=p.map V.int) (fun i ws τ G=>Same H G/\G D=some (.lst ws)/\ws=((p.take i).map fun _=>true).map V.bl/\∃o,τ=[o])
    ⟨Same.new hD,Ab,rfl,none,rfl⟩ (fun i ws τ G _ ⟨g,_⟩=>g.seqT IJ) ?_ ?_
   . rintro i y ws τ G hy ⟨g,Bl,hws,o,rfl⟩;have hi:i<p.length:=by have:=(qa2.mp hy).1;simpa using this
     have EC:y=.int p[i]:=by
      rw[qa3,qa0 hi]at hy;simpa using hy.symm
     subst EC;refine⟨_,rfl,_,.int p[i],rfl,rfl,Bl,Bh (by rw[hws,qa1,qa1,qb5];omega),g.turn hD,Ab,?_,_,rfl⟩;rw[qd6,qa0 hi,qa6,qa6,hws];rfl
   . rintro ws τ G ⟨g,Bl,hws,_⟩;rw[qa1,qb4]at hws;refine⟨D,p.map fun _=>true,rfl,.of (by rw[Bl,hws]),_,rfl,?_⟩;refine Dt (by simp) ?_;refine⟨_,rfl,_,rfl,a,ys,rfl,Rep.same g hL,hyl,h4,fun F fu G2 hF g2 pM rF=>?_⟩;have gg:=g.trans g2;refine⟨tI p,(Fp ys).map tI,qm4 gg hv,.inl ⟨F,fu,rfl,.of pM,rF⟩,(by have:=Jk (Fp ys);omega),?_⟩;rw[if_neg (by simp),HB];exact k _ gg
noncomputable abbrev Rk:Stmt:=Ew 115
theorem Uq:FnScope ["words","many"] ["words"] (As Rk):=Bb
theorem BC{f:Addr}{fd:FuncData}(F:D5 K "is_row" "is_row" Rk f fd)(T:Txt K mg Aq)(Cv:Has P w K mg base "is_name" ["word"] 1 (Jm K))(J7:Has P w K mg base "are_figures" ["word"] 1 (aY K))(Sk:Has P w K mg base "is_pair" ["word"] 2 (Ra K)):Bt P w K mg base Dw 3 f fd ["words"] (Ug K):=by
 refine F.ok Uq (fun vs H Q E h=>?_) (fun Da A outer s H vs Q E hr h=>?_)
 . obtain⟨_,_,rfl,_⟩:=h;rfl
 . obtain⟨l,ws,rfl,hS,Fa,k⟩:=h;have J5:=hr.u8
   refine⟨_,(Ad (Al (i:=1) Uq.nd (Ao (Ai (K:=K)) T.n_len qe0 (Aa (pv 0) Ac)))
    (Ad (Bj (Aw Cb (Ap (Ah (K:=K)) (pv 0) Af (fun _ _=>rfl)) Bg (A9 _)) (Ag (Av (Dy (Fi Cb (pv 1) Af (A9 _)) (Fh (Ak Cv hr (Aa (Ap (Ah (K:=K)) (pv 0) Af (fun _ _=>rfl)) Ac)))))) Ax)
    (Ad (Bj (Aw (Wt (K:=K) J5) (Ap (Ah (K:=K)) (pv 0) Af (fun _ _=>rfl)) (Bs (Aa Bg (Aa Bg (Aa Bg Ac)))) rfl) (Ag (Av (Dy (Fi Cb (pv 1) Af (A9 _)) (Fh (Ak Cv hr (Aa (Ap (Ah (K:=K)) (pv 0) Af (fun _ _=>rfl)) Ac)))))) Ax)
    (Ad (Bj (Aw Cb (Ap (Ah (K:=K)) (pv 0) Af (fun _ _=>rfl)) Bg (A9 _)) (Ag (Av (Dy (Fi Cb (pv 1) Af (A9 _)) (Dy (Ak Cv hr (Aa (Ap (Ah (K:=K)) (pv 0) Af (fun _ _=>rfl)) Ac)) (Fh (Ak J7 hr (Aa (Ap (Ah (K:=K)) (pv 0) Af (fun _ _=>rfl)) Ac))))))) Ax)
    (Ad (Bj (Aw Cb (Ap (Ah (K:=K)) (pv 0) Af (fun _ _=>rfl)) Bg (A9 _)) (Ag (Av (Dy (Fi Cb (pv 1) Af (A9 _)) (Dy (Ak Cv hr (Aa (Ap (Ah (K:=K)) (pv 0) Af (fun _ _=>rfl)) Ac)) (Fh (Ak Cv hr (Aa (Ap (Ah (K:=K)) (pv 0) Af (fun _ _=>rfl)) Ac))))))) Ax)
    (Ad (Bj (Aw Cb (Ap (Ah (K:=K)) (pv 0) Af (fun _ _=>rfl)) Bg (A9 _)) (Ag (Av (Dy (Fi U1 (pv 1) Af (A9 _)) (Dy (Ak Cv hr (Aa (Ap (Ah (K:=K)) (pv 0) Af (fun _ _=>rfl)) Ac)) (Dy (Ak Cv hr (Aa (Ap (Ah (K:=K)) (pv 0) Af (fun _ _=>rfl)) Ac)) (Fh (Ao (F1 (K:=K) (by rfl)) T.n_all Gz (Aa (Bm (N':=["word"]) (cap:=[none]) (by rfl) (by kernel_rfl) (Bi (K:=K) (Ct (Je (K:=K)) (pv 0) (Cw Af) Ej)) (fun _ _ _ _=>(Am (i:=0) dQ)) (fun _ _ _ _=>Bk) (fun _ _ _ _=>(Ak Sk hr (Aa (pv 0) Ac)))) Ac)))))))) Ax)
    (Ag (Av E3)))))))),?_⟩
   refine⟨_,rfl,l,_,rfl,.inl hS,?_⟩;rw[qa1];cases Fa with
   | @keep n t hn =>
     refine⟨_,rfl,l,_,_,_,rfl,rfl,hS,rfl,rfl,_,rfl,?_⟩;refine Hz (by decide +kernel) ?_;refine⟨_,rfl,rfl,_,rfl,?_⟩;refine Hz (by rfl) ?_;exact⟨_,rfl,l,_,_,_,rfl,rfl,hS,rfl,_,rfl,hn,fun H1 s1=>k H1 s1⟩
   | other h =>
     cases h with
     | @«show» n hn =>
       refine⟨_,rfl,l,_,_,_,rfl,rfl,hS,rfl,rfl,_,rfl,?_⟩;refine Dt (by decide +kernel) ?_;refine⟨_,rfl,l,_,_,_,rfl,rfl,hS,rfl,Au (by simp),fun p hp=>?_⟩;have sp:Same H (upd H p (.tup [V.str (Str.ofString "show"),V.str (Str.ofString "holes"),V.str (Str.ofString "drop")])):=Same.new hp;have ep:upd H p (.tup [V.str (Str.ofString "show"),V.str (Str.ofString "holes"),V.str (Str.ofString "drop")]) p=some (.tup [V.str (Str.ofString "show"),V.str (Str.ofString "holes"),V.str (Str.ofString "drop")]):=Ab;refine⟨.str (wT "show"),[Str.ofString "show",Str.ofString "holes",Str.ofString "drop"].map L2.D.str,rfl,.inr ⟨p,_,rfl,.of ep,Dq.mpr rfl⟩,Gv _,_,rfl,?_⟩;generalize upd H p (.tup [V.str (Str.ofString "show"),V.str (Str.ofString "holes"),V.str (Str.ofString "drop")])=H2 at sp ep
       have es:(if false=true then !(([Str.ofString "show",Str.ofString "holes",Str.ofString "drop"].map L2.D.str).any fun e=>eqD e (.str (wT "show"))) else([Str.ofString "show",Str.ofString "holes",Str.ofString "drop"].map L2.D.str).any fun e=>eqD e (.str (wT "show")))=true:=by
        rw[if_neg qc2,Kd];decide +kernel
       rw[es];refine Hz rfl ?_;refine⟨_,rfl,rfl,_,rfl,?_⟩;refine Hz (by rfl) ?_;exact⟨_,rfl,l,_,_,_,rfl,rfl,sp.seq hS,rfl,_,rfl,hn,fun H1 s1=>k H1 (sp.trans s1)⟩
     | @core n m hn hm =>
       refine⟨_,rfl,l,_,_,_,rfl,rfl,hS,rfl,rfl,_,rfl,?_⟩;refine Dt (by decide +kernel) ?_;refine⟨_,rfl,l,_,_,_,rfl,rfl,hS,rfl,Au (by simp),fun p hp=>?_⟩;have sp:Same H (upd H p (.tup [V.str (Str.ofString "show"),V.str (Str.ofString "holes"),V.str (Str.ofString "drop")])):=Same.new hp;have ep:upd H p (.tup [V.str (Str.ofString "show"),V.str (Str.ofString "holes"),V.str (Str.ofString "drop")]) p=some (.tup [V.str (Str.ofString "show"),V.str (Str.ofString "holes"),V.str (Str.ofString "drop")]):=Ab;refine⟨.str (wT "core"),[Str.ofString "show",Str.ofString "holes",Str.ofString "drop"].map L2.D.str,rfl,.inr ⟨p,_,rfl,.of ep,Dq.mpr rfl⟩,Gv _,_,rfl,?_⟩;generalize upd H p (.tup [V.str (Str.ofString "show"),V.str (Str.ofString "holes"),V.str (Str.ofString "drop")])=H2 at sp ep
       have es:(if false=true then !(([Str.ofString "show",Str.ofString "holes",Str.ofString "drop"].map L2.D.str).any fun e=>eqD e (.str (wT "core"))) else([Str.ofString "show",Str.ofString "holes",Str.ofString "drop"].map L2.D.str).any fun e=>eqD e (.str (wT "core")))=false:=by
        rw[if_neg qc2,Kd];decide +kernel
       rw[es];refine Dt (by simp) ?_;refine⟨_,rfl,l,_,_,_,rfl,rfl,sp.seq hS,rfl,rfl,_,rfl,?_⟩;refine Dt (by decide +kernel) ?_;refine⟨_,rfl,l,_,_,_,rfl,rfl,sp.seq hS,rfl,rfl,_,rfl,?_⟩;refine Hz (by decide +kernel) ?_;refine⟨_,rfl,rfl,_,rfl,?_⟩;refine Hz (by rfl) ?_;refine⟨_,rfl,l,_,_,_,rfl,rfl,sp.seq hS,rfl,_,rfl,hn,fun H3 s3=>⟨_,rfl,?_⟩⟩;refine Hz rfl ?_;exact⟨_,rfl,l,_,_,_,rfl,rfl,(sp.trans s3).seq hS,rfl,_,rfl,hm,fun H1 s1=>k H1 ((sp.trans s3).trans s1)⟩
     | @glue n m ps hn hm hp1 hp2 hps =>
       refine⟨_,rfl,l,_,_,_,rfl,rfl,hS,Hr _ _,rfl,_,rfl,?_⟩;refine Dt (by decide +kernel) ?_;refine⟨_,rfl,l,_,_,_,rfl,rfl,hS,Hr _ _,Au (by simp),fun p hp=>?_⟩;have sp:Same H (upd H p (.tup [V.str (Str.ofString "show"),V.str (Str.ofString "holes"),V.str (Str.ofString "drop")])):=Same.new hp;have ep:upd H p (.tup [V.str (Str.ofString "show"),V.str (Str.ofString "holes"),V.str (Str.ofString "drop")]) p=some (.tup [V.str (Str.ofString "show"),V.str (Str.ofString "holes"),V.str (Str.ofString "drop")]):=Ab;refine⟨.str (wT "glue"),[Str.ofString "show",Str.ofString "holes",Str.ofString "drop"].map L2.D.str,rfl,.inr ⟨p,_,rfl,.of ep,Dq.mpr rfl⟩,Gv _,_,rfl,?_⟩;generalize upd H p (.tup [V.str (Str.ofString "show"),V.str (Str.ofString "holes"),V.str (Str.ofString "drop")])=H2 at sp ep
       have es:(if false=true then !(([Str.ofString "show",Str.ofString "holes",Str.ofString "drop"].map L2.D.str).any fun e=>eqD e (.str (wT "glue"))) else([Str.ofString "show",Str.ofString "holes",Str.ofString "drop"].map L2.D.str).any fun e=>eqD e (.str (wT "glue")))=false:=by
        rw[if_neg qc2,Kd];decide +kernel
       rw[es];refine Dt (by simp) ?_;refine⟨_,rfl,l,_,_,_,rfl,rfl,sp.seq hS,Hr _ _,rfl,_,rfl,?_⟩;refine Dt (by decide +kernel) ?_;refine⟨_,rfl,l,_,_,_,rfl,rfl,sp.seq hS,Hr _ _,rfl,_,rfl,?_⟩;refine Dt (by decide +kernel) ?_;refine⟨_,rfl,l,_,_,_,rfl,rfl,sp.seq hS,Hr _ _,rfl,_,rfl,?_⟩;refine Hz (by decide +kernel) ?_;refine⟨_,rfl,_,_,rfl,rfl,_,rfl,?_⟩;refine Hz (by simp;omega) ?_;refine⟨_,rfl,l,_,_,_,rfl,rfl,sp.seq hS,CQ _ _ _,_,rfl,hn,fun H3 s3=>⟨_,rfl,?_⟩⟩;refine Hz rfl ?_;refine⟨_,rfl,l,_,_,_,rfl,rfl,(sp.trans s3).seq hS,Ca (j:=2) rfl,_,rfl,hm,fun H4 s4=>⟨_,rfl,?_⟩⟩;refine Hz rfl ?_;have mZ:=(sp.trans s3).trans s4;refine⟨_,rfl,_,rfl,l,_,rfl,mZ.seq hS,fun c hc=>?_⟩;rw[show cutV ((wT "glue"::n::m::ps).map V.str) (some 3) none=ps.map V.str from(cut_from (k:=3) (by simp)).trans rfl];have s5:Same H4 (upd H4 c (.lst (ps.map V.str))):=Same.new hc;have e5:upd H4 c (.lst (ps.map V.str)) c=some (.lst (ps.map V.str)):=Ab;generalize upd H4 c (.lst (ps.map V.str))=H5 at s5 e5;refine⟨c,rfl,⟨_,.of e5⟩,fun D hD=>?_⟩
       refine Bp (K:=K) (a:=c) (xs:=ps.map V.str) (fun j ys τ G=>Same H5 G/\G D=some (.lst ys)/\ys=(List.replicate j true).map V.bl/\∃o,τ=[o])
        ⟨Same.new hD,Ab,rfl,none,rfl⟩ (fun j ys τ G _ ⟨g,_⟩=>g.seq (.of e5)) ?_ ?_
       . rintro j x ys τ G hx ⟨g,Bl,rfl,o,rfl⟩;rw[qa3]at hx;obtain⟨w,hw,rfl⟩:=qb1.mp hx;have hj:j<ps.length:=(qa2.mp hw).1;obtain⟨y,z,q⟩:=hps w (qa8 hw);refine⟨_,rfl,w,y,z,rfl,q,fun G2 g2=>?_⟩;refine⟨g2 _ _ Bl,Bh (by simp;omega),(g.trans g2).turn hD,Ab,?_,_,rfl⟩;rw[ql0,qa6];rfl
       . rintro ys τ G ⟨g,Bl,rfl,_⟩;refine⟨D,List.replicate (ps.map V.str).length true,rfl,.of Bl,?_⟩;rw[show(List.replicate (ps.map V.str).length true).all id=true by simp];exact k G ((mZ.trans s5).trans g)
noncomputable abbrev Rp:Stmt:=Ew 133
theorem Fw:FnScope ["_law_pieces","_law_cell","_law_level_here","_law_faces","_law_j","_law_meet"] ["_law_pieces","_law_cell"] (As Rp):=Bb
theorem bF{f:Addr}{fd:FuncData}(F:D5 K "_law_next" "_law_next" Rp f fd)(T:Txt K mg Aq)(W6:Has P w K mg base "_law_side" ["_law_pieces","_law_cell"] 2 (Ul K))(Ji:Has P w K mg base "_law_meets" ["_law_pieces","_law_faces","_law_face"] 1 (Oy K))(Fn:Has P w K mg base "_law_pick" ["_law_cell","_law_j","_law_many"] 1 (Lr K))(Ed:Has P w K mg base "_law_level" ["_law_piece"] 1 (Di K)):Bt P w K mg base Dw 3 f fd ["_law_pieces","_law_cell"] (Um K):=by
 refine F.ok Fw (fun vs H Q E h=>?_) (fun Da A outer s H vs Q E hr h=>?_)
 . obtain⟨_,_,_,rfl,_⟩:=h;rfl
 . obtain⟨a,xs,c,rfl,hL,hC,M7,k⟩:=h;obtain⟨us,hq,ul⟩:=LT.len hL;have p8:(0:Int)<8:=by decide
   have c0:=qj2 c (show(8:Int)≠0 by decide);have c1:=qg8 c p8
   refine⟨_,(Ad (Al (i:=2) Fw.nd (UT.h (GI (K:=K) (DH (ns:=[0,1,1,2,1,2,3,2]) (by kernel_rfl)) (Ay Cd (pv 1) Af) (fun _ _=>rfl))))
    (Ad (Al (i:=3) Fw.nd (Bs Ac))
    (Ad (Bj (Aw Cb (pv 2) Af (A9 _)) (Ag (Av (Bs Ac))) Ax)
    (Ad (Ce qc3 rfl (Bu (by rfl) T.n_range (Aa (Ay Dl (pv 2) Af) Ac)) (Am (i:=4) Fw.nd) (Ad (Ff (N':=["_law_face","_law_pieces","_law_level_here"]) (cap:=[none,some 0,some 2]) (i:=5) Fw.nd (by rfl) (by first | exact Or.inl rfl | exact Or.inr rfl) (by rfl) (by kernel_rfl) (Bu (by rfl) T.n_range (Aa (Ao (Ai (K:=K)) T.n_len qe0 (Aa (pv 0) Ac)) Ac)) (fun _ _ _ _=>(Am (i:=0) KD)) (fun _ _ _ _=>(Ih (Aw Cb (Ay Dl (Ak Ed hr (Aa (Ap (Ah (K:=K)) (pv 1) (pv 0) (fun _ _=>rfl)) Ac)) Af) (pv 2) (A9 _)))) (fun _ _ _ _=>(pv 0)))
    (Ad (Ff (N':=["_law_face","_law_pieces","_law_faces"]) (cap:=[none,some 0,some 3]) (i:=5) Fw.nd (by rfl) (by first | exact Or.inl rfl | exact Or.inr rfl) (by rfl) (by kernel_rfl) (Bi (K:=K) (pv 5)) (fun _ _ _ _=>(Am (i:=0) kE)) (fun _ _ _ _=>(Ih (Cq (Ak Ji hr (Aa (pv 1) (Aa (pv 2) (Aa (pv 0) Ac))))))) (fun _ _ _ _=>(pv 0)))
    (Ad (Bj (Aw Cb (Ao (Ai (K:=K)) T.n_len qe0 (Aa (pv 5) Ac)) Af (A9 _)) (Ad (Bj (PW.pt (K1 (Aw U1 (pv 2) Af (A9 _)) (Jz (Aw Cb (pv 4) (pv 2) (A9 _))))) (Ag (Av (Cg (De (K:=K)) (by rfl) T.n_tuple C1 (Aa (Bm (N':=["_law_face","_law_pieces","_law_j"]) (cap:=[none,some 0,some 4]) (by rfl) (by kernel_rfl) (Et (K:=K) (pv 3)) (fun _ _ _ _=>(Am (i:=0) kF)) (fun _ _ _ _=>Bk) (fun _ _ _ _=>(Ap (Bc (K:=K)) (Ap (Ah (K:=K)) (pv 1) (pv 0) (fun _ _=>rfl)) (Ay K3 (pv 2) Af) (fun _ _=>rfl)))) Ac)))) Ax)
    (Ag (Av (Ak W6 hr (Aa (pv 0) (Aa (pv 1) Ac)))))) Ax)
    (Ag (Al (i:=3) Fw.nd (Ay (K8 (K:=K)) (pv 3) (Bs (Aa (Ap (Ah (K:=K)) (pv 5) (Ak Fn hr (Aa (pv 1) (Aa (pv 4) (Aa (Ao (Ai (K:=K)) T.n_len qe0 (Aa (pv 5) Ac)) Ac)))) (fun _ _=>rfl)) Ac)))))))))
    (Ag (Av (pv 3))))))),?_⟩
   refine qr5 (fun σ' H'=>∃lh:Int,σ'=[rS a,iS c,iS lh,none,none,none]/\Same H H'/\0<=lh/\lh<=3) (fun key=>?_) ?_
   . refine⟨Au (by simp),fun T1 hT1=>?_⟩
     obtain⟨x,hx,x0,x1⟩:∃x,Io (([0,1,1,2,1,2,3,2]:List Int).map V.int) (c%8)=some (.int x)/\0<=x/\x<=3:=by
      rcases (show c%8=0\/c%8=1\/c%8=2\/c%8=3\/c%8=4\/c%8=5\/c%8=6\/c%8=7 by omega) with e | e | e | e | e | e | e | e<;>rw[e]<;>exact⟨_,rfl,by decide,by decide⟩
     refine⟨_,rfl,_,_,rfl,rfl,p8,T1,_,_,_,rfl,rfl,.of Ab,hx,?_⟩;exact key _ _ ⟨x,rfl,Same.new hT1,x0,x1⟩
   refine Kf fun lh H1 s1 l0 l3=>?_;refine qr5 (fun σ' H'=>∃F0:Addr,σ'=[rS a,iS c,iS lh,rS F0,none,none]/\Same H H'/\H' F0=some (.tup [])) (fun key=>?_) ?_
   . refine⟨qb3 _,fun F0 sF=>?_⟩;exact key _ _ ⟨F0,rfl,s1.trans (Same.new sF),Ab⟩
   refine Gj fun F0 H2 s2 sF=>?_;refine qr5 (fun σ' H'=>σ'=[rS a,iS c,iS lh,rS F0,none,none]/\H2=H'/\¬lh=0) (fun key=>?_) ?_
   . refine⟨_,rfl,rfl,_,rfl,?_⟩;refine ite2 (fun _=>?_) (fun h=>key _ _ ⟨rfl,rfl,by simpa using h⟩);refine⟨qb3 _,fun T1 hT1=>?_⟩;exact k (.ref T1) [] _ (s2.trans (Same.new hT1)) (TI.mk (.of Ab))
   refine IG fun LV=>?_;refine⟨_,rfl,_,_,rfl,rfl,_,rfl,O9m,O9m,?_⟩
   refine Cm (lo:=0) (n:=(lh+1).toNat) (fun j σ G=>∃(v:V) (fs:List Int) (o4 o5:Option V),σ=[rS a,iS c,iS lh,some v,o4,o5]/\Same H G/\TI K G v fs/\fs.length=j/\(∀x∈fs,0<=x/\x<(xs.length:Int)/\By (xs.getD x.toNat []).length+1=lh))
    ⟨.ref F0,[],none,none,rfl,s2,TI.mk (.of sF),rfl,fun x hx=>by cases hx⟩ ?_ ?_
   . rintro j σ G hj ⟨v,fs,o4,o5,rfl,g,tv,hfl,hfs⟩;rw[show(0:Int)+(j:Int)=(j:Int) by omega];have hjl:(j:Int)<=lh:=O9m
     refine qr5 (fun σ' H'=>∃(M:Addr) (ms:List Int),σ'=[rS a,iS c,iS lh,some v,some (.int (j:Int)),rS M]/\Same G H'/\H' M=some (.lst (ms.map V.int))/\ms.length<=1000/\∀x∈ms,0<=x/\x<(xs.length:Int)/\By (xs.getD x.toNat []).length+1=lh) (fun key=>?_) ?_
     . refine⟨_,rfl,a,us,rfl,.inl (g.seq hq),_,rfl,O9m,O9m,fun D hD=>?_⟩
       refine C9 (fun i ys τ G1=>Same G G1/\G1 D=some (.lst ys)/\(∃ms:List Int,ys=ms.map V.int/\ms.length<=i/\∀x∈ms,0<=x/\x<(xs.length:Int)/\By (xs.getD x.toNat []).length+1=lh)/\∃o,τ=[o,rS a,iS lh])
        ⟨Same.new hD,Ab,⟨[],rfl,qa9 _,fun x hx=>(by cases hx)⟩,none,rfl⟩ ?_ ?_
       . rintro i ys τ G1 hi ⟨g1,Bl,⟨ms,rfl,hml,hms⟩,o,rfl⟩;rw[show(0:Int)+(i:Int)=(i:Int) by omega];have hi2:i<xs.length:=O9m
         obtain⟨u1,v1,hu1,lM,FI⟩:=LT.get (i:=(i:Int)) (Rep.same (g.trans g1) hL) O9m O9m;refine⟨_,rfl,_,rfl,a,u1,_,v1,rfl,rfl,hu1,lM,v1,Bx _,rfl,.inr FI,_,_,rfl,rfl,_,rfl,rfl,_,rfl,?_⟩;rw[show(Bx (xs.getD ((i:Int)).toNat [])).length=(xs.getD ((i:Int)).toNat []).length from qa1 ..];refine ite2 (fun h1=>?_) (fun h1=>?_)
         . have e:By (xs.getD ((i:Int)).toNat []).length+1=lh:=by
            by_cases z:By (xs.getD ((i:Int)).toNat []).length+1=lh
            . exact z
            . exact absurd h1 (vQ z)
           refine⟨_,rfl,Bl,Bh (by rw[qa1];omega),g1.turn hD,Ab,⟨ms++[(i:Int)],by simp,by simp;omega,fun x hx=>?_⟩,_,rfl⟩;rcases qd5.mp hx with z | z
           . exact hms x z
           . rw[qd1]at z;subst z;exact⟨O9m,O9m,e⟩
         . exact⟨g1,Bl,⟨ms,rfl,O9m,hms⟩,_,rfl⟩
       . rintro ys τ G1 ⟨g1,Bl,⟨ms,rfl,hml,hms⟩,_⟩;exact key _ _ ⟨D,ms,rfl,g1,Bl,O9m,hms⟩
     refine v5 fun M1 ms1 G1 g1 HK wM RH=>?_;have FI:=qm4 g1 tv;have uP:=g.trans g1;refine qr5 (fun σ' H'=>∃(M:Addr) (ms:List Int),σ'=[rS a,iS c,iS lh,some v,some (.int (j:Int)),rS M]/\Same G1 H'/\H' M=some (.lst (ms.map V.int))/\ms.length<=1000/\∀x∈ms,0<=x/\x<(xs.length:Int)/\By (xs.getD x.toNat []).length+1=lh) (fun key=>?_) ?_
     . refine⟨_,rfl,M1,rfl,⟨_,.of HK⟩,fun D hD=>?_⟩
       refine Ps (K:=K) (a:=M1) (xs:=ms1.map V.int) (fun i ys τ G2=>Same G1 G2/\G2 D=some (.lst ys)/\(∃ms:List Int,ys=ms.map V.int/\ms.length<=i/\∀x∈ms,0<=x/\x<(xs.length:Int)/\By (xs.getD x.toNat []).length+1=lh)/\∃o,τ=[o,rS a,some v])
        ⟨Same.new hD,Ab,⟨[],rfl,qa9 _,fun x hx=>(by cases hx)⟩,none,rfl⟩ (fun i ys τ G2 _ ⟨g2,_⟩=>.of (g2 _ _ HK)) ?_ ?_
       . rintro i y ys τ G2 hy ⟨g2,Bl,⟨ms,rfl,hml,hms⟩,o,rfl⟩;have hi:i<ms1.length:=by have:=(qa2.mp hy).1;simpa using this
         have EC:y=.int ms1[i]:=by
          rw[qa3,qa0 hi]at hy;simpa using hy.symm
         subst EC;obtain⟨x0,x1,x2⟩:=RH _ (qc8 hi);generalize ms1[i]=x at x0 x1 x2;refine⟨_,rfl,_,rfl,_,rfl,a,v,xs,fs,x,rfl,Rep.same (uP.trans g2) hL,qm4 g2 FI,x0,x1,fun y hy=>⟨(hfs y hy).1,(hfs y hy).2.1⟩,O9m,(by
         have UI:=hC.at x0 x1;rw[C6]at x2;by_cases hz:(xs.getD x.toNat []).length=0
         . exact .inl hz
         . refine .inr ⟨O9m,fun y hy=>?_⟩;obtain⟨y0,y1,y2⟩:=hfs y hy;have WU:=hC.at y0 y1;rw[C6]at y2;omega),?_⟩
         refine⟨_,rfl,?_⟩;refine ite2 (fun h1=>?_) (fun h1=>?_)
         . refine⟨_,rfl,Bl,Bh (by rw[qa1];omega),g2.turn hD,Ab,⟨ms++[x],by simp,by simp;omega,fun y hy=>?_⟩,_,rfl⟩;rcases qd5.mp hy with z | z
           . exact hms y z
           . rw[qd1]at z;subst z;exact⟨x0,x1,x2⟩
         . exact⟨g2,Bl,⟨ms,rfl,O9m,hms⟩,_,rfl⟩
       . rintro ys τ G2 ⟨g2,Bl,⟨ms,rfl,hml,hms⟩,_⟩;rw[qa1]at hml;exact key _ _ ⟨D,ms,rfl,g2,Bl,O9m,hms⟩
     refine v5 fun M ms G2 g2 hM hml hms=>?_;have gg:=uP.trans g2;have MO:=qm4 g2 FI;have me:(ms.map V.int).length=ms.length:=qa1 ..;obtain⟨af,rfl,JJ⟩:=TI.sq MO;refine qr5 (fun σ' H'=>σ'=[rS a,iS c,iS lh,rS af,some (.int (j:Int)),rS M]/\G2=H'/\0<(ms.length:Int)) (fun key=>?_) ?_
     . refine⟨_,rfl,M,_,rfl,.inl (.of hM),rfl,_,rfl,?_⟩;rw[me];refine ite2 (fun h1=>?_) (fun h1=>?_);rotate_left
       . have:¬ms.length=0:=fun z=>h1 (by rw[z];rfl);exact key _ _ ⟨rfl,rfl,O9m⟩
       refine⟨_,rfl,_,_,rfl,rfl,_,rfl,?_⟩;refine ite2 (fun h2=>?_) (fun h2=>?_);rotate_left
       . refine Dt (by simp) ?_;exact⟨_,rfl,_,rfl,a,xs,c,rfl,Rep.same gg hL,M7,fun w p H' s' tw=>k w p H' (gg.trans s') tw⟩
       refine⟨_,rfl,_,rfl,rfl,_,rfl,?_⟩;refine ite2 (fun h3=>?_) (fun h3=>?_);rotate_left
       . exact⟨_,rfl,_,rfl,a,xs,c,rfl,Rep.same gg hL,M7,fun w p H' s' tw=>k w p H' (gg.trans s') tw⟩
       have yE:1<lh:=by simpa using h2
       have YE:(j:Int)=lh:=by simpa using h3
       refine⟨_,rfl,af,rfl,⟨_,JJ⟩,fun D hD=>?_⟩
       refine Dg (K:=K) (a:=af) (xs:=fs.map V.int) (fun i ys τ G3=>Same G2 G3/\G3 D=some (.lst ys)/\(∃ps:List Int,ys=ps.map V.int/\ps.length<=i)/\∃o,τ=[o,rS a,some (.int (j:Int))])
        ⟨Same.new hD,Ab,⟨[],rfl,qa9 _⟩,none,rfl⟩ (fun i ys τ G3 _ ⟨g3,_⟩=>g3.seqT JJ) ?_ ?_
       . rintro i y ys τ G3 hy ⟨g3,Bl,⟨ps,rfl,hpl⟩,o,rfl⟩;have hi:i<fs.length:=by have:=(qa2.mp hy).1;simpa using this
         have EC:y=.int fs[i]:=by
          rw[qa3,qa0 hi]at hy;simpa using hy.symm
         subst EC;obtain⟨x0,x1,x2⟩:=hfs _ (qc8 hi);generalize fs[i]=x at x0 x1 x2;have UI:=hC.at x0 x1;rw[C6]at x2;obtain⟨u1,v1,hu1,lM,PY⟩:=LT.get (Rep.same (gg.trans g3) hL) x0 x1;obtain⟨b1,rfl,hb1⟩:=PY.sq;refine⟨_,rfl,_,rfl,a,u1,_,_,rfl,rfl,hu1,lM,_,rfl,_,_,rfl,rfl,b1,_,_,_,rfl,rfl,hb1,Dz O9m O9m,Bl,Bh (by rw[qa1];omega),g3.turn hD,Ab,⟨ps++[_],by rw[qa6];rfl,by simp;omega⟩,_,rfl⟩
       . rintro ys τ G3 ⟨g3,Bl,⟨ps,rfl,hpl⟩,_⟩;refine⟨D,_,rfl,.inl ⟨.of Bl,fun T1 hT1=>?_⟩⟩;exact k (.ref T1) ps _ ((gg.trans g3).trans (Same.new hT1)) (TI.mk (.of Ab))
     rintro _ _ ⟨rfl,rfl,hpos⟩;refine⟨_,rfl,_,rfl,_,rfl,_,rfl,_,rfl,M,_,rfl,.inl (.of hM),_,_,_,rfl,by rw[me];exact hpos,fun r G4 g4 r0 r1=>?_⟩;rw[me]at r1;have RI:ms.getD r.toNat 0∈ms:=Bq O9m;have hmr:=hms _ RI;refine⟨M,_,_,_,rfl,rfl,.of (g4 _ _ hM),Dz r0 r1,Au (by simp),fun pt HE=>?_⟩;generalize ms.getD r.toNat 0=q at hmr;have s3:Same G4 (upd G4 pt (.tup [.int q])):=Same.new HE;refine⟨af,pt,_,_,rfl,rfl,(g4.trans s3).seqT JJ,.of Ab,Au (by simp;omega),fun p3 H3 s4 q3=>?_⟩;refine⟨.ref p3,fs++[q],_,_,rfl,((gg.trans g4).trans s3).trans s4,TI.mk ?_,by simp[hfl],fun x hx=>?_⟩
     . rw[qa6];exact q3
     . rcases qd5.mp hx with z | z
       . exact hfs x z
       . rw[qd1]at z;subst z;exact hmr
   . rintro σ G ⟨v,fs,o4,o5,rfl,g,tv,hfl,hfs⟩;exact⟨_,rfl,k v fs G g tv⟩
noncomputable abbrev Js:Stmt:=Ew 137
theorem C0:FnScope ["_law_kind","_law_cells","_law_most","_law_family","_law_words","_law_cell","_law_more"] ["_law_kind","_law_cells","_law_most"] (As Js):=Bb
theorem Tr{f:Addr}{fd:FuncData}(F:D5 K "_law_shape_by" "_law_shape_by" Js f fd)(T:Txt K mg Aq)(Iz:Has P w K mg base "_law_words_with" ["_law_words","_law_word","_law_family"] 2 (Kh K))(Nc:Has P w K mg base "_law_word_by" ["_law_cell","_law_family","_law_letters"] 1 (Nu K))(E6:Has P w K mg base "_law_faces_by" ["_law_word","_law_family"] 1 (Ir K)):Bt P w K mg base Dw 3 f fd ["_law_kind","_law_cells","_law_most"] (P0 K):=by
 refine F.ok C0 (fun vs H Q E h=>?_) (fun Da A outer s H vs Q E hr h=>?_)
 . obtain⟨_,_,_,_,rfl,_⟩:=h;rfl
 . obtain⟨a,ns,kind,most,rfl,hS,hl,hm0,hm1,k⟩:=h;have J5:=hr.u8
   refine⟨_,(Ad (Al (i:=3) C0.nd Af)
    (Ad (Bj (Aw Cb (Ay Cd (pv 0) Af) Af (A9 _)) (Ag (Al (i:=3) C0.nd (nH jE Af))) Ax)
    (Ad (Bj (Aw Cb (Ay Cd (pv 0) Af) Af (A9 _)) (Ag (Al (i:=3) C0.nd (Ay Dl Af (Ay Cd (Ay Ek (pv 0) Af) Af)))) Ax)
    (Ad (Al (i:=4) C0.nd (Cc Ac))
    (Ad (Ce qc3 rfl (Bi (K:=K) (pv 1)) (Am (i:=5) C0.nd) (Ad (Al (i:=6) C0.nd (Ak Iz hr (Aa (pv 4) (Aa (Ak Nc hr (Aa (pv 5) (Aa (pv 3) (Aa (Ay Dl Af (Ay Cd (Ay Ek (pv 0) Af) Af)) Ac)))) (Aa (pv 3) Ac)))))
    (Ag (Bj (Aw U0 (Ao (Ai (K:=K)) T.n_len qe0 (Aa (pv 6) Ac)) (pv 2) (A9 _)) (Ag (Al (i:=4) C0.nd (pv 6))) Ax))))
    (Ag (Av (Bm (N':=["_law_word","_law_family","_law_words"]) (cap:=[none,some 3,some 4]) (by rfl) (by kernel_rfl) (Bi (K:=K) (pv 4)) (fun _ _ _ _=>(Am (i:=0) kC)) (fun _ _ _ _=>Bk) (fun _ _ _ _=>(Cg (De (K:=K)) (by rfl) T.n_tuple C1 (Aa (Bm (N':=["_law_face","_law_words"]) (cap:=[none,some 2]) (by rfl) (by kernel_rfl) (Bi (K:=K) (Ak E6 hr (Aa (pv 0) (Aa (pv 1) Ac)))) (fun _ _ _ _=>(Am (i:=0) kB)) (fun _ _ _ _=>Bk) (fun _ _ _ _=>(B0 (K:=K) qc5 ql7 qn3 (Pg (K:=K) J5) (pv 1) (Aa (pv 0) Ac)))) Ac))))))))))),?_⟩
   refine Jb (fun σ' H'=>σ'=[iS kind,rS a,iS most,iS 0,none,none,none]/\H=H') ?_ fun Wu=>Wu _ _ ⟨rfl,rfl⟩;refine L9 ?_;refine Aj (fun σ' H'=>∃fam:Int,σ'=[iS kind,rS a,iS most,iS fam,none,none,none]/\H=H'/\fam<100) ?_ fun NT=>?_;rotate_left
   . refine⟨_,rfl,_,_,rfl,rfl,(by show(0:Int)<3;decide),rfl,_,rfl,?_⟩;refine ite2 (fun _=>?_) (fun _=>?_)
     . exact⟨_,rfl,NT _ _ ⟨-1,rfl,rfl,by decide⟩⟩
     . exact NT _ _ ⟨0,rfl,rfl,by decide⟩
   refine v6 fun sO lW=>?_;refine Aj (fun σ' H'=>∃fam:Int,σ'=[iS kind,rS a,iS most,iS fam,none,none,none]/\H=H'/\fam<100) ?_ fun L6=>?_;rotate_left
   . refine⟨_,rfl,_,_,rfl,rfl,(by show(0:Int)<3;decide),rfl,_,rfl,?_⟩;refine ite2 (fun _=>?_) (fun _=>?_)
     . refine⟨_,rfl,_,_,rfl,rfl,⟨by decide,by decide⟩,_,_,rfl,rfl,(by show(0:Int)<19;decide),_,_,rfl,rfl,L6 _ _ ⟨_,rfl,rfl,?_⟩⟩;have:kind / 18%19<19:=qg8 _ (by decide);omega
     . exact L6 _ _ ⟨sO,rfl,rfl,lW⟩
   refine v6 fun fam hf=>?_;have l1:0<=kind / 3%6:=qj2 _ (by decide);have l2:kind / 3%6<6:=qg8 _ (by decide);refine⟨qb3 _,fun W0 oA=>?_⟩;have s0:Same H (upd H W0 (.lst [])):=Same.new oA
   refine⟨_,rfl,a,rfl,⟨_,s0.seq hS⟩,for_list (K:=K) (a:=a) (xs:=ns.map V.int)
    (fun j σ H2=>∃(W:Addr) (wu:List V) (ws:LLInt) (o5 o6:Option V),σ=[iS kind,rS a,iS most,iS fam,rS W,o5,o6]/\Same H H2/\H W=none/\H2 W=some (.lst wu) ∧
      Reps K H2 wu (ws.map tI)/\AQ fam ws/\(ws.length:Int)<=most)
    ⟨W0,[],[],none,none,rfl,s0,oA,Ab,rfl,AQ.nil,by simpa using hm0⟩ (fun j σ H2 _ ⟨_,_,_,_,_,_,s2,_⟩=>s2.seq hS) ?_ ?_⟩
   . rintro j x σ H2 hx ⟨W,wu,ws,o5,o6,rfl,s2,hW,kZ,rW,hO,hwl⟩;have hjn:j<ns.length:=by have:=(qa2.mp hx).1;simpa using this
     have hxv:x=.int ns[j]:=by
      rw[qa3,qa0 hjn]at hx;simpa using hx.symm
     subst hxv;refine⟨_,rfl,_,rfl,_,rfl,_,rfl,_,_,rfl,rfl,⟨by decide,by decide⟩,_,_,rfl,rfl,(by show(0:Int)<6;decide),_,_,rfl,rfl,?_⟩;refine⟨_,_,_,rfl,O9m,O9m,O9m,fun v H3 w s3 tv hw=>?_⟩;refine⟨_,rfl,?_⟩;refine⟨W,wu,v,ws,w,fam,rfl,s3 _ _ kZ,Reps.same s3 rW,tv,hw,O9m,fun M mu H4 hM s4 lA rM=>?_⟩;have fJ:=s3.trans s4;have RY:H M=none:=(s2.trans s3).free hM;have mul:mu.length=(Lq ws w fam).length:=by have:=rM.length;simpa using this
     refine⟨_,rfl,M,_,rfl,.inl (.of lA),_,rfl,_,_,rfl,rfl,_,rfl,?_⟩;refine ite2 (fun h1=>?_) (fun h1=>?_)
     . have h2:(mu.length:Int)<=most:=by simpa using h1
       exact⟨_,rfl,M,mu,Lq ws w fam,_,_,rfl,s2.trans fJ,RY,lA,rM,Tk hO hw,O9m⟩
     . exact⟨W,wu,ws,_,_,rfl,s2.trans fJ,hW,fJ _ _ kZ,Reps.same fJ rW,hO,hwl⟩
   . rintro σ H2 ⟨W,wu,ws,o5,o6,rfl,s2,hW,kZ,rW,hO,hwl⟩;have ML:wu.length=ws.length:=by have:=rW.length;simpa using this
     refine⟨_,rfl,W,rfl,⟨_,.of kZ⟩,fun D hD=>?_⟩;have XA:H D=none:=s2.free hD
     refine Bp (K:=K) (a:=W) (xs:=wu) (fun i ys τ H1=>Same H2 H1/\H1 D=some (.lst ys)/\Reps K H1 ys (((ws.take i).map fun w=>(Ar w fam).map fun f=>(Wx ws f:Int)).map tI)/\∃o,τ=[o,iS fam,rS W])
      ⟨Same.new hD,Ab,rfl,none,rfl⟩ (fun i ys τ H1 _ ⟨s1,_⟩=>.of (s1 _ _ kZ)) ?_ ?_
     . rintro i x ys τ H1 hx ⟨s1,J9,r1,o,rfl⟩;have hi:i<wu.length:=(qa2.mp hx).1;have hil:i<ws.length:=O9m
       have hix:(ws.map tI)[i]?=some (tI ws[i]):=by rw[qa3,qa0 hil];rfl
       obtain⟨x',hx',tx⟩:=rW.get hix;rw[hx]at hx';cases hx';obtain⟨hwi,rN⟩:=hO.mem (qc8 hil);generalize wA:ws[i]=w at tx hwi rN;refine⟨_,rfl,_,rfl,x,w,fam,rfl,qm4 s1 tx,hwi,fun p fu H3 hp s3 hp3 r3=>?_⟩;have OI:fu.length=(Ar w fam).length:=by have:=r3.length;simpa using this
       have jM:=s1.trans s3;refine⟨p,rfl,⟨_,.of hp3⟩,fun D2 Hq=>?_⟩
       refine Bp (K:=K) (a:=p) (xs:=fu) (fun m zs τ H4=>Same H3 H4/\H4 D2=some (.lst zs)/\zs=((Ar w fam).take m).map (fun f=>V.int (Wx ws f:Int))/\∃o,τ=[o,rS W])
        ⟨Same.new Hq,Ab,rfl,none,rfl⟩ (fun m zs τ H4 _ ⟨s4,_⟩=>.of (s4 _ _ hp3)) ?_ ?_
       . rintro m y zs τ H4 hy ⟨s4,Tw,hzs,o,rfl⟩;have hm:m<fu.length:=(qa2.mp hy).1;have nZ:m<(Ar w fam).length:=O9m
         have rH:((Ar w fam).map tI)[m]?=some (tI (Ar w fam)[m]):=by rw[qa3,qa0 nZ];rfl
         obtain⟨y',hy',ty⟩:=r3.get rH;rw[hy]at hy';cases hy';have hfm:(Ar w fam)[m]∈ws:=rN _ (qc8 _);have Zt:=jM.trans s4;have VG:Rep K H4 (.ref W) (.lst (ws.map tI)):=⟨W,wu,rfl,.of (Zt _ _ kZ),Reps.same Zt rW⟩
         have hfl:=(Gy hwi)
         have pF:zs.length<=4:=by
          rw[hzs,qa1,qb5];have:=hfl.2;have:=hfl.1;split at this<;>omega
         refine⟨_,rfl,.inl ⟨rfl,_,.of (Zt _ _ kZ)⟩,_,rfl,ws.map tI,y,tI (Ar w fam)[m],Wx ws (Ar w fam)[m],rfl,VG,qm4 s4 ty,(by have:=Jk ws;omega),m6 hfm,?_⟩;refine⟨Tw,Bh O9m,s4.turn Hq,Ab,?_,_,rfl⟩;rw[qd6,qa0 nZ,qa6,hzs];rfl
       . rintro zs τ H4 ⟨s4,Tw,hzs,_⟩;rw[OI,qb4]at hzs;have Zt:=jM.trans s4;refine⟨D2,_,rfl,.inl ⟨.of Tw,fun T hT=>?_⟩⟩;have s5:Same H4 (upd H4 T (.tup zs)):=Same.new hT;have CI:=(s3.trans (s4.trans s5)) _ _ J9
         have t5:TI K (upd H4 T (.tup zs)) (.ref T) ((Ar w fam).map fun f=>(Wx ws f:Int)):=by
          refine TI.mk (.of ?_);rw[qg6,Ab,hzs];rfl
         have hyl:ys.length=i:=by have:=r1.length;simp at this;omega
         refine⟨CI,Bh O9m,(Zt.trans s5).turn hD,Ab,?_,_,rfl⟩
         have e2:(ws.take (i+1)).map (fun w=>(Ar w fam).map fun f=>(Wx ws f:Int))=(ws.take i).map (fun w=>(Ar w fam).map fun f=>(Wx ws f:Int))++[(Ar w fam).map fun f=>(Wx ws f:Int)]:=by
          rw[qd6,qa0 hil,wA,qa6];rfl
         rw[e2];exact C4 CI (Reps.same (s3.trans (s4.trans s5)) r1) t5
     . rintro ys τ H1 ⟨s1,J9,r1,_⟩;rw[ML,qb4]at r1;exact k D ys H1 (Jp ws fam) XA (s2.trans s1) J9 r1 (Tn hO) (by unfold Jp;rw[qa1];exact hwl)
noncomputable abbrev c8:Stmt:=Ew 8
theorem y3:FnScope ["shape","thing","level"] ["shape","thing"] (As c8):=Bb
theorem gP{f:Addr}{fd:FuncData}(F:D5 K "fits" "fits" c8 f fd)(T:Txt K mg Aq)(El:Has P w K mg base "level_of" ["piece"] 1 (Di K))(J6:Has P w K mg base "faces_agree" ["shape","faces"] 1 (Ko K))(Cl:Has P w K mg base "is_place_of_level" ["shape","thing","level"] 3 (D9 K)):Bt P w K mg base Dw 4 f fd ["shape","thing"] (w9 K):=by
 refine F.ok y3 (fun vs H Q E h=>?_) (fun Da A outer s H vs Q E hr h=>?_)
 . obtain⟨_,_,_,_,rfl,_⟩:=h;rfl
 . obtain⟨a,th,d,xs,rfl,hL,hd,k⟩:=h;obtain⟨T8,T7,To⟩:=T.x_FACE_COUNTS;have J5:=hr.u8
   refine⟨_,(Ad (Bj (PW.pt (Ru (Dx (Cq (Ao (Cf (K:=K)) T.n_isinstance Bn (Aa (pv 1) (Aa (Er (v:=.ty "tuple") rfl T.n_tuple C1 rfl) Ac))))) (Rt (Aw (Fz (K:=K) J5) (Ao (Ai (K:=K)) T.n_len qe0 (Aa (pv 1) Ac)) (Wc (v:=.ref T8) (by rfl) T7 rfl) rfl)))) (Ag (Av E3)) Ax)
    (Ad (Al (i:=2) y3.nd (Ak El hr (Aa (pv 1) Ac)))
    (Ad (Bj (Dx (Cq (Ao (F1 (K:=K) (by rfl)) T.n_all Gz (Aa (Bm (N':=["face","shape","level"]) (cap:=[none,some 0,some 2]) (by rfl) (by kernel_rfl) (Et (K:=K) (pv 1)) (fun _ _ _ _=>(Am (i:=0) NQ)) (fun _ _ _ _=>Bk) (fun _ _ _ _=>(Ak Cl hr (Aa (pv 1) (Aa (pv 0) (Aa (Ay K3 (pv 2) Af) Ac)))))) Ac)))) (Ag (Av E3)) Ax)
    (Ag (Av (NH (Fi N9 (pv 2) Af (A9 _)) (Fh (Ak J6 hr (Aa (pv 0) (Aa (pv 1) Ac)))))))))),?_⟩
   refine⟨_,rfl,_,_,d,rfl,.inr (.inr (.inr (.inl rfl))),hd,_,rfl,?_⟩;cases d with
   | non=>exact k H (Same.refl H)
   | bl b=>exact k H (Same.refl H)
   | int i=>exact k H (Same.refl H)
   | str z=>exact k H (Same.refl H)
   | lst es=>exact k H (Same.refl H)
   | tup ds =>
     obtain⟨pa,us,rfl,hq,r⟩:=id hd;have ul:us.length=ds.length:=r.length;refine Dt (by simp[Wv]) ?_;refine⟨_,rfl,pa,us,rfl,.inr hq,.int (us.length:Int),Bx [0,2,3,4],rfl,.inr ⟨_,_,rfl,To H,Dr.mpr rfl⟩,(by rw[E8];decide),_,rfl,?_⟩;rw[ul]
     have cnt:(!(Bx [0,2,3,4]).any fun e=>eqD e (.int (ds.length:Int)))=!Nh ds.length:=by
      have:(Bx [0,2,3,4]).any (fun e=>eqD e (.int (ds.length:Int)))=Nh ds.length:=by
       simp only[Bx,qf0,ql5,qi4,List.any_nil,eqD,Nh];rw[qh2];simp only[qm2,qq8,qn7];omega
      rw[this]
     by_cases hc:Nh ds.length=true;rotate_left
     . have hc':Nh ds.length=false:=by simpa using hc
       refine Hz (by rw[if_pos rfl,cnt,hc'];rfl) ?_;have e2:E7 xs (.tup ds)=false:=by rw[Du];simp[hc']
       rw[e2]at k;exact k H (Same.refl H)
     refine Dt (by rw[if_pos rfl,cnt,hc];simp) ?_;have uE:ds.length<=4:=(Xn hc).1;refine⟨_,rfl,_,ds,rfl,.inr hd,?_⟩;refine⟨_,rfl,pa,rfl,⟨_,hq⟩,fun D hD=>?_⟩
     refine Dg (K:=K) (a:=pa) (xs:=us) (fun i ys τ H1=>Same H H1/\H1 D=some (.lst ys)/\ys=((ds.take i).map fun e=>V.bl (B6 xs e (By ds.length-1)))/\∃o,τ=[o,rS a,some (.int (By ds.length))])
      ⟨Same.new hD,Ab,rfl,none,rfl⟩ (fun i ys τ H1 _ ⟨s1,_⟩=>s1.seqT hq) ?_ ?_
     . rintro i x ys τ H1 hx ⟨s1,J9,hys,o,rfl⟩;have hi:i<us.length:=(qa2.mp hx).1;obtain⟨e,he,re⟩:=r.getV hx;refine⟨_,rfl,_,rfl,_,rfl,_,_,rfl,rfl,a,x,e,_,xs,rfl,Rep.same s1 hL,Rep.same s1 re,?_⟩;refine⟨J9,Bh (by rw[hys,qa1,qb5];omega),s1.turn hD,Ab,?_,_,rfl⟩;rw[qd6,he,qa6,hys];rfl
     . rintro ys τ H1 ⟨s1,J9,hys,_⟩;rw[ul,qb4]at hys;have qW:ys=(ds.map fun e=>B6 xs e (By ds.length-1)).map V.bl:=by rw[hys,qg6];rfl
       rw[qW]at J9;refine⟨D,_,rfl,.of J9,_,rfl,?_⟩;have OO:(ds.map fun e=>B6 xs e (By ds.length-1)).all id=ds.all fun e=>B6 xs e (By ds.length-1):=by rw[List.all_map];rfl
       by_cases ha:(ds.all fun e=>B6 xs e (By ds.length-1))=true;rotate_left
       . have ha':(ds.all fun e=>B6 xs e (By ds.length-1))=false:=by simpa using ha
         refine Hz (by rw[OO,ha'];rfl) ?_;have e2:E7 xs (.tup ds)=false:=by rw[Du];rw[ha',hc];rfl
         rw[e2]at k;exact k H1 s1
       refine Dt (by rw[OO,ha];simp) ?_;have e2:E7 xs (.tup ds)=(decide (By ds.length<2) || E1 xs (ds.map cO)):=by rw[Du];rw[ha,hc];rfl
       rw[e2]at k;refine⟨_,rfl,_,_,rfl,rfl,_,rfl,?_⟩;refine ite2 (fun h1=>?_) (fun h1=>?_)
       . have h2:(decide (By ds.length<2))=true:=h1;rw[h2]at k;exact k H1 s1
       . have h2:(decide (By ds.length<2))=false:=by simpa using h1
         rw[h2]at k;have hint:=Tb ha
         have tv:TI K H1 (.ref pa) (ds.map cO):=by
          have:=Rep.same s1 hd;rw[hint]at this;exact this
         refine⟨_,rfl,_,rfl,a,_,xs,ds.map cO,rfl,Rep.same s1 hL,tv,by simpa using uE,?_,k H1 s1⟩;intro f hf;rw[qd2]at ha
         have hm:L2.D.int f∈ds:=by
          rw[hint];exact qe2.mpr ⟨f,hf,rfl⟩
         have:=ha _ hm;simp only[B6,qc9,qh5]at this;obtain⟨⟨f0,f1⟩,f2⟩:=this;refine⟨f0,f1,?_⟩;rw[qa1];rw[C6,C6]at f2;have h3:¬By ds.length<2:=by simpa using h2
         rw[C6]at h3;omega
noncomputable abbrev d5:Stmt:=Ew 68
theorem y4:FnScope ["shape","thing","kept"] ["shape","thing"] (As d5):=Bb
theorem GQ{f:Addr}{fd:FuncData}(F:D5 K "away" "away" d5 f fd)(T:Txt K mg Aq)(Sl:Has P w K mg base "is_bent" ["shape","thing"] 3 (Rb K))(M9:Has P w K mg base "left_with" ["shape","kept"] 2 (Nr K)):Bt P w K mg base Dw 4 f fd ["shape","thing"] (x9 K):=by
 refine F.ok y4 (fun vs H Q E h=>?_) (fun Da A outer s H vs Q E hr h=>?_)
 . obtain⟨_,_,_,_,_,rfl,_⟩:=h;rfl
 . obtain⟨a,v,ys,i,j,rfl,hL,hyl,h4,hv,IU,hcl,k⟩:=h;have J5:=hr.u8;obtain⟨yu,QW,QV⟩:=LT.len hL
   refine⟨_,(Ad (Bj (Dx (Cq (Ak Sl hr (Aa (pv 0) (Aa (pv 1) Ac))))) (Ag Ea) Ax)
    (Ad (Ff (N':=["place","thing"]) (cap:=[none,some 1]) (i:=2) y4.nd (by rfl) (by first | exact Or.inl rfl | exact Or.inr rfl) (by rfl) (by kernel_rfl) (Bu (by rfl) T.n_range (Aa (Ao (Ai (K:=K)) T.n_len qe0 (Aa (pv 0) Ac)) Ac)) (fun _ _ _ _=>(Am (i:=0) i7)) (fun _ _ _ _=>(Ih (Aw (Fz (K:=K) J5) (pv 0) (pv 1) rfl))) (fun _ _ _ _=>(pv 0)))
    (Ag (Av (Bs (Aa (Ak M9 hr (Aa (pv 0) (Aa (pv 2) Ac))) (Aa (pv 2) Ac))))))),?_⟩
   refine qr5 (fun σ' H'=>σ'=[rS a,some v,none]/\Same H H') (fun key=>?_) ?_
   . refine⟨_,rfl,_,rfl,a,v,ys,[i,j],rfl,hL,hyl,h4,hv,by simp,fun H' s'=>?_⟩;rw[qe9 IU];refine⟨_,rfl,?_⟩;refine Dt (by simp) ?_;exact key _ _ ⟨rfl,s'⟩
   refine Q4 fun H1 s1=>?_;obtain⟨av,rfl,Qk⟩:=TI.sq hv;have rl:∀m:Nat,m<=ys.length->(Db m [i,j]).length<=m:=fun m _=>qe1 (qi1 ..) (by rw[C2];exact qa9 _);refine qr5 (fun σ' H'=>∃P:Addr,σ'=[rS a,rS av,rS P]/\Same H1 H'/\H1 P=none/\H' P=some (.lst ((Db ys.length [i,j]).map V.int))) (fun key=>?_) ?_
   . refine⟨_,rfl,a,yu,rfl,.inl (s1.seq QW),_,rfl,O9m,O9m,fun D hD=>?_⟩;rw[QV]
     refine C9 (n:=ys.length) (fun m ws τ G=>Same H1 G/\G D=some (.lst ws)/\ws=(Db m [i,j]).map V.int/\m<=ys.length/\∃o,τ=[o,rS av])
      ⟨Same.new hD,Ab,rfl,qb3 _,none,rfl⟩ ?_ ?_
     . rintro m ws τ G hm ⟨g,Bl,rfl,hml,o,rfl⟩;rw[show(0:Int)+(m:Int)=(m:Int) by omega];have sv:TI K G (.ref av) [i,j]:=qm4 (s1.trans g) hv
       have e5:Db (m+1) [i,j]=Db m [i,j]++(if (decide ((m:Int)≠i)&&decide ((m:Int)≠j))=true then [(m:Int)] else []):=by
        unfold Db;rw[G6,qi3]
        congr 1
        by_cases hz:(decide ((m:Int)≠i)&&decide ((m:Int)≠j))=true
        . rw[if_pos hz,qg7 (by exact hz),qf5]
        . rw[if_neg hz,qg3 (by exact hz),qf5]
       have hrl:=rl m hml;refine⟨_,rfl,_,rfl,.int (m:Int),Bx [i,j],rfl,.inr sv,(by rw[E8];decide),_,rfl,?_⟩
       have et:(if true=true then !((Bx [i,j]).any fun e=>eqD e (.int (m:Int))) else(Bx [i,j]).any fun e=>eqD e (.int (m:Int)))=(decide ((m:Int)≠i)&&decide ((m:Int)≠j)):=by
        rw[if_pos rfl];simp only[Bx,qf0,ql5,qi4,List.any_nil,eqD,qn7];rw[qh2];simp;omega
       rw[et];refine ite2 (fun h1=>?_) (fun h1=>?_)
       . refine⟨_,rfl,Bl,Bh (by rw[qa1];omega),g.turn hD,Ab,?_,O9m,_,rfl⟩;rw[e5,if_pos h1,qa6];rfl
       . refine⟨g,Bl,?_,O9m,_,rfl⟩;rw[e5,if_neg h1,qh7]
     . rintro ws τ G ⟨g,Bl,rfl,_,_⟩;exact key _ _ ⟨D,rfl,g,hD,Bl⟩
   refine Kf fun P H2 s2 nP hP=>?_;have s12:=s1.trans s2;have xX:=rl ys.length (qa9 _);refine⟨_,rfl,_,rfl,a,P,ys,Db ys.length [i,j],rfl,Rep.same s12 hL,.of hP,Rs _ _,N8,hcl,O9m,h4,fun L us H3 WZ s3 SA r3=>?_⟩;refine⟨_,rfl,Au (by simp),fun Rr RW=>?_⟩;have s4:=Same.new (o:=.tup [.ref L,.ref P]) RW;exact k Rr L P us _ ((s12.trans s3).trans s4) (s12.free WZ) (s1.free nP) Ab (s4 _ _ SA) (Reps.same s4 r3) ((s3.trans s4) _ _ hP)
noncomputable abbrev Kt:Stmt:=Ew 73
theorem V5:FnScope ["shape","thing"] ["shape","thing"] (As Kt):=Bb
theorem Wg{f:Addr}{fd:FuncData}(F:D5 K "is_gluing" "is_gluing" Kt f fd)(T:Txt K mg Aq)(Cl:Has P w K mg base "is_place_of_level" ["shape","thing","level"] 3 (D9 K))(El:Has P w K mg base "level_of" ["piece"] 1 (Di K))(C3:Has P w K mg base "is_whole_below" ["thing","bound"] 2 (Fc K)):Bt P w K mg base Dw 4 f fd ["shape","thing"] (Nt K):=by
 refine F.ok V5 (fun vs H Q E h=>?_) (fun Da A outer s H vs Q E hr h=>?_)
 . obtain⟨_,_,_,_,rfl,_⟩:=h;rfl
 . obtain⟨a,v,ys,z,rfl,hL,tv,hi,hj,he,k⟩:=h;obtain⟨xu,U9,Pj⟩:=LT.len hL;obtain⟨av,rfl,Qk⟩:=TI.sq tv;have Ow:Dv K H av [.int z.1,.int z.2]:=Qk
   refine⟨_,(Ad (Bj (PW.pt (Ru (Dx (Cq (Ao (Cf (K:=K)) T.n_isinstance Bn (Aa (pv 1) (Aa (Er (v:=.ty "tuple") rfl T.n_tuple C1 rfl) Ac))))) (Ru (Aw Uy (Ao (Ai (K:=K)) T.n_len qe0 (Aa (pv 1) Ac)) Af (A9 _)) (Rt (Dx (Cq (Ak C3 hr (Aa (Ap (Bc (K:=K)) (pv 1) Af (fun _ _=>rfl)) (Aa (Ao (Ai (K:=K)) T.n_len qe0 (Aa (pv 0) Ac)) Ac))))))))) (Ag (Av E3)) Ax)
    (Ag (Av (Ak Cl hr (Aa (pv 0) (Aa (Ap (Bc (K:=K)) (pv 1) Af (fun _ _=>rfl)) (Aa (Ak El hr (Aa (Ap (Ah (K:=K)) (pv 0) (Ap (Bc (K:=K)) (pv 1) Af (fun _ _=>rfl)) (fun _ _=>rfl)) Ac)) Ac))))))),?_⟩
   refine qr5 (fun σ' H'=>σ'=[rS a,rS av]/\H=H') (fun key=>?_) ?_
   . refine⟨_,rfl,.ref av,"tuple",tI (pr z),rfl,.inr (.inr (.inr (.inl rfl))),tv,_,rfl,?_⟩;refine Dt (by simp[Wv,tI]) ?_;refine⟨_,rfl,av,_,rfl,.inr Ow,rfl,_,rfl,?_⟩;refine Dt (by simp) ?_
     have e:Pt (.int z.1) (xu.length:Int)=true:=by
      show(decide (0<=z.1)&&decide (z.1<(xu.length:Int)))=true;rw[Pj];simp[hi.1,hi.2]
     refine⟨_,rfl,av,_,_,_,rfl,rfl,Ow,rfl,_,rfl,a,xu,rfl,.inl U9,_,.int z.1,_,rfl,rfl,_,rfl,?_⟩;refine Dt (by rw[e];simp) ?_;exact key _ _ ⟨rfl,rfl⟩
   refine L9 ?_;obtain⟨xq,vx,ED,iQ,jF⟩:=LT.get hL hi.1 hi.2
   have ep:B6 ys (.int z.2) (By (fc ys z.1).length)=true:=by
    show(decide (0<=z.2)&&decide (z.2<(ys.length:Int))&&decide (By (ys.getD z.2.toNat []).length=By (fc ys z.1).length))=true;have e2:(ys.getD z.2.toNat []).length=(fc ys z.1).length:=he.symm;rw[e2];simp[hj.1,hj.2]
   have el:(Bx (fc ys z.1)).length=(fc ys z.1).length:=qa1 ..;refine⟨_,rfl,_,rfl,av,_,_,_,rfl,rfl,Ow,rfl,_,rfl,_,rfl,av,_,_,_,rfl,rfl,Ow,rfl,a,xq,_,vx,rfl,rfl,ED,iQ,vx,Bx (fc ys z.1),rfl,.inr jF,a,_,.int z.2,_,ys,rfl,hL,rfl,?_⟩;rw[el,ep];exact k
noncomputable abbrev Mw:Stmt:=Ew 114
theorem Ie:FnScope ["thing","words","parts"] ["thing"] (As Mw):=Bb
theorem Ym{f:Addr}{fd:FuncData}(F:D5 K "words_of" "words_of" Mw f fd)(T:Txt K mg Aq)(W3:Has P w K mg base "is_row" ["words"] 3 (Ug K)):Bt P w K mg base Dw 4 f fd ["thing"] (Py K):=by
 refine F.ok Ie (fun vs H Q E h=>?_) (fun Da A outer s H vs Q E hr h=>?_)
 . obtain⟨_,_,rfl,_⟩:=h;rfl
 . obtain⟨x,ws,rfl,Fa,k⟩:=h
   have M7:x.length<=3100/\aP ws:=by
    cases Fa with
    | keep hn ht =>
      refine⟨?_,.keep hn⟩;rw[Cz,Cz,Cz];have:=hn.le;have e1:(wT "keep ").length=5:=by decide +kernel
      have e2:(wT " ").length=1:=by decide +kernel
      omega
    | other h=>exact⟨qe1 h.len (by decide),.other h⟩
   refine⟨_,(Ad (Bj (Dx (Cq (Ao (Cf (K:=K)) T.n_isinstance Bn (Aa (pv 0) (Aa (Er (v:=.ty "str") rfl T.n_str F5 rfl) Ac))))) (Ag Ea) Ax)
    (Ad (Al (i:=1) Ie.nd (B0 (K:=K) qd8 qk1 qk0 Jf (pv 0) (Aa Bg Ac)))
    (Ad (Bj (Cq (B0 (K:=K) qd8 PySem.F.slot_str_startswith PySem.F.type_str_startswith j7 (pv 0) (Aa Bg Ac))) (Ad (Al (i:=2) Ie.nd (B0 (K:=K) qd8 PySem.F.slot_str_partition PySem.F.type_str_partition dX (Ct a9 (pv 0) (Cw (Ao Kc T.n_len qe0 (Aa Bg Ac))) Ej) (Aa Bg Ac)))
    (Ag (Al (i:=1) Ie.nd (Cc (Aa Bg (Aa (Ap (Bc (K:=K)) (pv 2) Af (fun _ _=>rfl)) (Aa (Ap (Bc (K:=K)) (pv 2) Af (fun _ _=>rfl)) Ac))))))) Ax)
    (Ad (Bj (Dx (Cq (Ak W3 hr (Aa (pv 1) Ac)))) (Ag Ea) Ax)
    (Ag (Av (pv 1))))))),?_⟩
   refine⟨_,rfl,_,"str",.str _,rfl,.inr (.inr (.inl rfl)),rfl,_,rfl,?_⟩;refine Dt (by simp[Wv]) ?_;refine⟨_,rfl,rfl,_,_,rfl,rfl,by decide +kernel,Au O9m,fun l hl=>?_⟩;have s1:Same H (upd H l (.lst ((Txt.split x (Str.ofString " ")).map V.str))):=Same.new hl;have e1:upd H l (.lst ((Txt.split x (Str.ofString " ")).map V.str)) l=some (.lst ((Txt.split x (Str.ofString " ")).map V.str)):=Ab;generalize upd H l (.lst ((Txt.split x (Str.ofString " ")).map V.str))=H1 at s1 e1;refine Jb (fun σ' H'=>σ'=[some (.str x),rS l,none]/\H1=H') ?_ fun Wu=>Wu _ _ ⟨rfl,rfl⟩;refine L9 ?_;refine qr5 (fun σ' H'=>∃(l:Addr) (o:Option V),σ'=[some (.str x),rS l,o]/\Same H H'/\SqL K H' l (ws.map V.str)) (fun key=>?_) ?_
   . refine⟨_,rfl,rfl,_,_,rfl,rfl,_,rfl,?_⟩;obtain⟨eE,_⟩:=M7;cases Fa with
     | other h =>
       have es:Txt.split (Str.join (wT " ") ws) (Str.ofString " ")=ws:=h.split;rw[es]at e1;refine Dt (by rw[show Txt.startswith (Str.join (wT " ") ws) (Str.ofString "keep ")=false from h.starts];simp) ?_;exact key _ _ ⟨l,_,rfl,s1,.of e1⟩
     | @keep n t hn ht =>
       refine Hz (Z6 _ _) ?_
       have ec:CT (wT "keep "++(n++wT " "++t)) (some 5) none=n++wT " "++t:=by
        apply No;have h5:(wT "keep ").cps.toList.length=5:=by decide +kernel
        have:=cS (wT "keep "++(n++wT " "++t)) (a:=5) (by rw[←Ep,Cp,qb8,h5];omega);rw[show((5:Nat):Int)=5 from rfl]at this;rw[this,Cp,←h5,List.drop_left]
       have e5:((Str.ofString "keep ").length:Int)=5:=by decide +kernel
       have hl2:(n++wT " "++t).length<=3100:=by rw[Cz]at eE;omega
       refine⟨_,rfl,_,rfl,Au (by decide +kernel),_,rfl,_,rfl,?_⟩;rw[e5,ec];refine⟨Au O9m,rfl,_,_,rfl,rfl,by decide +kernel,Au O9m,fun p hp=>?_⟩;rw[show Yk (n++wT " "++t) (Str.ofString " ")=[n,Str.ofString " ",t] from BB hn.noblank];have s2:Same H1 (upd H1 p (.tup ([n,Str.ofString " ",t].map V.str))):=Same.new hp;have e2:upd H1 p (.tup ([n,Str.ofString " ",t].map V.str)) p=some (.tup ([n,Str.ofString " ",t].map V.str)):=Ab;generalize upd H1 p (.tup ([n,Str.ofString " ",t].map V.str))=H2 at s2 e2;refine⟨_,rfl,p,_,_,_,rfl,rfl,.of e2,rfl,_,rfl,p,_,_,_,rfl,rfl,.of e2,rfl,Au (by simp),fun q hq=>?_⟩;exact key _ _ ⟨q,_,rfl,(s1.trans s2).trans (Same.new hq),.of Ab⟩
   refine X0 fun q o H2 s2 hq=>?_;refine⟨_,rfl,q,ws,rfl,hq,M7.2,fun H3 s3=>⟨_,rfl,?_⟩⟩;refine Dt (by simp) ?_;exact⟨_,rfl,k q H3 (s2.trans s3) (s3.seq hq)⟩
noncomputable abbrev Pc:Stmt:=Ew 138
theorem Hg:FnScope ["_law_kind","_law_cells","_law_most","_law_pieces","_law_cell","_law_piece"] ["_law_kind","_law_cells","_law_most"] (As Pc):=Bb
theorem i3{f:Addr}{fd:FuncData}(F:D5 K "_law_built" "_law_built" Pc f fd)(T:Txt K mg Aq)(Ld:Has P w K mg base "_law_shape_by" ["_law_kind","_law_cells","_law_most"] 3 (P0 K))(Q0:Has P w K mg base "_law_fits" ["_law_pieces","_law_thing"] 2 (Uh K))(W7:Has P w K mg base "_law_next" ["_law_pieces","_law_cell"] 3 (Um K)):Bt P w K mg base Dw 4 f fd ["_law_kind","_law_cells","_law_most"] (Ui K):=by
 refine F.ok Hg (fun vs H Q E h=>?_) (fun Da A outer s H vs Q E hr h=>?_)
 . obtain⟨_,_,_,_,rfl,_⟩:=h;rfl
 . obtain⟨cl,ns,kind,most,rfl,hS,hl,hm0,hm1,k⟩:=h
   refine⟨_,(Ad (Al (i:=3) Hg.nd (Cc Ac))
    (Ad (Bj (Aw Cb (Ay Cd (pv 0) Af) Af (A9 _)) (Ad (Ce qc3 rfl (Bi (K:=K) (pv 1)) (Am (i:=4) Hg.nd) (Ag (Bj (Aw N9 (Ao (Ai (K:=K)) T.n_len qe0 (Aa (pv 3) Ac)) (pv 2) (A9 _)) (Ad (Al (i:=5) Hg.nd (Ak W7 hr (Aa (pv 3) (Aa (Ay Dl (Ay Cd (pv 4) Af) (Ay op_mulX Af (Ao (Ai (K:=K)) T.n_len qe0 (Aa (pv 3) Ac)))) Ac))))
    (Ag (Bj (Cq (Ak Q0 hr (Aa (pv 3) (Aa (pv 5) Ac)))) (Ag (C5 (B0 (K:=K) qc5 qd4 qd3 Ch (pv 3) (Aa (pv 5) Ac)))) Ax))) Ax)))
    (Ag (Av (pv 3)))) Ax)
    (Ad (Ce qc3 rfl (Bi (K:=K) (Ak Ld hr (Aa (Ay Ek (pv 0) Af) (Aa (pv 1) (Aa (pv 2) Ac))))) (Am (i:=5) Hg.nd) (Ag (Bj (PW.pt (K1 (Aw N9 (Ao (Ai (K:=K)) T.n_len qe0 (Aa (pv 3) Ac)) (pv 2) (A9 _)) (Jz (Cq (Ak Q0 hr (Aa (pv 3) (Aa (pv 5) Ac))))))) (Ag (C5 (B0 (K:=K) qc5 qd4 qd3 Ch (pv 3) (Aa (pv 5) Ac)))) Ax)))
    (Ag (Av (pv 3)))))),?_⟩
   refine⟨qb3 _,fun D hD=>?_⟩;have s0:Same H (upd H D (.lst [])):=Same.new hD;have HN:(upd H D (.lst [])) D=some (.lst []):=Ab;generalize upd H D (.lst [])=H0 at s0 HN;refine Jb (fun σ' H'=>σ'=[iS kind,rS cl,iS most,rS D,none,none]/\H0=H') ?_ fun Wu=>Wu _ _ ⟨rfl,rfl⟩;refine L9 ?_;refine qr5 (fun σ' H'=>σ'=[iS kind,rS cl,iS most,rS D,none,none]/\H0=H') (fun key=>?_) ?_
   . refine⟨_,rfl,_,_,rfl,rfl,(by show(0:Int)<2;decide),rfl,_,rfl,?_⟩;refine ite2 (fun _=>?_) (fun _=>key _ _ ⟨rfl,rfl⟩)
     refine⟨_,rfl,cl,rfl,⟨_,s0.seq hS⟩,for_list (K:=K) (a:=cl) (xs:=ns.map V.int) (fun j σ G=>∃(du:List V) (xs:LLInt) (o4 o5:Option V),σ=[iS kind,rS cl,iS most,rS D,o4,o5]/\Same H G/\G D=some (.lst du)/\Reps K G du (xs.map tI)/\Br xs/\(xs.length:Int)<=most)
      ⟨[],[],none,none,rfl,s0,HN,rfl,Up,by simpa using hm0⟩ (fun j σ G _ ⟨_,_,_,_,_,g,_⟩=>g.seq hS) ?_ ?_⟩
     . rintro j x σ G hx ⟨du,xs,o4,o5,rfl,g,Bl,rD,hC,M7⟩;have hjn:j<ns.length:=by have:=(qa2.mp hx).1;simpa using this
       have hxv:x=.int ns[j]:=by
        rw[qa3,qa0 hjn]at hx;simpa using hx.symm
       subst hxv;have LZ:du.length=xs.length:=by have:=rD.length;simpa using this
       refine⟨_,rfl,D,_,rfl,.inl (.of Bl),_,rfl,_,_,rfl,rfl,_,rfl,?_⟩;refine ite2 (fun h1=>?_) (fun h1=>⟨du,xs,_,_,rfl,g,Bl,rD,hC,O9m⟩);have h1:(xs.length:Int)<most:=by rw[LZ]at h1;simpa using h1
       refine⟨_,rfl,_,rfl,_,_,rfl,rfl,(by show(0:Int)<1000003;decide),_,rfl,D,_,rfl,.inl (.of Bl),_,_,rfl,rfl,DS (by decide) (by decide),_,_,rfl,rfl,D,xs,_,rfl,⟨D,du,rfl,.of Bl,rD⟩,Jc hC,O9m,fun w p G1 g1 tw=>?_⟩;have Qr:=g1 _ _ Bl;have nG:=Reps.same g1 rD;refine⟨_,rfl,_,rfl,D,w,.d (tI p),xs,rfl,⟨D,du,rfl,.of Qr,nG⟩,Jc hC,O9m,tw,fun G2 g2=>?_⟩;have gg:=g.trans (g1.trans g2);have Pn:=g2 _ _ Qr;have IL:=Reps.same g2 nG;refine⟨_,rfl,?_⟩;refine ite2 (fun h2=>?_) (fun h2=>⟨du,xs,_,_,rfl,gg,Pn,IL,hC,O9m⟩);refine⟨_,rfl,.inl ⟨rfl,_,.of Pn⟩,_,rfl,D,_,_,rfl,rfl,Pn,Bh O9m,?_⟩;exact⟨_,xs++[p],_,_,rfl,gg.turn hD,Ab,C4 Pn IL (qm4 g2 tw),Rg hC (AH (Jc hC) h2),by rw[qb8];simp;omega⟩
     . rintro σ G ⟨du,xs,o4,o5,rfl,g,Bl,rD,hC,M7⟩;exact⟨_,rfl,k D du xs G hD g Bl rD hC O9m⟩
   refine L9 ?_;refine⟨_,rfl,_,_,rfl,rfl,⟨by decide,by decide⟩,_,rfl,_,rfl,cl,ns,_,most,rfl,s0.seq hS,hl,hm0,O9m,fun W wu G0 zs hW g0 oA rW hsh pF=>?_⟩;have xJ:=s0.trans g0;have ML:wu.length=zs.length:=by have:=rW.length;simpa using this
   refine⟨W,rfl,⟨_,.of oA⟩,for_list (K:=K) (a:=W) (xs:=wu) (fun j σ G=>∃(du:List V) (xs:LLInt) (o5:Option V),σ=[iS kind,rS cl,iS most,rS D,none,o5]/\Dk D G0 G/\G D=some (.lst du)/\Reps K G du (xs.map tI)/\Br xs/\(xs.length:Int)<=most)
    ⟨[],[],none,rfl,Dk.refl _ _,g0 _ _ HN,rfl,Up,by simpa using hm0⟩ (fun j σ G _ ⟨_,_,_,_,g,_⟩=>.of (g _ _ (Be HN hW).symm oA)) ?_ ?_⟩
   . rintro j x σ G hx ⟨du,xs,o5,rfl,g,Bl,rD,hC,M7⟩;have hj:j<wu.length:=(qa2.mp hx).1;have WN:j<zs.length:=O9m
     have hjx:(zs.map tI)[j]?=some (tI zs[j]):=by rw[qa3,qa0 WN];rfl
     obtain⟨x',hx',tx⟩:=rW.get hjx;rw[hx]at hx';cases hx';have pW:TI K G x zs[j]:=TI.t (g.t (g0 _ _ HN)) tx;generalize zs[j]=p at pW;have LZ:du.length=xs.length:=by have:=rD.length;simpa using this
     refine⟨_,rfl,D,_,rfl,.inl (.of Bl),_,rfl,_,_,rfl,rfl,_,rfl,?_⟩;refine ite2 (fun h1=>?_) (fun h1=>?_);rotate_left
     . refine Dt (by simp) ?_;exact⟨du,xs,_,rfl,g,Bl,rD,hC,O9m⟩
     have h1:(xs.length:Int)<most:=by rw[LZ]at h1;simpa using h1
     refine⟨_,rfl,_,rfl,D,x,.d (tI p),xs,rfl,⟨D,du,rfl,.of Bl,rD⟩,Jc hC,O9m,pW,fun G2 g2=>?_⟩;have Pn:=g2 _ _ Bl;have IL:=Reps.same g2 rD;have gx:=g.trans (Dk.of g2);refine⟨_,rfl,?_⟩;refine ite2 (fun h2=>?_) (fun h2=>⟨du,xs,_,rfl,gx,Pn,IL,hC,O9m⟩);refine⟨_,rfl,.inl ⟨rfl,_,.of Pn⟩,_,rfl,D,_,_,rfl,rfl,Pn,Bh O9m,?_⟩;exact⟨_,xs++[p],_,rfl,gx.upd,Ab,C4 Pn IL (qm4 g2 pW),Rg hC (AH (Jc hC) h2),by rw[qb8];simp;omega⟩
   . rintro σ G ⟨du,xs,o5,rfl,g,Bl,rD,hC,M7⟩;exact⟨_,rfl,k D du xs G hD (g.same xJ hD) Bl rD hC O9m⟩
noncomputable abbrev Hj:Stmt:=Ew 42
theorem Ge:FnScope ["pieces","place","piece"] ["pieces"] (As Hj):=Bb
theorem Qm{f:Addr}{fd:FuncData}(F:D5 K "first_misfit" "first_misfit" Hj f fd)(T:Txt K mg Aq)(eK:Has P w K mg base "fits" ["shape","thing"] 4 (w9 K)):Bt P w K mg base Dw 5 f fd ["pieces"] (Kg K):=by
 refine F.ok Ge (fun vs H Q E h=>?_) (fun Da A outer s H vs Q E hr h=>?_)
 . obtain⟨_,_,rfl,_⟩:=h;rfl
 . obtain⟨v,xs,rfl,hL,hs,hx,k⟩:=h;obtain⟨a,us,rfl,hq,r⟩:=id hL;have hl:us.length=xs.length:=by have:=r.length;simpa using this
   refine⟨_,(Ad (Ce qc3 rfl (Ij (K:=K) (by rfl) T.n_enumerate (Aa (pv 0) Ac)) (Fj (K:=K) (n:=2) (by rfl) (B4 (Am (i:=1) Ge.nd) (B4 (Am (i:=2) Ge.nd) Fg))) (Ag (Bj (Dx (Cq (Ak eK hr (Aa (Ct (Je (K:=K)) (pv 0) Ej (Cw (pv 1))) (Aa (pv 2) Ac))))) (Ag (Av (pv 1))) Ax)))
    (Ag (Av DF))),?_⟩
   refine⟨_,rfl,a,rfl,⟨us,hq⟩,?_⟩
   refine Li (K:=K) (a:=a) (xs:=us) (fun i σ G=>∃o1 o2,σ=[rS a,o1,o2]/\Same H G)
    ⟨none,none,rfl,Same.refl H⟩ (fun i σ G _ ⟨_,_,_,s1⟩=>s1.seq hq) ?_ ?_
   . rintro i v σ G p hv ⟨o1,o2,rfl,s1⟩ hp;have hi:i<xs.length:=by have:=(qa2.mp hv).1;omega
     obtain⟨dv,Sg,rv⟩:=r.getV hv
     have BR:dv=tI xs[i]:=by
      rw[qa3,qa0 hi]at Sg;simpa using Sg.symm
     subst BR;have sp:Same G (upd G p (.tup [.int i,v])):=Same.new hp;refine⟨p,_,rfl,.of Ab,rfl,_,_,rfl,_,_,rfl,rfl,?_⟩;generalize upd G p (.tup [.int i,v])=G1 at sp;have s2:=s1.trans sp;refine⟨_,rfl,_,rfl,_,rfl,a,us,rfl,s2.seq hq,fun c hc=>?_⟩;have s3:Same G1 (upd G1 c (.lst (cutV us none (some (i:Int))))):=Same.new hc;have ec:upd G1 c (.lst (cutV us none (some (i:Int)))) c=some (.lst (cutV us none (some (i:Int)))):=Ab;generalize upd G1 c (.lst (cutV us none (some (i:Int))))=G2 at s3 ec;have s4:=s2.trans s3
     have rO:LT K G2 (.ref c) (xs.take i):=by
      refine⟨c,_,rfl,.of ec,?_⟩;rw[Lj,ql9];exact(Reps.same s4 r).take i
     refine⟨_,rfl,c,v,tI xs[i],xs.take i,rfl,rO,Rep.same s4 rv,fun G3 s5=>⟨_,rfl,?_⟩⟩;rw[eT (hs i xs[i] (qa0 hi))];refine Dt (by decide) ?_;exact⟨_,_,rfl,s4.trans s5⟩
   . rintro σ G ⟨o1,o2,rfl,s1⟩;exact k G s1
noncomputable abbrev c9:Stmt:=Ew 70
theorem F7:FnScope ["shape","left","kept","pairs","found","least","smaller"] ["shape"] (As c9):=Bb
theorem GP{f:Addr}{fd:FuncData}(F:D5 K "core" "core" c9 f fd)(T:Txt K mg Aq)(Sm:Has P w K mg base "bent" ["shape"] 2 (V2 K))(EL:Has P w K mg base "away" ["shape","thing"] 4 (x9 K)):Bt P w K mg base Dw 5 f fd ["shape"] (x8 K):=by
 refine F.ok F7 (fun vs H Q E h=>?_) (fun Da A outer s H vs Q E hr h=>?_)
 . obtain⟨_,_,rfl,_⟩:=h;rfl
 . obtain⟨a,xs,rfl,hL,M7,h4,Zv,k⟩:=h;obtain⟨xu,U9,Pj⟩:=LT.len hL
   refine⟨_,(Ad (Al (i:=1) F7.nd (pv 0))
    (Ad (Al (i:=2) F7.nd (J0 (by rfl) (by rfl) T.n_list (by rfl) T.n_range (Aa (Ao (Ai (K:=K)) T.n_len qe0 (Aa (pv 0) Ac)) Ac)))
    (Ad (Al (i:=3) F7.nd (Cc Ac))
    (Ad (Al (i:=4) F7.nd (Ak Sm hr (Aa (pv 1) Ac)))
    (Ad (Rv qc3 (Aw U1 (Ao (Ai (K:=K)) T.n_len qe0 (Aa (pv 4) Ac)) Af (A9 _)) (Ad (Al (i:=5) F7.nd (Ap (Ah (K:=K)) (pv 4) Af (fun _ _=>rfl)))
    (Ad (C5 (B0 (K:=K) qc5 qd4 qd3 Ch (pv 3) (Aa (Bs (Aa (Ap (Ah (K:=K)) (pv 2) (Ap (Bc (K:=K)) (pv 5) Af (fun _ _=>rfl)) (fun _ _=>rfl)) (Aa (Ap (Ah (K:=K)) (pv 2) (Ap (Bc (K:=K)) (pv 5) Af (fun _ _=>rfl)) (fun _ _=>rfl)) Ac))) Ac)))
    (Ad (Al (i:=6) F7.nd (Ak EL hr (Aa (pv 1) (Aa (pv 5) Ac))))
    (Ad (Al (i:=1) F7.nd (Ap (Bc (K:=K)) (pv 6) Af (fun _ _=>rfl)))
    (Ad (Al (i:=2) F7.nd (Bm (N':=["place","kept"]) (cap:=[none,some 2]) (by rfl) (by kernel_rfl) (Bi (K:=K) (Ap (Bc (K:=K)) (pv 6) Af (fun _ _=>rfl))) (fun _ _ _ _=>(Am (i:=0) kM)) (fun _ _ _ _=>Bk) (fun _ _ _ _=>(Ap (Ah (K:=K)) (pv 1) (pv 0) (fun _ _=>rfl)))))
    (Ag (Al (i:=4) F7.nd (Ak Sm hr (Aa (pv 1) Ac))))))))))
    (Ag (Av (Bs (Aa (Cg (Ga (K:=K)) (by rfl) T.n_list Ez (Aa (pv 1) Ac)) (Aa (pv 2) (Aa (pv 3) Ac))))))))))),?_⟩
   obtain⟨n,hn⟩:∃n,n=xs.length:=⟨_,rfl⟩
   refine qr5 (fun σ' H'=>σ'=[rS a,rS a,none,none,none,none,none]/\H=H') (fun key=>?_) ?_
   . exact⟨_,rfl,key _ _ ⟨rfl,rfl⟩⟩
   refine L9 ?_;refine qr5 (fun σ' H'=>∃P:Addr,σ'=[rS a,rS a,rS P,none,none,none,none]/\Same H H'/\H P=none/\H' P=some (.lst ((Go n).map V.int))) (fun key=>?_) ?_
   . refine⟨_,rfl,a,xu,rfl,.inl U9,xu.length,rfl,O9m,fun P hP=>?_⟩;rw[Pj,←hn];exact key _ _ ⟨P,rfl,Same.new hP,hP,Ab⟩
   refine Kf fun P H1 s1 nP hP=>?_;refine qr5 (fun σ' H'=>∃M:Addr,σ'=[rS a,rS a,rS P,rS M,none,none,none]/\Same H H'/\H M=none/\P≠M/\H' P=some (.lst ((Go n).map V.int))/\H' M=some (.lst [])) (fun key=>?_) ?_
   . refine⟨qb3 _,fun M hM=>?_⟩;have g:Same H1 (upd H1 M (.lst [])):=Same.new hM;exact key _ _ ⟨M,rfl,s1.trans g,s1.free hM,Be hP hM,g _ _ hP,Ab⟩
   refine cN fun M H2 s2 nM QS KZ wZ=>?_;refine qr5 (fun σ' H'=>∃(F:Addr) (fu:List V),σ'=[rS a,rS a,rS P,rS M,rS F,none,none]/\Same H2 H'/\H' F=some (.lst fu)/\Reps K H' fu ((Fp xs).map tI)) (fun key=>?_) ?_
   . refine⟨_,rfl,a,xs,rfl,Rep.same s2 hL,M7,h4,fun F fu H' hF s' sG rF=>?_⟩;exact key _ _ ⟨F,fu,rfl,s',sG,rF⟩
   refine Ja fun F fu H3 s3 hF rF=>?_;have sP:An n (fun _=>true)=Go n:=Y1 n;have LG:Eh xs (An n (fun _=>true))=xs:=by rw[sP,hn];exact FT Zv
   have hclo:Qi xs (An n (fun _=>true)):=by rw[hn];exact AK Zv
   refine Aj (fun σ' H'=>∃(A P F:Addr) (mu:List V) (o5 o6:Option V) (fl:Int->Bool) (acc:LLInt),σ'=[rS a,rS A,rS P,rS M,rS F,o5,o6]/\Same H H'/\H P=none/\LT K H' (.ref A) (Eh xs (An n fl))/\H' P=some (.lst ((An n fl).map V.int))/\H' M=some (.lst mu)/\Reps K H' mu (acc.map tI)/\(∀p∈acc,p.length=2) ∧
    Eg xs (An n fl)=[]/\Qi xs (An n fl)/\D4 xs n n (fun _=>true) []=(fl,acc)) ?_ fun key=>?_
   rotate_left
   . refine⟨fun m σ G=>∃(A P F:Addr) (fu mu:List V) (o5 o6:Option V) (fl:Int->Bool) (acc:LLInt) (q:Nat),σ=[rS a,rS A,rS P,rS M,rS F,o5,o6]/\Same H G/\H P=none/\P≠M/\LT K G (.ref A) (Eh xs (An n fl))/\(∀o,LT K (upd G M (.lst o)) (.ref A) (Eh xs (An n fl)))/\G P=some (.lst ((An n fl).map V.int)) ∧
      G M=some (.lst mu)/\Reps K G mu (acc.map tI)/\(∀p∈acc,p.length=2)/\G F=some (.lst fu)/\Reps K G fu ((Fp (Eh xs (An n fl))).map tI)/\Qi xs (An n fl)/\(An n fl).length=m/\m<=q/\acc.length+m<=n/\D4 xs n q fl acc=D4 xs n n (fun _=>true) [],⟨n,a,P,F,fu,[],none,none,fun _=>true,[],n,rfl,s2.trans s3,nP,QS,?_,?_,?_,s3 _ _ wZ,rfl,fun p hp=>(by cases hp),hF,?_,hclo,?_,qa9 _,?_,rfl⟩,?_⟩
     . rw[LG];exact Rep.same (s2.trans s3) hL
     . intro o;rw[LG];exact Rep.same ((s2.trans s3).turn nM) hL
     . rw[sP];exact s3 _ _ KZ
     . rw[LG];exact rF
     . rw[sP,C2]
     . simp
     rintro m σ G ⟨A,P,F,fu,mu,o5,o6,fl,acc,q,rfl,g,nP,QS,hA,xE,hP,hM,rM,two,hF,rF,hc,hm,WL,hal,K9⟩;have hyl:(Eh xs (An n fl)).length=(An n fl).length:=Fb ..;have Se:=Fl n fl;have xK:fu.length=(Fp (Eh xs (An n fl))).length:=by have:=rF.length;simpa using this
     refine⟨_,rfl,F,_,rfl,.inl (.of hF),_,_,rfl,rfl,_,rfl,?_⟩;refine ite2 (fun h1=>?_) (fun h1=>?_);rotate_left
     . have hz:(Fp (Eh xs (An n fl))).length=0:=by
        have:¬(0:Int)<(fu.length:Int):=by simpa using h1
        omega
       have hz2:Fp (Eh xs (An n fl))=[]:=qn5.mp hz;have iU:Eg xs (An n fl)=[]:=by rw[←Zr (M5 n fl) hc,hz2];rfl
       exact key _ _ ⟨A,P,F,mu,_,_,fl,acc,rfl,g,nP,hA,hP,hM,rM,two,iU,hc,by rw[←K9];exact S1 iU q⟩
     obtain⟨p0,r0,hb⟩:∃p0 r0,Fp (Eh xs (An n fl))=p0::r0:=by
      cases hq:Fp (Eh xs (An n fl)) with
      | nil =>
        exfalso
        rw[hq,qh1]at xK;have:(0:Int)<(fu.length:Int):=by simpa using h1
        omega
      | cons p0 r0=>exact⟨p0,r0,rfl⟩
     obtain⟨i,j,rfl,i0,i1,j0,j1,⟨r',iU⟩,hrest,hc2,hcs,hss,hlt⟩:=cA hc hb;rw[hb]at rF;obtain⟨v,pQ,sQ,rv,_⟩:=rF;subst sQ;obtain⟨av,rfl,Qk⟩:=TI.sq (show TI K G v [i,j] from rv);have hv:TI K G (.ref av) [i,j]:=rv
     refine⟨fun σ' H'=>∃m',m'<m/\∃(A P F:Addr) (fu mu:List V) (o5 o6:Option V) (fl:Int->Bool) (acc:LLInt) (q:Nat),σ'=[rS a,rS A,rS P,rS M,rS F,o5,o6]/\Same H H'/\H P=none/\P≠M/\LT K H' (.ref A) (Eh xs (An n fl))/\(∀o,LT K (upd H' M (.lst o)) (.ref A) (Eh xs (An n fl)))/\H' P=some (.lst ((An n fl).map V.int)) ∧
      H' M=some (.lst mu)/\Reps K H' mu (acc.map tI)/\(∀p∈acc,p.length=2)/\H' F=some (.lst fu)/\Reps K H' fu ((Fp (Eh xs (An n fl))).map tI)/\Qi xs (An n fl)/\(An n fl).length=m'/\m'<=q/\acc.length+m'<=n/\D4 xs n q fl acc=D4 xs n n (fun _=>true) [],fun _ _ z=>z,?_⟩
     refine Aj (fun σ' H'=>σ'=[rS a,rS A,rS P,rS M,rS F,rS av,o6]/\G=H') ?_ fun L6=>?_;rotate_left
     . refine⟨_,rfl,F,_,_,_,rfl,rfl,.of hF,(show Io (V.ref av::pQ) 0=some (.ref av) from Ca (j:=0) rfl),?_⟩;exact L6 _ _ ⟨rfl,rfl⟩
     rintro _ _ ⟨rfl,rfl⟩;generalize hki:Dc (An n fl) i=ki at iU hrest hc2 hss hlt;generalize hkj:Dc (An n fl) j=kj at iU hrest hc2 hss hlt;have mC:Io ((An n fl).map V.int) i=some (.int ki):=by rw[←hki];exact Dz i0 i1
     have pT:Io ((An n fl).map V.int) j=some (.int kj):=by rw[←hkj];exact Dz j0 j1
     have mul:mu.length=acc.length:=by have:=rM.length;simpa using this
     refine Aj (fun σ' H'=>∃pC,σ'=[rS a,rS A,rS P,rS M,rS F,rS av,o6]/\Same H H'/\H' M=some (.lst pC)/\Reps K H' pC ((acc++[[ki,kj]]).map tI)/\TI K H' (.ref av) [i,j]/\LT K H' (.ref A) (Eh xs (An n fl))/\H' P=some (.lst ((An n fl).map V.int))) ?_ fun L6=>?_;rotate_left
     . refine⟨_,rfl,.inl ⟨rfl,_,.of hM⟩,_,rfl,_,rfl,av,_,_,_,rfl,rfl,Qk,rfl,P,_,_,_,rfl,rfl,.of hP,mC,_,rfl,_,rfl,av,_,_,_,rfl,rfl,Qk,rfl,P,_,_,_,rfl,rfl,.of hP,pT,Au (by simp),fun T1 hT1=>?_⟩;have g1:Same G (upd G T1 (.tup [.int ki,.int kj])):=Same.new hT1;have v1:(upd G T1 (.tup [.int ki,.int kj])) T1=some (.tup [.int ki,.int kj]):=Ab
       have oF:∀o,LT K (upd (upd G T1 (.tup [.int ki,.int kj])) M (.lst o)) (.ref A) (Eh xs (An n fl)):=fun o=>by
        have e:upd (upd G T1 (.tup [.int ki,.int kj])) M (.lst o)=upd (upd G M (.lst o)) T1 (.tup [.int ki,.int kj]):=by
         funext b
         have VR:T1≠M:=(Be hM hT1).symm;by_cases e1:b=M
         . subst e1;rw[Ab,A8 VR.symm,Ab]
         . rw[A8 e1];by_cases e2:b=T1
           . subst e2;rw[Ab,Ab]
           . rw[A8 e2,A8 e2,A8 e1]
        rw[e];refine Rep.same (Same.new ?_) (xE o);rw[A8 (Be hM hT1).symm];exact hT1
       generalize upd G T1 (.tup [.int ki,.int kj])=G1 at g1 v1 oF;have HK:=g1 _ _ hM;have sx:Dk M G1 (upd G1 M (.lst (mu++[.ref T1]))):=(Dk.refl M G1).upd;refine⟨M,_,_,rfl,rfl,HK,Bh O9m,?_⟩;refine L6 _ _ ⟨_,rfl,(g.trans g1).turn nM,Ab,C4 HK (Reps.same g1 rM) (TI.mk (.of v1)),TI.t (sx.t HK) (qm4 g1 hv),oF _,by rw[A8 QS];exact g1 _ _ hP⟩
     refine MJ fun pC G1 g1 HK vK FI XE oB=>?_;refine Aj (fun σ' H'=>∃(R1 L1 P1:Addr) (us:List V),σ'=[rS a,rS A,rS P,rS M,rS F,rS av,rS R1]/\Same G1 H'/\G1 L1=none/\H' R1=some (.tup [.ref L1,.ref P1])/\H' L1=some (.lst us)/\Reps K H' us ((Eh xs (An n (without fl [ki,kj]))).map tI)/\H' P1=some (.lst ((Db (An n fl).length [i,j]).map V.int))) ?_ fun L6=>?_;rotate_left
     . refine⟨_,rfl,_,rfl,A,.ref av,Eh xs (An n fl),i,j,rfl,XE,O9m,v9 h4,FI,by rw[hb];exact qd9 ..,by rw[hyl];exact hcs,fun R1 L1 P1 us H' s' nL XZ hR HL rL OA=>?_⟩;rw[hyl]at rL OA;rw[hss]at rL;exact L6 _ _ ⟨R1,L1,P1,us,rfl,s',nL,hR,HL,rL,OA⟩
     refine MI fun R1 L1 P1 us G2 g2 vU PK HL tO KZ=>?_;refine Aj (fun σ' H'=>σ'=[rS a,rS L1,rS P,rS M,rS F,rS av,rS R1]/\G2=H') ?_ fun L6=>?_;rotate_left
     . refine⟨_,rfl,R1,_,_,_,rfl,rfl,.of PK,rfl,?_⟩;exact L6 _ _ ⟨rfl,rfl⟩
     rintro _ _ ⟨rfl,rfl⟩;have RX:=g2 _ _ oB;have OC:=g2 _ _ HK;refine Aj (fun σ' H'=>∃D:Addr,σ'=[rS a,rS L1,rS D,rS M,rS F,rS av,rS R1]/\Same G2 H'/\G2 D=none/\H' D=some (.lst ((An n (without fl [ki,kj])).map V.int))) ?_ fun L6=>?_;rotate_left
     . refine⟨_,rfl,R1,_,_,_,rfl,rfl,.of PK,rfl,P1,rfl,⟨_,.of KZ⟩,fun D hD=>?_⟩
       refine Bp (K:=K) (a:=P1) (xs:=(Db (An n fl).length [i,j]).map V.int) (fun t ws τ G3=>Same G2 G3/\G3 D=some (.lst ws)/\ws=(((Db (An n fl).length [i,j]).take t).map (Dc (An n fl))).map V.int/\∃o,τ=[o,rS P])
        ⟨Same.new hD,Ab,rfl,none,rfl⟩ (fun t ws τ G3 _ ⟨g3,_⟩=>.of (g3 _ _ KZ)) ?_ ?_
       . rintro t x ws τ G3 hx ⟨g3,Bl,hws,o,rfl⟩;have ht:t<(Db (An n fl).length [i,j]).length:=by have:=(qa2.mp hx).1;simpa using this
         have hxv:x=.int (Db (An n fl).length [i,j])[t]:=by
          rw[qa3,qa0 ht]at hx;simpa using hx.symm
         subst hxv;obtain⟨x0,x1⟩:=N8 _ (qc8 ht)
         have e5:((Db (An n fl).length [i,j]).take (t+1)).map (Dc (An n fl))=((Db (An n fl).length [i,j]).take t).map (Dc (An n fl))++[Dc (An n fl) (Db (An n fl).length [i,j])[t]]:=by
          rw[qd6,qa0 ht,qa6];rfl
         have hwl:ws.length<=1000:=by
          rw[hws,qa1,qa1,qb5];have:(Db (An n fl).length [i,j]).length<=(An n fl).length:=qe1 (qi1 ..) (by rw[C2];exact qa9 _);omega
         generalize (Db (An n fl).length [i,j])[t]=x at x0 x1 e5;refine⟨_,rfl,_,rfl,P,_,_,_,rfl,rfl,.of (g3 _ _ RX),Dz x0 x1,Bl,Bh O9m,g3.turn hD,Ab,?_,_,rfl⟩;rw[e5,qa6,hws];rfl
       . rintro ws τ G3 ⟨g3,Bl,hws,_⟩;rw[qa1,qb4,hrest]at hws;exact L6 _ _ ⟨D,rfl,g3,hD,by rw[Bl,hws]⟩
     refine Kf fun D G3 g3 nD EM=>?_;have VT:L1≠M:=(Be HK vU).symm;have vV:D≠M:=(Be OC nD).symm;have UU:∀G',Same G2 G'->LT K G' (.ref L1) (Eh xs (An n (without fl [ki,kj]))):=fun G' g'=>⟨L1,us,rfl,.of (g' _ _ HL),Reps.same g' tO⟩
     have XI:=g1.trans (g2.trans g3);refine⟨_,rfl,L1,Eh xs (An n (without fl [ki,kj])),rfl,UU _ g3,by rw[Fb];omega,v9 h4,fun F2 SM G4 pM g4 LC QM=>?_⟩;have OG:=g3.trans g4;have lA:=OG _ _ OC;obtain⟨q',rfl⟩:∃q',q=q'+1:=⟨q-1,O9m⟩
     refine⟨_,hm▸hlt,L1,D,F2,SM,pC,_,_,without fl [ki,kj],acc++[[ki,kj]],q',rfl,XI.trans g4,g1.free (g2.free nD),vV,UU _ OG,fun o=>?_,g4 _ _ EM,lA,Reps.same (g2.trans OG) vK,fun p hp=>?_,LC,QM,hc2,rfl,O9m,by rw[qb8,qk5];omega,?_⟩
     . have sx:Dk M G4 (upd G4 M (.lst o)):=(Dk.refl M G4).upd;exact⟨L1,us,rfl,.of (by rw[A8 VT];exact OG _ _ HL),Reps.t (sx.t lA) (Og _) (Reps.same OG tO)⟩
     . rcases qd5.mp hp with z | z
       . exact two p z
       . rw[qd1]at z;subst z;rfl
     . rw[←K9];exact(Pr iU).symm
   refine JD fun A P' F' mu o5 o6 fl acc H4 s4 VS hA WY lA VJ two iU hc K9=>?_;obtain⟨_,us,z,XD,rA⟩:=id hA;cases z;refine⟨_,rfl,A,us,rfl,.inl XD,fun L hL'=>?_⟩;have g1:Same H4 (upd H4 L (.lst us)):=Same.new hL';have v1:(upd H4 L (.lst us)) L=some (.lst us):=Ab;generalize upd H4 L (.lst us)=H5 at g1 v1;refine⟨_,rfl,_,rfl,Au (by simp),fun Rr RW=>?_⟩;have g2:=Same.new (o:=.tup [.ref L,.ref P',.ref M]) RW;have oH:=g1.trans g2;subst hn;refine k Rr L P' M us mu _ (s4.trans oH) (s4.free hL') VS nM Ab (g2 _ _ v1) ?_ ?_ (oH _ _ lA) ?_ ?_ ?_ ?_
   . rw[K9];exact Reps.same oH rA
   . rw[K9];exact oH _ _ WY
   . rw[K9];exact Reps.same oH VJ
   . rw[K9];exact iU
   . rw[K9];exact hc
   . rw[K9];exact two
noncomputable abbrev My:Stmt:=Ew 39
theorem P3:FnScope ["thing","misfit"] ["thing"] (As My):=Bb
theorem Yo{f:Addr}{fd:FuncData}(F:D5 K "shape_of" "shape_of" My f fd)(T:Txt K mg Aq)(Iy:Has P w K mg base "first_misfit" ["pieces"] 5 (Kg K))(Gh:Has P w K mg base "is_list_of_few" ["thing"] 1 (Id K)):Bt P w K mg base Dw 6 f fd ["thing"] (Pz K):=by
 refine F.ok P3 (fun vs H Q E h=>?_) (fun Da A outer s H vs Q E hr h=>?_)
 . obtain⟨_,_,rfl,_⟩:=h;rfl
 . obtain⟨v,xs,rfl,hL,hs,hx,k⟩:=h;obtain⟨Ip,Ml⟩:=T.x_MOST_PIECES;obtain⟨a,us,rfl,hq,r⟩:=id hL
   refine⟨_,(Ad (Bj (Dx (Cq (Ak Gh hr (Aa (pv 0) Ac)))) (Ag Ea) Ax)
    (Ad (Al (i:=1) P3.nd (Ak Iy hr (Aa (pv 0) Ac)))
    (Ad (Bj (Aw gK (pv 1) DF (A9 _)) (Ag Ea) Ax)
    (Ag (Av (Cg (Ga (K:=K)) (by rfl) T.n_list Ez (Aa (pv 0) Ac))))))),?_⟩
   refine⟨_,rfl,_,xs,rfl,hL,hx,_,rfl,?_⟩;refine Dt (by decide) ?_;refine⟨_,rfl,_,xs,rfl,hL,hs,hx,fun H1 s1=>?_⟩;refine⟨_,rfl,rfl,_,rfl,?_⟩;refine Dt (by decide) ?_;refine⟨_,rfl,a,us,rfl,.inl (s1.seq hq),fun l hl=>?_⟩;exact k l us _ (s1.free hl) (s1.trans (Same.new hl)) Ab (Reps.same (s1.trans (Same.new hl)) r)
noncomputable abbrev Hi:Stmt:=Ew 74
theorem E2:FnScope ["shape","firsts","one","other","low","high","told","face","other_face"] ["shape","firsts","one","other"] (As Hi):=Bb
theorem i4{f:Addr}{fd:FuncData}(F:D5 K "joined" "joined" Hi f fd):Bt P w K mg base Dw 1 f fd ["shape","firsts","one","other"] (Do K 0):=by
 refine F.ok E2 (fun vs H Q E h=>?_) (fun Da A outer s H vs Q E hr h=>?_)
 . obtain⟨a,l,ys,fs,i,j,rfl,hL,hS,G,h4,hyl,Qq,hi,hj,he,hd,hcl,k⟩:=h;omega
 . obtain⟨a,l,ys,fs,i,j,rfl,hL,hS,G,h4,hyl,Qq,hi,hj,he,hd,hcl,k⟩:=h;omega
theorem Jd{r dd:Nat}{f:Addr}{fd:FuncData}(F:D5 K "joined" "joined" Hi f fd)(T:Txt K mg Aq)  (Oh:Has P w K mg base "joined" ["shape","firsts","one","other"] r (Do K dd)):Bt P w K mg base Dw (r+1) f fd ["shape","firsts","one","other"] (Do K (dd+1)):=by
 refine F.ok E2 (fun vs H Q E h=>?_) (fun Da A outer s H vs Q E hr h=>?_)
 . obtain⟨_,_,_,_,_,_,rfl,_⟩:=h;rfl
 . obtain⟨a,l,ys,fs,i,j,rfl,hL,hS,G,h4,hyl,Qq,hi,hj,he,hd,hcl,k⟩:=h;have hlen:=Qq.len;have mC:Io (fs.map V.int) i=some (.int (lb fs i)):=Dz hi.1 (by rw[hlen];exact hi.2);have pT:Io (fs.map V.int) j=some (.int (lb fs j)):=Dz hj.1 (by rw[hlen];exact hj.2);have emin:(if lb fs j<lb fs i then lb fs j else lb fs i)=min (lb fs i) (lb fs j):=by split<;>omega
   have emax:(if lb fs j > lb fs i then lb fs j else lb fs i)=max (lb fs i) (lb fs j):=by split<;>omega
   refine⟨_,(Ad (Al (i:=4) E2.nd (Ao (Vo (by rfl)) T.n_min Vp (Aa (Ap (Ah (K:=K)) (pv 1) (pv 2) (fun _ _=>rfl)) (Aa (Ap (Ah (K:=K)) (pv 1) (pv 3) (fun _ _=>rfl)) Ac))))
    (Ad (Al (i:=5) E2.nd (Ao (Ly (by rfl)) T.n_max Lz (Aa (Ap (Ah (K:=K)) (pv 1) (pv 2) (fun _ _=>rfl)) (Aa (Ap (Ah (K:=K)) (pv 1) (pv 3) (fun _ _=>rfl)) Ac))))
    (Ad (Bj (Aw Cb (pv 4) (pv 5) (A9 _)) (Ag (Av (pv 1))) Ax)
    (Ad (Ff (N':=["first","high","low"]) (cap:=[none,some 5,some 4]) (i:=6) E2.nd (by rfl) (by first | exact Or.inl rfl | exact Or.inr rfl) (by rfl) (by kernel_rfl) (Bi (K:=K) (pv 1)) (fun _ _ _ _=>(Am (i:=0) KJ)) (fun _ _ _ _=>Bk) (fun _ _ _ _=>(Rx (Aw Cb (pv 0) (pv 1) (A9 _)) (pv 2) (pv 0))))
    (Ad (Ce qc3 rfl (GF (K:=K) (by rfl) T.n_zip (Aa (Ap (Ah (K:=K)) (pv 0) (pv 2) (fun _ _=>rfl)) (Aa (Ap (Ah (K:=K)) (pv 0) (pv 3) (fun _ _=>rfl)) Ac))) (Fj (K:=K) (n:=2) (by rfl) (B4 (Am (i:=7) E2.nd) (B4 (Am (i:=8) E2.nd) Fg))) (Ag (Al (i:=6) E2.nd (Ak (hk:=qa9 _) Oh hr (Aa (pv 0) (Aa (pv 6) (Aa (pv 7) (Aa (pv 8) Ac))))))))
    (Ag (Av (pv 6)))))))),?_⟩
   refine qr5 (fun σ' H'=>σ'=[rS a,rS l,iS i,iS j,some (.int (min (lb fs i) (lb fs j))),none,none,none,none]/\H=H') (fun key=>?_) ?_
   . refine⟨_,rfl,_,rfl,l,_,_,_,rfl,rfl,hS,mC,_,rfl,_,rfl,l,_,_,_,rfl,rfl,hS,pT,_,_,rfl,?_⟩;rw[emin];exact key _ _ ⟨rfl,rfl⟩
   refine L9 ?_;refine qr5 (fun σ' H'=>σ'=[rS a,rS l,iS i,iS j,some (.int (min (lb fs i) (lb fs j))),some (.int (max (lb fs i) (lb fs j))),none,none,none]/\H=H') (fun key=>?_) ?_
   . refine⟨_,rfl,_,rfl,l,_,_,_,rfl,rfl,hS,mC,_,rfl,_,rfl,l,_,_,_,rfl,rfl,hS,pT,_,_,rfl,?_⟩;rw[emax];exact key _ _ ⟨rfl,rfl⟩
   refine L9 ?_;refine qr5 (fun σ' H'=>σ'=[rS a,rS l,iS i,iS j,some (.int (min (lb fs i) (lb fs j))),some (.int (max (lb fs i) (lb fs j))),none,none,none]/\H=H'/\¬lb fs i=lb fs j) (fun key=>?_) ?_
   . refine⟨_,rfl,_,rfl,rfl,_,rfl,?_⟩;refine ite2 (fun h1=>?_) (fun h1=>?_)
     . have e0:=qe4 h1;injection e0 with e0;have e:lb fs i=lb fs j:=O9m
       refine⟨_,rfl,k l H (Same.refl H) ?_⟩;have ej:Fs (dd+1) ys fs i j=fs:=by unfold Fs;rw[if_pos e]
       rw[ej];exact hS
     . exact key _ _ ⟨rfl,rfl,fun e=>h1 (qe9 (by rw[e];congr 1))⟩
   refine IG fun hne=>?_
   have ej:Fs (dd+1) ys fs i j=((fc ys i).zip (fc ys j)).foldl (fun t z=>Fs dd ys t z.1 z.2) (mrg fs (min (lb fs i) (lb fs j)) (max (lb fs i) (lb fs j))):=by
    conv=>lhs;unfold Fs
    rw[if_neg hne]
   have pre:=fun(m:Nat) (z:Int × Int) (hz:((fc ys i).zip (fc ys j))[m]?=some z)=>DY G (d:=dd) Qq hi hj he hd hcl hne hz;rw[ej]at k;generalize min (lb fs i) (lb fs j)=lo at k pre;generalize max (lb fs i) (lb fs j)=hi' at k pre;refine qr5 (fun σ' H'=>∃(t:Addr),σ'=[rS a,rS l,iS i,iS j,iS lo,iS hi',rS t,none,none]/\Same H H'/\H' t=some (.lst ((mrg fs lo hi').map V.int))) (fun key=>?_) ?_
   . refine⟨_,rfl,l,rfl,⟨_,hS⟩,fun D hD=>?_⟩
     refine Bp (K:=K) (a:=l) (xs:=fs.map V.int) (fun m zs τ G2=>Same H G2/\G2 D=some (.lst zs)/\zs=((fs.take m).map fun x=>if x=hi' then lo else x).map V.int/\∃o,τ=[o,iS hi',iS lo])
      ⟨Same.new hD,Ab,rfl,none,rfl⟩ (fun m zs τ G2 _ ⟨g,_⟩=>g.seq hS) ?_ ?_
     . rintro m x zs τ G2 hx ⟨g,Bl,hzs,o,rfl⟩;obtain⟨hm,rfl⟩:=M6 hx
       have e5:(fs.take (m+1)).map (fun x=>if x=hi' then lo else x)=(fs.take m).map (fun x=>if x=hi' then lo else x)++[if fs[m]=hi' then lo else fs[m]]:=by
        rw[qd6,qa0 hm,qa6];rfl
       have pF:zs.length<=63:=by rw[hzs,qa1,qa1,qb5];omega
       generalize fs[m]=x at e5;refine⟨_,rfl,_,rfl,rfl,_,rfl,?_⟩;refine ite2 (fun h1=>?_) (fun h1=>?_)
       . have e:x=hi':=by simpa using h1
         refine⟨_,rfl,Bl,Bh O9m,g.turn hD,Ab,?_,_,rfl⟩;rw[e5,if_pos e,qa6,hzs];rfl
       . have e:¬x=hi':=by simpa using h1
         refine⟨_,rfl,Bl,Bh O9m,g.turn hD,Ab,?_,_,rfl⟩;rw[e5,if_neg e,qa6,hzs];rfl
     . rintro zs τ G2 ⟨g,Bl,hzs,_⟩;rw[qa1,qb4]at hzs;exact key _ _ ⟨D,rfl,g,by rw[Bl,hzs];rfl⟩
   refine Gj fun t H1 s1 ht=>?_;obtain⟨xi,vi,hxi,qZ,pY⟩:=LT.get hL hi.1 hi.2;obtain⟨ai,rfl,qE⟩:=TI.sq pY;obtain⟨xj,vj,QX,QY,PX⟩:=LT.get hL hj.1 hj.2;obtain⟨aj,rfl,QD⟩:=TI.sq PX;have fV:Dv K H ai ((fc ys i).map V.int):=qE;have FU:Dv K H aj ((fc ys j).map V.int):=QD;refine⟨_,rfl,_,rfl,a,xi,_,_,rfl,rfl,s1.seq hxi,qZ,_,rfl,_,rfl,a,xj,_,_,rfl,rfl,s1.seq QX,QY,ai,aj,rfl,⟨_,s1.seqT fV⟩,⟨_,s1.seqT FU⟩,?_⟩
   refine EO (K:=K) (a:=ai) (b:=aj) (xs:=(fc ys i).map V.int) (ys:=(fc ys j).map V.int) (n:=(fc ys i).length) ⟨qa1 ..,(qa1 ..).trans he.symm⟩
    (fun m σ G2=>∃(t:Addr) (o7 o8:Option V),σ=[rS a,rS l,iS i,iS j,iS lo,iS hi',rS t,o7,o8]/\Same H G2/\SqL K G2 t (((((fc ys i).zip (fc ys j)).take m).foldl (fun t z=>Fs dd ys t z.1 z.2) (mrg fs lo hi')).map V.int))
    ⟨t,_,_,rfl,s1,.of ht⟩ (fun m σ G2 _ ⟨_,_,_,_,g,_⟩=>⟨g.seqT fV,g.seqT FU⟩) ?_ ?_
   . rintro m x y σ G2 p hx hy ⟨t,o7,o8,rfl,g,fL⟩ hp;obtain⟨hm,rfl⟩:=M6 hx;obtain⟨hm2,rfl⟩:=M6 hy;have hz:((fc ys i).zip (fc ys j))[m]?=some ((fc ys i)[m],(fc ys j)[m]):=qf7.mpr ⟨qa0 hm,qa0 hm2⟩;obtain⟨pl,pc,pi,pj,pe,pd⟩:=pre m _ hz;have lZ:((fc ys i).zip (fc ys j)).take (m+1)=((fc ys i).zip (fc ys j)).take m++[((fc ys i)[m],(fc ys j)[m])]:=by rw[qd6,hz];rfl
     generalize (fc ys i)[m]=f1 at hz pl pc pi pj pe pd lZ;generalize (fc ys j)[m]=f2 at hz pl pc pi pj pe pd lZ;have gp:Same G2 (upd G2 p (.tup [.int f1,.int f2])):=Same.new hp;have hp1:(upd G2 p (.tup [.int f1,.int f2])) p=some (.tup [.int f1,.int f2]):=Ab;generalize upd G2 p (.tup [.int f1,.int f2])=G3 at gp hp1;refine⟨p,_,rfl,.of hp1,rfl,_,_,rfl,_,_,rfl,rfl,?_⟩;refine⟨_,rfl,_,rfl,_,rfl,_,rfl,a,t,ys,_,f1,f2,rfl,Rep.same (g.trans gp) hL,gp.seq fL,G,h4,hyl,pl,pi,pj,pe,pd,pc,fun E H' s' hE=>?_⟩;refine⟨E,_,_,rfl,(g.trans gp).trans s',?_⟩;rw[lZ,List.foldl_append];exact hE
   . rintro σ G2 ⟨t,o7,o8,rfl,g,fL⟩;refine⟨_,rfl,k t G2 g ?_⟩;rw[qf2 (by rw[List.length_zip];omega)]at fL;exact fL
noncomputable abbrev Fe:Stmt:=Ew 122
theorem Hf:FnScope ["shape","names","papers"] ["shape","names"] (As Fe):=Bb
theorem M4{f:Addr}{fd:FuncData}(F:D5 K "core_with_names" "core_with_names" Fe f fd)(T:Txt K mg Aq)(EK:Has P w K mg base "core" ["shape"] 5 (x8 K)):Bt P w K mg base Dw 6 f fd ["shape","names"] (G7 K):=by
 refine F.ok Hf (fun vs H Q E h=>?_) (fun Da A outer s H vs Q E hr h=>?_)
 . obtain⟨_,_,_,_,rfl,_⟩:=h;rfl
 . obtain⟨a,n,xs,ns,rfl,hL,hN,ok,k⟩:=h
   have h4:∀x∈xs,x.length<=4:=fun x hx=>by
    obtain⟨i,hi⟩:=qc6 hx;have:=(B9 ok.sh (k:=i) (qa2.mp hi).1).2
    rwa [Fo hi]at this
   have Zv:∀x∈xs,∀f∈x,0<=f/\f<(xs.length:Int):=fun x hx f hf=>by
    obtain⟨i,hi⟩:=qc6 hx;have hil:=(qa2.mp hi).1;have:=(B9 ok.sh (k:=i) hil).1 f (by rw[Fo hi];exact hf);omega
   have hle:=ok.le;have hnl:=ok.len
   refine⟨_,(Ad (Al (i:=2) Hf.nd (Ak EK hr (Aa (pv 0) Ac)))
    (Ag (Av (Bs (Aa (Ap (Bc (K:=K)) (pv 2) Af (fun _ _=>rfl)) (Aa (Bm (N':=["place","names"]) (cap:=[none,some 1]) (by rfl) (by kernel_rfl) (Bi (K:=K) (Ap (Bc (K:=K)) (pv 2) Af (fun _ _=>rfl))) (fun _ _ _ _=>(Am (i:=0) kI)) (fun _ _ _ _=>Bk) (fun _ _ _ _=>(Ap (Ah (K:=K)) (pv 1) (pv 0) (fun _ _=>rfl)))) Ac)))))),?_⟩
   refine⟨_,rfl,a,xs,rfl,hL,O9m,h4,Zv,fun R L P M us qu H1 s1 nL nP nM hR fM rL hP hM rM hb hc hp2=>?_⟩;have hck:∀p∈B1 xs,0<=p/\p<(xs.length:Int):=Lv;have Se:(B1 xs).length<=40:=qe1 (Fl _ _) hle;change H1 P=some (.lst ((B1 xs).map V.int)) at hP;change Qi xs (B1 xs) at hc;change Reps K H1 us ((Eh xs (B1 xs)).map tI) at rL;refine Jb (fun σ' H'=>σ'=[rS a,rS n,rS R]/\H1=H') ?_ fun Wu=>Wu _ _ ⟨rfl,rfl⟩;refine L9 ?_;generalize B1 xs=ks at hP hc rL hck Se k;refine⟨_,rfl,R,_,_,_,rfl,rfl,.of hR,rfl,?_⟩;refine⟨_,rfl,R,_,_,_,rfl,rfl,.of hR,rfl,P,rfl,⟨_,.of hP⟩,fun D hD=>?_⟩
   refine Bp (K:=K) (a:=P) (xs:=ks.map V.int) (fun i ys τ G=>Same H1 G/\G D=some (.lst ys)/\ys=((ks.take i).map fun p=>nmAt ns p.toNat).map V.str/\∃o,τ=[o,rS n])
    ⟨Same.new hD,Ab,rfl,none,rfl⟩ (fun i ys τ G _ ⟨g,_⟩=>g.seq (.of hP)) ?_ ?_
   . rintro i x ys τ G hx ⟨g,Bl,hys,o,rfl⟩;rw[qa3]at hx;obtain⟨p,hp,rfl⟩:=qb1.mp hx;have hi:i<ks.length:=(qa2.mp hp).1;obtain⟨p0,p1⟩:=hck p (qa8 hp);refine⟨_,rfl,_,rfl,n,_,_,_,rfl,rfl,(s1.trans g).seq hN,Kj p0 O9m,Bl,Bh (by rw[hys,qa1,qa1,qb5];omega),g.turn hD,Ab,?_,_,rfl⟩;rw[hys,qg5,hp,qa6,qa6];rfl
   . rintro ys τ G ⟨g,Bl,hys,_⟩;rw[qa1,qb4]at hys;refine⟨Au (by simp),fun T1 hT1=>?_⟩;have s3:=g.trans (Same.new (o:=.tup [.ref L,.ref D]) hT1);refine k (.ref T1) _ (s1.trans s3) ⟨T1,L,D,rfl,Ab,⟨L,us,rfl,.of (s3 _ _ fM),Reps.same s3 rL⟩,?_⟩ hc;refine .of ?_;have:=(Same.new (o:=.tup [.ref L,.ref D]) hT1) _ _ Bl;rw[hys]at this;exact this
noncomputable abbrev V9:Stmt:=Ew 72
theorem G8:FnScope ["shape","pairs","firsts","one","other","kept","spots"] ["shape","pairs"] (As V9):=Bb
theorem dJ{f:Addr}{fd:FuncData}(F:D5 K "glued" "glued" V9 f fd)(T:Txt K mg Aq)(Oh:Has P w K mg base "joined" ["shape","firsts","one","other"] 6 (Z8 K))(F4:Has P w K mg base "called_by" ["spots","piece"] 1 (Mu K))(Na:Has P w K mg base "is_gluing" ["shape","thing"] 4 (Nt K)):Bt P w K mg base Dw 7 f fd ["shape","pairs"] (X7 K):=by
 refine F.ok G8 (fun vs H Q E h=>?_) (fun Da A outer s H vs Q E hr h=>?_)
 . obtain⟨_,_,_,_,rfl,_⟩:=h;rfl
 . obtain⟨a,b,ys,ps,rfl,hL,hB,G,h4,hyl,hpl,hok,k⟩:=h;have J5:=hr.u8;obtain⟨xu,U9,Pj⟩:=LT.len hL;obtain⟨b',pu,eb,kX,rB⟩:=hB
   refine⟨_,(Ad (Bj (Dx (Cq (Ao (F1 (K:=K) (by rfl)) T.n_all Gz (Aa (Bm (N':=["pair","shape"]) (cap:=[none,some 0]) (by rfl) (by kernel_rfl) (Bi (K:=K) (pv 1)) (fun _ _ _ _=>(Am (i:=0) kK)) (fun _ _ _ _=>Bk) (fun _ _ _ _=>(Ak Na hr (Aa (pv 1) (Aa (pv 0) Ac))))) Ac)))) (Ag Ea) Ax)
    (Ad (Al (i:=2) G8.nd (J0 (by rfl) (by rfl) T.n_list (by rfl) T.n_range (Aa (Ao (Ai (K:=K)) T.n_len qe0 (Aa (pv 0) Ac)) Ac)))
    (Ad (Ce qc3 rfl (Bi (K:=K) (pv 1)) (Fj (K:=K) (n:=2) (by rfl) (B4 (Am (i:=3) G8.nd) (B4 (Am (i:=4) G8.nd) Fg))) (Ag (Al (i:=2) G8.nd (Ak (hk:=qa9 _) Oh hr (Aa (pv 0) (Aa (pv 2) (Aa (pv 3) (Aa (pv 4) Ac))))))))
    (Ad (Al (i:=5) G8.nd (Bm (N':=["place","first"]) (cap:=[none,none]) (by rfl) (by kernel_rfl) (Ij (K:=K) (by rfl) T.n_enumerate (Aa (pv 2) Ac)) (fun _ _ _ _=>(Fj (K:=K) (n:=2) (by rfl) (B4 (Am (i:=0) DR) (B4 (Am (i:=1) DR) Fg)))) (fun _ _ _ _=>(Ih (Aw Cb (pv 0) (pv 1) (A9 _)))) (fun _ _ _ _=>(pv 0))))
    (Ad (Al (i:=6) G8.nd (Bm (N':=["first","kept"]) (cap:=[none,some 5]) (by rfl) (by kernel_rfl) (Bi (K:=K) (pv 2)) (fun _ _ _ _=>(Am (i:=0) kL)) (fun _ _ _ _=>Bk) (fun _ _ _ _=>(B0 (K:=K) qc5 ql7 qn3 (Pg (K:=K) J5) (pv 1) (Aa (pv 0) Ac)))))
    (Ag (Av (Bs (Aa (Bm (N':=["place","spots","shape"]) (cap:=[none,some 6,some 0]) (by rfl) (by kernel_rfl) (Bi (K:=K) (pv 5)) (fun _ _ _ _=>(Am (i:=0) KL)) (fun _ _ _ _=>Bk) (fun _ _ _ _=>(Ak F4 hr (Aa (pv 1) (Aa (Ap (Ah (K:=K)) (pv 2) (pv 0) (fun _ _=>rfl)) Ac))))) (Aa (pv 6) Ac)))))))))),?_⟩
   cases eb;have vN:pu.length=ps.length:=by have:=rB.length;simpa using this
   have f4:=lE h4;have dn:∀z:List Int,deps (Bx z)+1<=8:=fun z=>by rw[E8];decide
   refine qr5 (fun σ' H'=>σ'=[rS a,rS b,none,none,none,none,none]/\Same H H') (fun key=>?_) ?_
   . refine⟨_,rfl,b,rfl,⟨_,kX⟩,fun D hD=>?_⟩
     refine Bp (K:=K) (a:=b) (xs:=pu) (fun i zs τ G2=>Same H G2/\G2 D=some (.lst zs)/\zs=(List.replicate i true).map V.bl/\∃o,τ=[o,rS a])
      ⟨Same.new hD,Ab,rfl,none,rfl⟩ (fun i zs τ G2 _ ⟨g,_⟩=>g.seq kX) ?_ ?_
     . rintro i x zs τ G2 hx ⟨g,Bl,rfl,o,rfl⟩;have hi:i<pu.length:=(qa2.mp hx).1;have KW:i<ps.length:=O9m
       have hix:((ps.map pr).map tI)[i]?=some (tI (pr ps[i])):=by rw[qa3,qa3,qa0 KW];rfl
       obtain⟨x',hx',tx⟩:=rB.get hix;rw[hx]at hx';cases hx';obtain⟨z1,z2,z3⟩:=hok _ (qc8 KW);refine⟨_,rfl,_,rfl,a,x,ys,ps[i],rfl,Rep.same g hL,qm4 g tx,z1,z2,z3,?_⟩;refine⟨Bl,Bh (by rw[qa1,qi0];omega),g.turn hD,Ab,?_,_,rfl⟩;rw[ql0,qa6];rfl
     . rintro zs τ G2 ⟨g,Bl,rfl,_⟩;refine⟨D,_,rfl,.of Bl,_,rfl,?_⟩;refine Dt (by simp) ?_;exact key _ _ ⟨rfl,g⟩
   refine Q4 fun H1 s1=>?_;refine qr5 (fun σ' H'=>∃(l:Addr),σ'=[rS a,rS b,rS l,none,none,none,none]/\Same H H'/\H' l=some (.lst ((Go ys.length).map V.int))) (fun key=>?_) ?_
   . refine⟨_,rfl,a,xu,rfl,.inl (s1.seq U9),xu.length,rfl,O9m,fun l hl=>?_⟩;exact key _ _ ⟨l,rfl,s1.trans (Same.new hl),by rw[Ab,Pj]⟩
   refine Gj fun l H2 s2 hl=>?_;refine qr5 (fun σ' H'=>∃(l:Addr) (fs:List Int) (o3 o4:Option V),σ'=[rS a,rS b,rS l,o3,o4,none,none]/\Same H H'/\SqL K H' l (fs.map V.int)/\Ln ys ps ps fs) (fun key=>?_) ?_
   . refine⟨_,rfl,b,rfl,⟨_,s2.seq kX⟩,?_⟩
     refine for_list (K:=K) (a:=b) (xs:=pu) (fun i σ G2=>∃(l:Addr) (fs:List Int) (o3 o4:Option V),σ=[rS a,rS b,rS l,o3,o4,none,none]/\Same H G2/\SqL K G2 l (fs.map V.int)/\Ln ys ps (ps.take i) fs)
      ⟨l,Go ys.length,_,_,rfl,s2,.of hl,Ln.start⟩ (fun i σ G2 _ ⟨_,_,_,_,_,g,_⟩=>g.seq kX) ?_ ?_
     . rintro i x σ G2 hx ⟨l,fs,o3,o4,rfl,g,BL,eF⟩;have hi:i<pu.length:=(qa2.mp hx).1;have KW:i<ps.length:=O9m
       have hix:((ps.map pr).map tI)[i]?=some (tI (pr ps[i])):=by rw[qa3,qa3,qa0 KW];rfl
       obtain⟨x',hx',tx⟩:=rB.get hix;rw[hx]at hx';cases hx';obtain⟨z1,z2,z3⟩:=hok _ (qc8 KW);obtain⟨ax,rfl,lU⟩:=TI.sq tx;have TL:Dv K H ax [.int ps[i].1,.int ps[i].2]:=lU;have lZ:ps.take (i+1)=ps.take i++[ps[i]]:=by rw[qd6,qa0 KW];rfl
       have hin:ps[i]∈ps:=qc8 KW;generalize ps[i]=z at z1 z2 z3 TL lZ hin;have l4:=f4 z.1 z1;refine⟨ax,_,rfl,g.seqT TL,rfl,_,_,rfl,_,_,rfl,rfl,?_⟩;refine⟨_,rfl,_,rfl,_,rfl,_,rfl,a,l,ys,fs,z.1,z.2,rfl,Rep.same g hL,BL,G,h4,hyl,eF.lab,z1,z2,z3,O9m,(fun p q hp hq hl' w=>eF.clo p q hp hq O9m w),fun E H' s' hE=>?_⟩;refine⟨E,_,_,_,rfl,g.trans s',hE,?_⟩;rw[lZ];exact eF.step G f4 z1 z2 z3 hin (fun y hy=>⟨(hok y (qf3 hy)).1,(hok y (qf3 hy)).2.1⟩)
     . rintro σ G2 ⟨l,fs,o3,o4,rfl,g,BL,eF⟩;rw[vN,qb4]at eF;exact key _ _ ⟨l,fs,_,_,rfl,g,BL,eF⟩
   refine mJ fun l fs o3 o4 H3 s3 BL eF=>?_;have Qq:=eF.lab;have hfl:=Qq.len;have AB:Hw ys ps fs:=eF.tells G f4 fun z hz=>⟨(hok z hz).1,(hok z hz).2.1⟩
   have hcl:=eF.clo;clear eF;refine qr5 (fun σ' H'=>∃(kp:Addr),σ'=[rS a,rS b,rS l,o3,o4,rS kp,none]/\Same H3 H'/\H' kp=some (.lst ((Bo fs).map V.int))) (fun key=>?_) ?_
   . refine⟨_,rfl,l,rfl,⟨_,BL⟩,fun D hD=>?_⟩
     refine Lw (K:=K) (a:=l) (xs:=fs.map V.int) (fun i zs τ G2=>Same H3 G2/\G2 D=some (.lst zs)/\zs=(Nf fs i).map V.int/\i<=63/\∃o1 o2,τ=[o1,o2])
      ⟨Same.new hD,Ab,rfl,O9m,none,none,rfl⟩ (fun i zs τ G2 _ ⟨g,_⟩=>g.seq BL) ?_ ?_
     . rintro i x zs τ G2 p hx ⟨g,Bl,rfl,_,o1,o2,rfl⟩ hp;obtain⟨hi,rfl⟩:=M6 hx;have el:=Y0 hi;have eu:=Vg fs i;have uF:=Jj fs i;rw[el]at eu;generalize fs[i]=x at eu hp;have gp:Same G2 (upd G2 p (.tup [.int i,.int x])):=Same.new hp;have hp1:(upd G2 p (.tup [.int i,.int x])) p=some (.tup [.int i,.int x]):=Ab;generalize upd G2 p (.tup [.int i,.int x])=G3 at gp hp1;refine⟨p,_,rfl,.of hp1,rfl,_,_,rfl,_,_,rfl,rfl,?_⟩;refine⟨_,rfl,_,rfl,rfl,_,rfl,?_⟩;refine ite2 (fun h1=>?_) (fun h1=>?_)
       . have e:x=(i:Int):=by have:=qe4 h1;injection this with this;exact this.symm
         refine⟨_,rfl,gp _ _ Bl,Bh (by rw[qa1];omega),(g.trans gp).turn hD,Ab,?_,O9m,_,_,rfl⟩;rw[eu,if_pos e,qa6];rfl
       . have e:¬x=(i:Int):=fun z=>h1 (by rw[z];simp);refine⟨g.trans gp,gp _ _ Bl,?_,O9m,_,_,rfl⟩;rw[eu,if_neg e,qh7]
     . rintro zs τ G2 ⟨g,Bl,rfl,_,_⟩;rw[qa1]at Bl;exact key _ _ ⟨D,rfl,g,Bl⟩
   refine Gj fun kp H4 s4 hkp=>?_;have hfx:(Bo fs).length<=fs.length:=Jj fs fs.length;refine qr5 (fun σ' H'=>∃(P:Addr),σ'=[rS a,rS b,rS l,o3,o4,rS kp,rS P]/\Same H4 H'/\H4 P=none/\H' P=some (.lst ((Gi fs).map V.int))) (fun key=>?_) ?_
   . refine⟨_,rfl,l,rfl,⟨_,s4.seq BL⟩,fun D hD=>?_⟩
     refine Bp (K:=K) (a:=l) (xs:=fs.map V.int) (fun i zs τ G2=>Same H4 G2/\G2 D=some (.lst zs)/\zs=((fs.take i).map (Gg (Bo fs))).map V.int/\∃o,τ=[o,rS kp])
      ⟨Same.new hD,Ab,rfl,none,rfl⟩ (fun i zs τ G2 _ ⟨g,_⟩=>(s4.trans g).seq BL) ?_ ?_
     . rintro i x zs τ G2 hx ⟨g,Bl,hzs,o,rfl⟩;obtain⟨hi,rfl⟩:=M6 hx;have hmem:fs[i]∈Bo fs:=by rw[←Y0 hi];exact Od Qq ⟨O9m,O9m⟩
       have pF:zs.length<=63:=by rw[hzs,qa1,qa1,qb5];omega
       refine⟨_,rfl,.inl ⟨rfl,_,.of (g _ _ hkp)⟩,_,rfl,Bx (Bo fs),_,.int fs[i],(Bo fs).findIdx (·==fs[i]),rfl,⟨kp,_,rfl,.of (g _ _ hkp),Dr.mpr rfl⟩,rfl,dn _,Qb _ hmem,?_⟩;refine⟨Bl,Bh O9m,g.turn hD,Ab,?_,_,rfl⟩;rw[qd6,qa0 hi,qa6,qa6,hzs];rfl
     . rintro zs τ G2 ⟨g,Bl,hzs,_⟩;rw[qa1,qb4]at hzs;exact key _ _ ⟨D,rfl,g,hD,by rw[Bl,hzs];rfl⟩
   refine Kf fun P H5 s5 hP rY=>?_;have qG:=s3.trans (s4.trans s5);have YG:=Oi fs;refine⟨_,rfl,kp,rfl,⟨_,.of (s5 _ _ hkp)⟩,fun D hD=>?_⟩
   refine Bp (K:=K) (a:=kp) (xs:=(Bo fs).map V.int) (fun i ws τ G2=>Same H5 G2/\G2 D=some (.lst ws)/\Reps K G2 ws ((((Bo fs).take i).map fun p=>(fc ys p).map (lb (Gi fs))).map tI)/\∃o,τ=[o,rS P,rS a])
    ⟨Same.new hD,Ab,rfl,none,rfl⟩ (fun i ws τ G2 _ ⟨g,_⟩=>.of ((s5.trans g) _ _ hkp)) ?_ ?_
   . rintro i x ws τ G2 hx ⟨g,Bl,rG,o,rfl⟩;obtain⟨hi,rfl⟩:=M6 hx;have sg:=qG.trans g;have XU:ws.length<=i:=by have:=rG.length;rw[this,qa1,qa1,qb5];omega
     have hkm:=qc8 hi
     have e5:((Bo fs).take (i+1)).map (fun p=>(fc ys p).map (lb (Gi fs)))=((Bo fs).take i).map (fun p=>(fc ys p).map (lb (Gi fs)))++[(fc ys (Bo fs)[i]).map (lb (Gi fs))]:=by
      rw[qd6,qa0 hi,qa6];rfl
     generalize (Bo fs)[i]=kk at hkm e5
     have rk:B5 ys kk:=by
      have hq:=(R7.mp (show kk∈Nf fs fs.length from hkm)).1;exact⟨hq.1,O9m⟩
     obtain⟨xq,vx,ED,iQ,jF⟩:=LT.get hL rk.1 rk.2;have pX:TI K H vx (fc ys kk):=jF;have l4:=f4 kk rk;refine⟨_,rfl,_,rfl,_,rfl,a,xq,_,vx,rfl,rfl,sg.seq ED,iQ,P,vx,rfl,.inr ⟨P,vx,Gi fs,fc ys kk,rfl,.of (g _ _ rY),qm4 sg pX,(fun f hf=>by have:=G.rng rk hf;exact⟨this.1,by have:=this.2;omega⟩),O9m,fun v H' s' tv=>?_⟩⟩;refine⟨s' _ _ Bl,Bh O9m,(g.trans s').turn hD,Ab,?_,_,rfl⟩;rw[e5];exact C4 (s' _ _ Bl) (Reps.same s' rG) tv
   . rintro ws τ G2 ⟨g,Bl,rG,_⟩;rw[qa1,qb4]at rG;refine⟨_,rfl,Au (by simp),fun R hR=>?_⟩;have s6:Same G2 (upd G2 R (.tup [.ref D,.ref P])):=Same.new hR;exact k R D P ws fs _ ((qG.trans g).trans s6) (qG.free hD) ((s3.trans s4).free hP) (Be rY hD).symm Ab (s6 _ _ Bl) (Reps.same s6 rG) ((g.trans s6) _ _ rY) Qq hcl AB
noncomputable abbrev c7:Stmt:=Ew 105
theorem V4:FnScope ["thing","rows","pieces"] ["thing"] (As c7):=Bb
theorem GO{f:Addr}{fd:FuncData}(F:D5 K "read" "read" c7 f fd)(T:Txt K mg Aq)(Si:Has P w K mg base "rows_of" ["thing"] 2 (Q8 K))(M8:Has P w K mg base "pieces_of" ["rows"] 2 (Nq K))(Pl:Has P w K mg base "shape_of" ["thing"] 6 (Pz K)):Bt P w K mg base Dw 7 f fd ["thing"] (w6 K):=by
 refine F.ok V4 (fun vs H Q E h=>?_) (fun Da A outer s H vs Q E hr h=>?_)
 . obtain⟨_,_,rfl,_⟩:=h;rfl
 . obtain⟨xs,names,rfl,hs,hx,hnl,hnd,hn,k⟩:=h
   refine⟨_,(Ad (Al (i:=1) V4.nd (Ak Si hr (Aa (pv 0) Ac)))
    (Ad (Al (i:=2) V4.nd (Ak M8 hr (Aa (pv 1) Ac)))
    (Ag (Av (Bs (Aa (Ak Pl hr (Aa (pv 2) Ac)) (Aa (Bm (N':=["row"]) (cap:=[none]) (by rfl) (by kernel_rfl) (Bi (K:=K) (pv 1)) (fun _ _ _ _=>(Am (i:=0) dR)) (fun _ _ _ _=>Bk) (fun _ _ _ _=>(Ap (Ah (K:=K)) (pv 0) Af (fun _ _=>rfl)))) Ac))))))),?_⟩
   refine qr5 (fun σ' H'=>∃v:V,σ'=[some (.str (Bw xs names)),some v,none]/\Same H H'/\Rep K H' v (Vl (Cr xs names))) (fun key=>?_) ?_
   . exact⟨_,rfl,xs,names,rfl,hs,hx,hnl,hn,fun v H' s1 hR=>key _ _ ⟨v,rfl,s1,hR⟩⟩
   refine Gj fun v H1 s1 hR=>?_;refine qr5 (fun σ' H'=>∃u:V,σ'=[some (.str (Bw xs names)),some v,some u]/\Same H1 H'/\LT K H' u xs) (fun key=>?_) ?_
   . exact⟨_,rfl,v,xs,names,rfl,hR,hs,hx,hnl,hnd,fun u H' s2 hL=>key _ _ ⟨u,rfl,s2,hL⟩⟩
   refine Gj fun u H2 s2 hL=>?_;have Uu:=s1.trans s2;refine⟨_,rfl,u,xs,rfl,hL,hs,hx,fun l1 us H3 hl1 s3 h3 r3=>?_⟩;obtain⟨a,ws,rfl,hq,IQ,Fa⟩:=Wb (Rep.same (s2.trans s3) hR);have hrl:(Cr xs names).length=xs.length:=by simp[Cr]
   refine⟨_,rfl,a,rfl,⟨ws,hq⟩,fun D hD=>?_⟩
   refine Bp (K:=K) (a:=a) (xs:=ws) (fun i ys τ G=>Same H3 G/\G D=some (.lst ys)/\ys=(names.take i).map V.str/\∃o,τ=[o])
    ⟨Same.new hD,Ab,rfl,none,rfl⟩ (fun i ys τ G _ ⟨s4,_⟩=>s4.seq hq) ?_ ?_
   . rintro i x ys τ G hx ⟨s4,Tw,rfl,o,rfl⟩;obtain⟨b,r,rfl,hr,hb⟩:=Fa i x hx;obtain⟨hi,rfl⟩:=Yh hr;have hat:Io ((Fq names i (xs.getD i [])).map V.str) 0=some (.str (nmAt names i)):=Ca (j:=0) rfl;refine⟨_,rfl,b,_,_,_,rfl,rfl,s4.seq hb,hat,Tw,Bh (by simp;omega),s4.turn hD,Ab,?_,_,rfl⟩;have hi2:i<names.length:=O9m
     rw[qg5,qa0 hi2,qa6];unfold nmAt;rw[qa4,qa0 hi2];rfl
   . rintro ys τ G ⟨s4,Tw,rfl,_⟩;rw[show ws.length=names.length by omega,qb4]at Tw;refine⟨Au (by simp),fun t ht=>?_⟩;have nl:l1≠D:=fun z=>by rw[←z,h3]at hD;cases hD
     have h4:G l1=some (.lst us):=s4 _ _ h3;have s5:Same G (upd G t (.tup [.ref l1,.ref D])):=Same.new ht;have fD:H D=none:=Uu.free (s3.free hD);exact k t l1 D us _ (Uu.free hl1) fD nl (fun z=>by rw[z,h4]at ht;cases ht) (fun z=>by rw[z,Tw]at ht;cases ht) (((Uu.trans s3).trans s4).trans s5) Ab (s5 _ _ h4) (Reps.same (s4.trans s5) r3) (s5 _ _ Tw)
noncomputable abbrev Ey:Stmt:=Ew 123
theorem Dd:FnScope ["shape","names","words","spots","pairs","papers"] ["shape","names","words"] (As Ey):=Bb
theorem L5{f:Addr}{fd:FuncData}(F:D5 K "glued_with_names" "glued_with_names" Ey f fd)(T:Txt K mg Aq)(Gw:Has P w K mg base "spots_of" ["things"] 1 (Ox K))(l6:Has P w K mg base "glued" ["shape","pairs"] 7 (X7 K))(Sj:Has P w K mg base "pair_of" ["spots","word"] 2 (Q9 K)):Bt P w K mg base Dw 8 f fd ["shape","names","words"] (Gk K):=by
 refine F.ok Dd (fun vs H Q E h=>?_) (fun Da A outer s H vs Q E hr h=>?_)
 . obtain⟨_,_,_,_,_,_,_,rfl,_⟩:=h;rfl
 . obtain⟨a,n,l,xs,ns,ws,ps,rfl,hL,hN,hW,ok,hws,bL,hps,k⟩:=h;have J5:=hr.u8
   have h4:∀x∈xs,x.length<=4:=fun x hx=>by
    obtain⟨i,hi⟩:=qc6 hx;have:=(B9 ok.sh (k:=i) (qa2.mp hi).1).2
    rwa [Fo hi]at this
   have hle:=ok.le;have hnl:=ok.len;have hwl:=hws.1
   refine⟨_,(Ad (Al (i:=3) Dd.nd (Ak Gw hr (Aa (pv 1) Ac)))
    (Ad (Ff (N':=["word","spots"]) (cap:=[none,some 3]) (i:=4) Dd.nd (by rfl) (by first | exact Or.inl rfl | exact Or.inr rfl) (by rfl) (by kernel_rfl) (Bi (K:=K) (pv 2)) (fun _ _ _ _=>(Am (i:=0) kH)) (fun _ _ _ _=>Bk) (fun _ _ _ _=>(Ak Sj hr (Aa (pv 1) (Aa (pv 0) Ac)))))
    (Ad (Al (i:=5) Dd.nd (Ak l6 hr (Aa (pv 0) (Aa (pv 4) Ac))))
    (Ag (Av (Bs (Aa (Ap (Bc (K:=K)) (pv 5) Af (fun _ _=>rfl)) (Aa (Bm (N':=["lot","names","papers"]) (cap:=[none,some 1,some 5]) (by rfl) (by kernel_rfl) (Bu (by rfl) T.n_range (Aa (Ao (Ai (K:=K)) T.n_len qe0 (Aa (Ap (Bc (K:=K)) (pv 5) Af (fun _ _=>rfl)) Ac)) Ac)) (fun _ _ _ _=>(Am (i:=0) KH)) (fun _ _ _ _=>Bk) (fun _ _ _ _=>(Ap (Ah (K:=K)) (pv 1) (B0 (K:=K) qc5 ql7 qn3 (Pg (K:=K) J5) (Ap (Bc (K:=K)) (pv 2) Af (fun _ _=>rfl)) (Aa (pv 0) Ac)) (fun _ _=>rfl)))) Ac)))))))),?_⟩
   refine qr5 (fun σ' H'=>∃(d:Addr) (Az:List (Key × V)),σ'=[rS a,rS n,rS l,rS d,none,none]/\Same H H'/\H' d=some (.dK Az)/\Xu Az ns) (fun key=>?_) ?_
   . exact⟨_,rfl,n,rfl,.inr ⟨n,ns,rfl,hN,ok.nd,O9m,fun d Az H1 nd s1 hd Zu=>key _ _ ⟨d,Az,rfl,s1,hd,Zu⟩⟩⟩
   refine Ja fun d Az H1 s1 hd Zu=>?_;refine qr5 (fun σ' H'=>∃(D:Addr) (us:List V),σ'=[rS a,rS n,rS l,rS d,rS D,none]/\Same H H'/\H' D=some (.lst us)/\Reps K H' us ((ps.map pr).map tI)) (fun key=>?_) ?_
   . refine⟨_,rfl,l,rfl,⟨_,s1.seq hW⟩,fun D hD=>?_⟩
     refine Bp (K:=K) (a:=l) (xs:=ws.map V.str) (fun i us τ G=>Same H1 G/\G D=some (.lst us)/\Reps K G us (((ps.take i).map pr).map tI)/\∃o,τ=[o,rS d])
      ⟨Same.new hD,Ab,rfl,none,rfl⟩ (fun i us τ G _ ⟨g,_⟩=>(s1.trans g).seq hW) ?_ ?_
     . rintro i x us τ G hx ⟨g,Bl,rG,o,rfl⟩;rw[qa3]at hx;obtain⟨w,hw,rfl⟩:=qb1.mp hx;have hi:i<ws.length:=(qa2.mp hw).1;have hz:ps[i]?=some ps[i]:=qa0 O9m;have NY:=hws.2 i w _ hw hz
       have e5:(ps.take (i+1)).map pr=(ps.take i).map pr++[pr ps[i]]:=by
        rw[qd6,hz,qa6];rfl
       generalize ps[i]=z at hz NY e5;have pV:us.length<=1000:=by have:=rG.length;rw[qa1,qa1,qb5]at this;omega
       refine⟨_,rfl,_,rfl,d,Az,ns,w,z,rfl,g _ _ hd,Zu,NY,fun v G2 g2 tv=>?_⟩;refine⟨g2 _ _ Bl,Bh O9m,(g.trans g2).turn hD,Ab,?_,_,rfl⟩;rw[e5];exact C4 (g2 _ _ Bl) (Reps.same g2 rG) tv
     . rintro us τ G ⟨g,Bl,rG,_⟩;rw[qa1,qf2 (by omega)]at rG;exact key _ _ ⟨D,us,rfl,s1.trans g,Bl,rG⟩
   refine Ja fun D du H2 s2 Hq rD=>?_;refine qr5 (fun σ' H'=>∃(R L P:Addr) (us:List V) (fs:List Int),σ'=[rS a,rS n,rS l,rS d,rS D,rS R]/\Same H H'/\H' R=some (.tup [.ref L,.ref P])/\H' L=some (.lst us)/\Reps K H' us ((Kk xs fs).map tI)/\H' P=some (.lst ((Gi fs).map V.int))/\Hy xs fs/\Kl xs fs 4/\Hw xs ps fs) (fun key=>?_) ?_
   . exact⟨_,rfl,_,rfl,a,D,xs,ps,rfl,Rep.same s2 hL,⟨D,du,rfl,.of Hq,rD⟩,Y7 ok.sh,h4,O9m,O9m,hps,fun R L P us fs H' s' nL nP YA hR fM rL hP lab cl te=>key _ _ ⟨R,L,P,us,fs,rfl,s2.trans s',hR,fM,rL,hP,lab,cl,te⟩⟩
   refine MH fun R L P us fs H3 s3 hR fM rL hP lab cl te=>?_;have xO:(Kk xs fs).length=(Bo fs).length:=qa1 ..;have UY:us.length=(Bo fs).length:=by have:=rL.length;rw[qa1,xO]at this;exact this
   have hfl:(Bo fs).length<=40:=by
    have:=Jj fs fs.length;have:=lab.len;show(Nf fs fs.length).length<=40;omega
   refine⟨_,rfl,R,_,_,_,rfl,rfl,.of hR,rfl,?_⟩;refine⟨_,rfl,R,_,_,_,rfl,rfl,.of hR,rfl,L,us,rfl,.inl (.of fM),_,rfl,O9m,O9m,fun E hE=>?_⟩;rw[UY]
   refine C9 (n:=(Bo fs).length) (fun m ys τ G=>Same H3 G/\G E=some (.lst ys)/\ys=(((Bo fs).take m).map fun p=>nmAt ns p.toNat).map V.str/\m<=(Bo fs).length/\∃o,τ=[o,rS n,rS R])
    ⟨Same.new hE,Ab,rfl,qb3 _,none,rfl⟩ ?_ ?_
   . rintro m ys τ G hm ⟨g,cI,hys,hml,o,rfl⟩;rw[show(0:Int)+(m:Int)=(m:Int) by omega];have RI:(Bo fs).getD m 0∈Bo fs:=qa8 (Gm (d:=0) hm);obtain⟨⟨p0,p1⟩,_⟩:=Ka lab RI;have hix:=BQ lab hm
     have e5:((Bo fs).take (m+1)).map (fun p=>nmAt ns p.toNat)=((Bo fs).take m).map (fun p=>nmAt ns p.toNat)++[nmAt ns ((Bo fs).getD m 0).toNat]:=by
      rw[qd6,Gm (d:=0) hm,qa6];rfl
     generalize (Bo fs).getD m 0=p at p0 p1 hix e5;have g3:=s3.trans g;refine⟨_,rfl,_,rfl,R,_,_,_,rfl,rfl,.of (g _ _ hR),rfl,.inl ⟨rfl,_,.of (g _ _ hP)⟩,_,rfl,Bx (Gi fs),.int (m:Int),.int (m:Int),p.toNat,rfl,⟨P,_,rfl,.of (g _ _ hP),Dr.mpr rfl⟩,rfl,(by rw[E8];decide),hix,?_⟩;refine⟨n,_,_,_,rfl,rfl,g3.seq hN,Kj O9m O9m,cI,Bh (by rw[hys,qa1,qa1,qb5];omega),g.turn hE,Ab,?_,O9m,_,rfl⟩;rw[e5,hys,qa6];rfl
   . rintro ys τ G ⟨g,cI,hys,_⟩;rw[qb4]at hys;refine⟨Au (by simp),fun T1 hT1=>?_⟩;have s4:=g.trans (Same.new (o:=.tup [.ref L,.ref E]) hT1);refine k (.ref T1) fs _ (s3.trans s4) lab cl te ⟨T1,L,E,rfl,Ab,⟨L,us,rfl,.of (s4 _ _ fM),Reps.same s4 rL⟩,?_⟩;refine .of ?_;have:=(Same.new (o:=.tup [.ref L,.ref E]) hT1) _ _ cI;rw[hys]at this;exact this
noncomputable abbrev Iu:Stmt:=Qy (Ew 113) 3
theorem Hh:FnScope ["self","words","asked","shape","names"] ["self","words","asked"] (As Iu):=Bb
theorem R4{f:Addr}{fd:FuncData}(F:D5 K "answer" "Desk.answer" Iu f fd)(T:Txt K mg Aq)(Sh:Has P w K mg base "written" ["shape","names"] 2 (Mr K))(Lc:Has P w K mg base "holes_text" ["shape"] 1 (aY K))(Nb:Has P w K mg base "bars_text" ["shape","names","prime"] 1 (aY K))(Eb:cG P w K mg base Aq "keep" ["self","name","pair"] 1 (Jo K Aq))(F3:Has P w K mg base "core_with_names" ["shape","names"] 6 (G7 K))(Fm:Has P w K mg base "glued_with_names" ["shape","names","words"] 8 (Gk K)):Bt P w K mg base Dw 9 f fd ["self","words","asked"] (Kp K Aq):=by
 refine F.ok Hh (fun vs H Q E h=>?_) (fun Da A outer s H vs Q E hr h=>?_)
 . obtain⟨_,_,_,_,_,_,_,_,_,rfl,_⟩:=h;rfl
 . obtain⟨a,d,l,m,m1,n,ws,tt,asked,rfl,hD,hn,hS,hW,Lb,HH,k⟩:=h;have J5:=hr.u8
   refine⟨_,(Ad (Al (i:=3) Hh.nd (Ap (aA (K:=K)) (Wd (u1 J5) (Of (K:=K) (pv 0)) (pv 2) (fun _ _=>rfl)) Af (fun _ _=>rfl)))
    (Ad (Al (i:=4) Hh.nd (Ap (aA (K:=K)) (Wd (u1 J5) (Of (K:=K) (pv 0)) (pv 2) (fun _ _=>rfl)) Af (fun _ _=>rfl)))
    (Ad (Bj (Aw Cb (Ap (Ah (K:=K)) (pv 1) Af (fun _ _=>rfl)) Bg (A9 _)) (Ag (Av (Ak Sh hr (Aa (pv 3) (Aa (pv 4) Ac))))) Ax)
    (Ad (Bj (Aw Cb (Ap (Ah (K:=K)) (pv 1) Af (fun _ _=>rfl)) Bg (A9 _)) (Ag (Av (Ak Lc hr (Aa (pv 3) Ac)))) Ax)
    (Ad (Bj (Aw Cb (Ap (Ah (K:=K)) (pv 1) Af (fun _ _=>rfl)) Bg (A9 _)) (Ag (Av (Ak Nb hr (Aa (pv 3) (Aa (pv 4) (Aa (Cg CD (by rfl) T.n_int boot_intT (Aa (Ap (Ah (K:=K)) (pv 1) Af (fun _ _=>rfl)) Ac)) Ac)))))) Ax)
    (Ad (Bj (Aw Cb (Ap (Ah (K:=K)) (pv 1) Af (fun _ _=>rfl)) Bg (A9 _)) (Ag (Av (K2 (pv 0) T.cl_Desk Eb hr (Aa (Ap (Ah (K:=K)) (pv 1) Af (fun _ _=>rfl)) (Aa (Ak F3 hr (Aa (pv 3) (Aa (pv 4) Ac))) Ac))))) Ax)
    (Ad (Bj (Aw Cb (Ap (Ah (K:=K)) (pv 1) Af (fun _ _=>rfl)) Bg (A9 _)) (Ag (Av (K2 (pv 0) T.cl_Desk Eb hr (Aa (Ap (Ah (K:=K)) (pv 1) Af (fun _ _=>rfl)) (Aa (Ak Fm hr (Aa (pv 3) (Aa (pv 4) (Aa (Ct (Je (K:=K)) (pv 1) (Cw Af) Ej) Ac)))) Ac))))) Ax)
    (Ad (C5 (dH (Of (K:=K) (pv 0)) (pv 2) ⟨by rfl,by rfl,by rfl,by rfl⟩))
    (Ag (Av Bg)))))))))),?_⟩
   cases Lb with
   | keep h=>exact absurd rfl hW.nokeep
   | @«show» nm xs ns ho ok =>
     have ea:nm=asked:=by rcases HH with⟨_,h⟩|⟨h,_⟩;exact qb6 h;exact absurd h (by simp)
     subst ea;obtain⟨⟨dx,hob⟩,dS,Az,hd,Se,hent⟩:=id hD;have l8:SqL K H l _:=Ck.seq hS;rcases hent nm with⟨e1,_⟩|⟨z,v,e1,hv,hP⟩
     . rw[ho]at e1;cases e1
     rw[ho]at e1;cases e1;obtain⟨t0,L,N,rfl,ht,hL,hN⟩:=hP;have ht':=Ck _ _ ht;have hL':=Rep.same Ck hL;have OB:=Ck.seq hN;refine Co [rS a,rS l,some (.str nm),rS L,none] H (fun D0 h0=>⟨_,rfl,a,Aq,dx,_,_,rfl,hob,T.cl_Desk,T.na_Desk_kept,rfl,_,rfl,d,_,rfl,.inl ⟨Az,.inr nm,.inl hd,rfl,hv.symm⟩,.inr (.inl ⟨t0,_,_,_,rfl,rfl,.of ht',rfl,h0⟩)⟩) ?_;refine Co [rS a,rS l,some (.str nm),rS L,rS N] H (fun D0 h0=>⟨_,rfl,a,Aq,dx,_,_,rfl,hob,T.cl_Desk,T.na_Desk_kept,rfl,_,rfl,d,_,rfl,.inl ⟨Az,.inr nm,.inl hd,rfl,hv.symm⟩,.inr (.inl ⟨t0,_,_,_,rfl,rfl,.of ht',rfl,h0⟩)⟩) ?_;refine⟨_,rfl,l,_,_,_,rfl,rfl,l8,Hr _ _,rfl,_,rfl,?_⟩;refine Hz (by decide +kernel) ?_;exact⟨_,rfl,_,rfl,.ref L,N,xs,ns,rfl,hL',OB,ok.sh,ok.le,ok.len,ok.ok,fun H1 s1=>k H1 (E5 s1) ((hD.same s1).mono (qp4 _))⟩
   | @core nm o xs ns ho ok =>
     have ea:o=asked:=by rcases HH with⟨h,_⟩|⟨_,h⟩;exact absurd h (by simp);exact qb6 h
     subst ea;obtain⟨⟨dx,hob⟩,dS,Az,hd,Se,hent⟩:=id hD;have l8:SqL K H l _:=Ck.seq hS;rcases hent o with⟨e1,_⟩|⟨z,v,e1,hv,hP⟩
     . rw[ho]at e1;cases e1
     rw[ho]at e1;cases e1;obtain⟨t0,L,N,rfl,ht,hL,hN⟩:=hP;have ht':=Ck _ _ ht;have hL':=Rep.same Ck hL;have OB:=Ck.seq hN;refine Co [rS a,rS l,some (.str o),rS L,none] H (fun D0 h0=>⟨_,rfl,a,Aq,dx,_,_,rfl,hob,T.cl_Desk,T.na_Desk_kept,rfl,_,rfl,d,_,rfl,.inl ⟨Az,.inr o,.inl hd,rfl,hv.symm⟩,.inr (.inl ⟨t0,_,_,_,rfl,rfl,.of ht',rfl,h0⟩)⟩) ?_;refine Co [rS a,rS l,some (.str o),rS L,rS N] H (fun D0 h0=>⟨_,rfl,a,Aq,dx,_,_,rfl,hob,T.cl_Desk,T.na_Desk_kept,rfl,_,rfl,d,_,rfl,.inl ⟨Az,.inr o,.inl hd,rfl,hv.symm⟩,.inr (.inl ⟨t0,_,_,_,rfl,rfl,.of ht',rfl,h0⟩)⟩) ?_;refine Co [rS a,rS l,some (.str o),rS L,rS N] H (fun D0 h0=>⟨_,rfl,l,_,_,_,rfl,rfl,l8,Hr _ _,rfl,_,rfl,Dt (by decide +kernel) h0⟩) ?_;refine Co [rS a,rS l,some (.str o),rS L,rS N] H (fun D0 h0=>⟨_,rfl,l,_,_,_,rfl,rfl,l8,Hr _ _,rfl,_,rfl,Dt (by decide +kernel) h0⟩) ?_;refine Co [rS a,rS l,some (.str o),rS L,rS N] H (fun D0 h0=>⟨_,rfl,l,_,_,_,rfl,rfl,l8,Hr _ _,rfl,_,rfl,Dt (by decide +kernel) h0⟩) ?_;refine⟨_,rfl,l,_,_,_,rfl,rfl,l8,Hr _ _,rfl,_,rfl,?_⟩;refine Hz (by decide +kernel) ?_;refine⟨_,rfl,a,dx,_,rfl,hob,rfl,_,rfl,l,_,_,_,rfl,rfl,l8,CQ _ _ _,_,rfl,_,rfl,L,N,xs,ns,rfl,hL',OB,ok,fun v H1 s1 oB hc=>?_⟩;have e0:(B1 xs).length=(Eh xs (B1 xs)).length:=(Fb _ _).symm;refine⟨a,d,m,n,nm,v,_,_,rfl,hD.same s1,hn,oB.hid (s1 _ _ hd),?_,fun H2 s2 Hq=>?_⟩
     . rw[Fb];exact qe1 (Fl _ _) (qe1 ok.le (by decide))
     . rw[←e0];exact k H2 ((E5 s1).trans s2) Hq
   | @glue nm o xs ns pw ps fs ho ok hws bL hps lab te =>
     have ea:o=asked:=by rcases HH with⟨h,_⟩|⟨_,h⟩;exact absurd h (by simp);exact qb6 h
     subst ea;obtain⟨⟨dx,hob⟩,dS,Az,hd,Se,hent⟩:=id hD;have l8:SqL K H l _:=Ck.seq hS;rcases hent o with⟨e1,_⟩|⟨z,v,e1,hv,hP⟩
     . rw[ho]at e1;cases e1
     rw[ho]at e1;cases e1;obtain⟨t0,L,N,rfl,ht,hL,hN⟩:=hP;have ht':=Ck _ _ ht;have hL':=Rep.same Ck hL;have OB:=Ck.seq hN;refine Co [rS a,rS l,some (.str o),rS L,none] H (fun D0 h0=>⟨_,rfl,a,Aq,dx,_,_,rfl,hob,T.cl_Desk,T.na_Desk_kept,rfl,_,rfl,d,_,rfl,.inl ⟨Az,.inr o,.inl hd,rfl,hv.symm⟩,.inr (.inl ⟨t0,_,_,_,rfl,rfl,.of ht',rfl,h0⟩)⟩) ?_;refine Co [rS a,rS l,some (.str o),rS L,rS N] H (fun D0 h0=>⟨_,rfl,a,Aq,dx,_,_,rfl,hob,T.cl_Desk,T.na_Desk_kept,rfl,_,rfl,d,_,rfl,.inl ⟨Az,.inr o,.inl hd,rfl,hv.symm⟩,.inr (.inl ⟨t0,_,_,_,rfl,rfl,.of ht',rfl,h0⟩)⟩) ?_;refine Co [rS a,rS l,some (.str o),rS L,rS N] H (fun D0 h0=>⟨_,rfl,l,_,_,_,rfl,rfl,l8,Hr _ _,rfl,_,rfl,Dt (by decide +kernel) h0⟩) ?_;refine Co [rS a,rS l,some (.str o),rS L,rS N] H (fun D0 h0=>⟨_,rfl,l,_,_,_,rfl,rfl,l8,Hr _ _,rfl,_,rfl,Dt (by decide +kernel) h0⟩) ?_;refine Co [rS a,rS l,some (.str o),rS L,rS N] H (fun D0 h0=>⟨_,rfl,l,_,_,_,rfl,rfl,l8,Hr _ _,rfl,_,rfl,Dt (by decide +kernel) h0⟩) ?_;refine Co [rS a,rS l,some (.str o),rS L,rS N] H (fun D0 h0=>⟨_,rfl,l,_,_,_,rfl,rfl,l8,Hr _ _,rfl,_,rfl,Dt (by decide +kernel) h0⟩) ?_;refine⟨_,rfl,l,_,_,_,rfl,rfl,l8,Hr _ _,rfl,_,rfl,?_⟩;refine Hz (by decide +kernel) ?_;refine⟨_,rfl,a,dx,_,rfl,hob,rfl,_,rfl,l,_,_,_,rfl,rfl,l8,CQ _ _ _,_,rfl,_,rfl,_,rfl,_,rfl,l,_,rfl,l8,fun c hc=>?_⟩;rw[show cutV ((wT "glue"::nm::o::pw).map V.str) (some 3) none=pw.map V.str from(cut_from (k:=3) (by simp)).trans rfl];have s5:Same H (upd H c (.lst (pw.map V.str))):=Same.new hc;have e5:upd H c (.lst (pw.map V.str)) c=some (.lst (pw.map V.str)):=Ab;generalize upd H c (.lst (pw.map V.str))=H5 at s5 e5;refine⟨L,N,c,xs,ns,pw,ps,rfl,Rep.same s5 hL',s5.seq OB,.of e5,ok,hws,bL,hps,fun v fs' H1 s1 nT XR VB oB=>?_⟩;have xP:fs'=fs:=DW nT lab VB te;subst xP;have e0:(Bo fs').length=(Kk xs fs').length:=(qa1 ..).symm;have QF:=s5.trans s1;refine⟨a,d,m,n,nm,v,_,_,rfl,hD.same QF,hn,oB.hid (QF _ _ hd),?_,fun H2 s2 Hq=>?_⟩
     . exact qe1 (AF ok nT XR).le (by decide)
     . rw[←e0];exact k H2 ((E5 QF).trans s2) Hq
noncomputable abbrev Kz:Stmt:=Qy (Ew 113) 1
theorem Jq:FnScope ["self","thing","words","asked"] ["self","thing"] (As Kz):=Bb
theorem Wn{f:Addr}{fd:FuncData}(F:D5 K "tell" "Desk.tell" Kz f fd)(T:Txt K mg Aq)(Pk:Has P w K mg base "words_of" ["thing"] 4 (Py K))(Ix:cG P w K mg base Aq "answer" ["self","words","asked"] 9 (Kp K Aq))(Eb:cG P w K mg base Aq "keep" ["self","name","pair"] 1 (Jo K Aq))(EJ:Has P w K mg base "read" ["thing"] 7 (w6 K)):Bt P w K mg base Dw 10 f fd ["self","thing"] (Ny K Aq):=by
 refine F.ok Jq (fun vs H Q E h=>?_) (fun Da A outer s H vs Q E hr h=>?_)
 . obtain⟨_,_,_,_,_,_,_,_,rfl,_⟩:=h;rfl
 . obtain⟨a,d,m,m1,n,x,ws,tt,rfl,hD,hn,Fa,Lb,k⟩:=h;have J5:=hr.u8
   refine⟨_,(Ad (Al (i:=2) Jq.nd (Ak Pk hr (Aa (pv 1) Ac)))
    (Ad (Bj (Aw Cb (Ap (Ah (K:=K)) (pv 2) Af (fun _ _=>rfl)) Bg (A9 _)) (Ag (Av (K2 (pv 0) T.cl_Desk Eb hr (Aa (Ap (Ah (K:=K)) (pv 2) Af (fun _ _=>rfl)) (Aa (Ak EJ hr (Aa (Ap (Ah (K:=K)) (pv 2) Af (fun _ _=>rfl)) Ac)) Ac))))) Ax)
    (Ad (Al (i:=3) Jq.nd (Rx (Aw (Wt (K:=K) J5) (Ap (Ah (K:=K)) (pv 2) Af (fun _ _=>rfl)) (Bs (Aa Bg (Aa Bg Ac))) rfl) (Ap (Ah (K:=K)) (pv 2) Af (fun _ _=>rfl)) (Ap (Ah (K:=K)) (pv 2) Af (fun _ _=>rfl))))
    (Ad (Bj (Aw (Ux (u1 J5)) (pv 3) (Of (K:=K) (pv 0)) rfl) (Ag Ea) Ax)
    (Ag (Av (K2 (pv 0) T.cl_Desk Ix hr (Aa (pv 2) (Aa (pv 3) Ac))))))))),?_⟩
   refine qr5 (fun σ' H'=>∃l:Addr,σ'=[rS a,some (.str x),rS l,none]/\Same H H'/\SqL K H' l (ws.map V.str)) (fun key=>?_) ?_
   . exact⟨_,rfl,x,ws,rfl,Fa,fun l H1 s1 hl=>key _ _ ⟨l,rfl,s1,hl⟩⟩
   refine Gj fun l H1 s1 hl=>?_
   have hW:ws[0]?=some (wT "keep")\/Hv ws:=by
    cases Fa with
    | keep h1 h2=>exact .inl rfl
    | other h=>exact .inr h
   clear Fa;have k9:=Lb;cases Lb with
   | @keep nm xs ns ok =>
     have J9:=hD.same s1;obtain⟨⟨dx,hob⟩,dS,Az,hd,Se,hent⟩:=id J9;refine⟨_,rfl,l,_,_,_,rfl,rfl,hl,Hr _ _,rfl,_,rfl,?_⟩;refine Hz (by decide +kernel) ?_;refine⟨_,rfl,a,dx,_,rfl,hob,rfl,_,rfl,l,_,_,_,rfl,rfl,hl,CQ _ _ _,_,rfl,l,_,_,_,rfl,rfl,hl,Ca (j:=2) rfl,xs,ns,rfl,ok.sh,ok.le,ok.len,ok.nd,ok.ok,fun t l1 l2 us H2 n1 n2 YB n3 n4 s2 ht h1 r1 h2=>?_⟩;have hP:PrAt K H2 (.ref t) xs ns:=⟨t,l1,l2,rfl,ht,⟨l1,us,rfl,.of h1,r1⟩,.of h2⟩
     refine⟨a,d,m,n,nm,.ref t,xs,ns,rfl,J9.same s2,hn,hP.hid (s2 _ _ hd),qe1 ok.le (by decide),fun H3 s3 EM=>?_⟩;exact k H3 ((E5 (s1.trans s2)).trans s3) EM
   | @«show» nm xs ns ho ok =>
     have EE:Hv [wT "show",nm]:=hW.resolve_left fun e=>absurd (qb6 e) (by decide +kernel);refine Co [rS a,some (.str x),rS l,none] H1 (fun D0 h0=>⟨_,rfl,l,_,_,_,rfl,rfl,hl,Hr _ _,rfl,_,rfl,Dt (by decide +kernel) h0⟩) ?_;refine qr5 (fun σ' H'=>σ'=[rS a,some (.str x),rS l,some (.str nm)]/\Same H1 H') (fun key=>?_) ?_
     . refine⟨_,rfl,l,_,_,_,rfl,rfl,hl,Hr _ _,Au (by simp),fun p hp=>?_⟩;have sp:Same H1 (upd H1 p (.tup [V.str (Str.ofString "core"),V.str (Str.ofString "glue")])):=Same.new hp;have ep:upd H1 p (.tup [V.str (Str.ofString "core"),V.str (Str.ofString "glue")]) p=some (.tup [V.str (Str.ofString "core"),V.str (Str.ofString "glue")]):=Ab;refine⟨.str (wT "show"),[Str.ofString "core",Str.ofString "glue"].map L2.D.str,rfl,.inr ⟨p,_,rfl,.of ep,Dq.mpr rfl⟩,Gv _,_,rfl,?_⟩;generalize upd H1 p (.tup [V.str (Str.ofString "core"),V.str (Str.ofString "glue")])=H2 at sp ep
       have es:(if false=true then !(([Str.ofString "core",Str.ofString "glue"].map L2.D.str).any fun e=>eqD e (.str (wT "show"))) else([Str.ofString "core",Str.ofString "glue"].map L2.D.str).any fun e=>eqD e (.str (wT "show")))=false:=by
        rw[if_neg qc2,Kd];decide +kernel
       rw[es];refine Dt (by simp) ?_;exact⟨_,rfl,l,_,_,_,rfl,rfl,sp.seq hl,CQ _ _ _,key _ _ ⟨rfl,sp⟩⟩
     refine Q4 fun H2 s2=>?_;have Uu:=s1.trans s2;have Hq:=hD.same Uu;obtain⟨⟨dx,hob⟩,dS,Az,hd,Se,hent⟩:=id Hq
     have hin:(valV Az (.inr nm)).isSome=true:=by
      rcases hent nm with⟨e1,_⟩|⟨z,v,e1,hv,hP⟩
      . rw[ho]at e1;cases e1
      . rw[hv];rfl
     refine Co [rS a,some (.str x),rS l,some (.str nm)] H2 (fun D0 h0=>⟨_,rfl,_,rfl,a,Aq,dx,_,_,rfl,hob,T.cl_Desk,T.na_Desk_kept,rfl,d,Az,.inr nm,rfl,hd,rfl,_,rfl,Dt (by rw[hin];simp) h0⟩) ?_;exact⟨_,rfl,a,dx,_,rfl,hob,rfl,_,rfl,_,rfl,a,d,l,m,_,n,_,_,nm,rfl,Hq,hn,Np hd (s2.seq hl),EE,k9,.inl ⟨rfl,rfl⟩,fun H3 s3 EM=>k H3 ((E5 Uu).trans s3) EM⟩
   | @core nm o xs ns ho ok =>
     have EE:Hv [wT "core",nm,o]:=hW.resolve_left fun e=>absurd (qb6 e) (by decide +kernel);refine Co [rS a,some (.str x),rS l,none] H1 (fun D0 h0=>⟨_,rfl,l,_,_,_,rfl,rfl,hl,Hr _ _,rfl,_,rfl,Dt (by decide +kernel) h0⟩) ?_;refine qr5 (fun σ' H'=>σ'=[rS a,some (.str x),rS l,some (.str o)]/\Same H1 H') (fun key=>?_) ?_
     . refine⟨_,rfl,l,_,_,_,rfl,rfl,hl,Hr _ _,Au (by simp),fun p hp=>?_⟩;have sp:Same H1 (upd H1 p (.tup [V.str (Str.ofString "core"),V.str (Str.ofString "glue")])):=Same.new hp;have ep:upd H1 p (.tup [V.str (Str.ofString "core"),V.str (Str.ofString "glue")]) p=some (.tup [V.str (Str.ofString "core"),V.str (Str.ofString "glue")]):=Ab;refine⟨.str (wT "core"),[Str.ofString "core",Str.ofString "glue"].map L2.D.str,rfl,.inr ⟨p,_,rfl,.of ep,Dq.mpr rfl⟩,Gv _,_,rfl,?_⟩;generalize upd H1 p (.tup [V.str (Str.ofString "core"),V.str (Str.ofString "glue")])=H2 at sp ep
       have es:(if false=true then !(([Str.ofString "core",Str.ofString "glue"].map L2.D.str).any fun e=>eqD e (.str (wT "core"))) else([Str.ofString "core",Str.ofString "glue"].map L2.D.str).any fun e=>eqD e (.str (wT "core")))=true:=by
        rw[if_neg qc2,Kd];decide +kernel
       rw[es];refine Hz rfl ?_;exact⟨_,rfl,l,_,_,_,rfl,rfl,sp.seq hl,Ca (j:=2) rfl,key _ _ ⟨rfl,sp⟩⟩
     refine Q4 fun H2 s2=>?_;have Uu:=s1.trans s2;have Hq:=hD.same Uu;obtain⟨⟨dx,hob⟩,dS,Az,hd,Se,hent⟩:=id Hq
     have hin:(valV Az (.inr o)).isSome=true:=by
      rcases hent o with⟨e1,_⟩|⟨z,v,e1,hv,hP⟩
      . rw[ho]at e1;cases e1
      . rw[hv];rfl
     refine Co [rS a,some (.str x),rS l,some (.str o)] H2 (fun D0 h0=>⟨_,rfl,_,rfl,a,Aq,dx,_,_,rfl,hob,T.cl_Desk,T.na_Desk_kept,rfl,d,Az,.inr o,rfl,hd,rfl,_,rfl,Dt (by rw[hin];simp) h0⟩) ?_;exact⟨_,rfl,a,dx,_,rfl,hob,rfl,_,rfl,_,rfl,a,d,l,m,_,n,_,_,o,rfl,Hq,hn,Np hd (s2.seq hl),EE,k9,.inr ⟨qa9 _,rfl⟩,fun H3 s3 EM=>k H3 ((E5 Uu).trans s3) EM⟩
   | @glue nm o xs ns pw ps fs ho ok hws bL hps lab te =>
     have EE:Hv (wT "glue"::nm::o::pw):=hW.resolve_left fun e=>absurd (qb6 e) (by decide +kernel);refine Co [rS a,some (.str x),rS l,none] H1 (fun D0 h0=>⟨_,rfl,l,_,_,_,rfl,rfl,hl,Hr _ _,rfl,_,rfl,Dt (by decide +kernel) h0⟩) ?_;refine qr5 (fun σ' H'=>σ'=[rS a,some (.str x),rS l,some (.str o)]/\Same H1 H') (fun key=>?_) ?_
     . refine⟨_,rfl,l,_,_,_,rfl,rfl,hl,Hr _ _,Au (by simp),fun p hp=>?_⟩;have sp:Same H1 (upd H1 p (.tup [V.str (Str.ofString "core"),V.str (Str.ofString "glue")])):=Same.new hp;have ep:upd H1 p (.tup [V.str (Str.ofString "core"),V.str (Str.ofString "glue")]) p=some (.tup [V.str (Str.ofString "core"),V.str (Str.ofString "glue")]):=Ab;refine⟨.str (wT "glue"),[Str.ofString "core",Str.ofString "glue"].map L2.D.str,rfl,.inr ⟨p,_,rfl,.of ep,Dq.mpr rfl⟩,Gv _,_,rfl,?_⟩;generalize upd H1 p (.tup [V.str (Str.ofString "core"),V.str (Str.ofString "glue")])=H2 at sp ep
       have es:(if false=true then !(([Str.ofString "core",Str.ofString "glue"].map L2.D.str).any fun e=>eqD e (.str (wT "glue"))) else([Str.ofString "core",Str.ofString "glue"].map L2.D.str).any fun e=>eqD e (.str (wT "glue")))=true:=by
        rw[if_neg qc2,Kd];decide +kernel
       rw[es];refine Hz rfl ?_;exact⟨_,rfl,l,_,_,_,rfl,rfl,sp.seq hl,Ca (j:=2) rfl,key _ _ ⟨rfl,sp⟩⟩
     refine Q4 fun H2 s2=>?_;have Uu:=s1.trans s2;have Hq:=hD.same Uu;obtain⟨⟨dx,hob⟩,dS,Az,hd,Se,hent⟩:=id Hq
     have hin:(valV Az (.inr o)).isSome=true:=by
      rcases hent o with⟨e1,_⟩|⟨z,v,e1,hv,hP⟩
      . rw[ho]at e1;cases e1
      . rw[hv];rfl
     refine Co [rS a,some (.str x),rS l,some (.str o)] H2 (fun D0 h0=>⟨_,rfl,_,rfl,a,Aq,dx,_,_,rfl,hob,T.cl_Desk,T.na_Desk_kept,rfl,d,Az,.inr o,rfl,hd,rfl,_,rfl,Dt (by rw[hin];simp) h0⟩) ?_;exact⟨_,rfl,a,dx,_,rfl,hob,rfl,_,rfl,_,rfl,a,d,l,m,_,n,_,_,o,rfl,Hq,hn,Np hd (s2.seq hl),EE,k9,.inr ⟨by simp,rfl⟩,fun H3 s3 EM=>k H3 ((E5 Uu).trans s3) EM⟩
noncomputable abbrev Rl:Stmt:=Ew 147
theorem Ur:FnScope ["_law_desk","_law_row","_law_due","_law_found"] ["_law_desk","_law_row","_law_due"] (As Rl):=Bb
theorem bD{f:Addr}{fd:FuncData}(F:D5 K "_law_told" "_law_told" Rl f fd)(T:Txt K mg Aq)(La:cG P w K mg base Aq "tell" ["self","thing"] 10 (Ny K Aq)):Bt P w K mg base Dw 11 f fd ["_law_desk","_law_row","_law_due"] (Uj K Aq):=by
 refine F.ok Ur (fun vs H Q E h=>?_) (fun Da A outer s H vs Q E hr h=>?_)
 . obtain⟨_,_,_,_,_,_,_,_,rfl,_⟩:=h;rfl
 . obtain⟨a,d,m,m1,n,x,ws,tt,rfl,hD,hn,Fa,Lb,k⟩:=h;have J5:=hr.u8;obtain⟨⟨dx,hob⟩,_⟩:=id hD
   refine⟨_,(Ad (Al (i:=3) Ur.nd (K2 (pv 0) T.cl_Desk La hr (Aa (pv 1) Ac)))
    (Ag (Av (Dy (Ao (Cf (K:=K)) T.n_isinstance Bn (Aa (pv 3) (Aa (Er (v:=.ty "str") rfl T.n_str F5 rfl) Ac))) (Fh (Fi (GY (K:=K) J5) (pv 3) (pv 2) (A9 _))))))),?_⟩
   refine qr5 (fun σ' H'=>σ'=[rS a,some (.str x),some (.str tt),some (.str tt)]/\Same (hid1 H d) (hid1 H' d)/\Cy K Aq H' a d m1 (n+1)) (fun key=>?_) ?_
   . exact⟨_,rfl,a,dx,_,rfl,hob,rfl,_,rfl,a,d,m,m1,n,x,ws,tt,rfl,hD,hn,Fa,Lb,fun H1 s1 h1=>key _ _ ⟨rfl,s1,h1⟩⟩
   refine IF fun H1 s1 h1=>?_;refine⟨_,rfl,_,"str",.str tt,rfl,.inr (.inr (.inl rfl)),rfl,_,rfl,?_⟩;refine Hz (by rfl) ?_;refine⟨_,rfl,_,rfl,.str tt,.str tt,rfl,rfl,qb3 _,?_⟩;rw[show eqD (D.str tt) (D.str tt)=true by simp[eqD]];exact k H1 s1 h1
noncomputable abbrev N5:Stmt:=Ew 148
theorem Em:FnScope ["_law_script","_law_kind","_law_pieces","_law_names_here","_law_text_here","_law_pairs","_law_words","_law_desk","_law_small","_law_lots","_law_rows","_law_row","_law_due"] ["_law_script"] (As N5):=Bb
theorem jU{f:Addr}{fd:FuncData}(F:D5 K "law" "law" N5 f fd)(T:Txt K mg Aq)(So:Has P w K mg base "_law_names" ["_law_cell","_law_many"] 1 (Re K))(W5:Has P w K mg base "_law_text" ["_law_pieces","_law_names_here"] 1 (Uk K))(Le:Has P w K mg base "_law_pairs_by" ["_law_pieces","_law_script"] 2 (Nw K))(Wz:LS P w K mg base Aq ["self"] 1 (Nz K Aq))(Lh:Has P w K mg base "_law_core_due" ["_law_pieces","_law_names_here"] 2 (Md K))(Lg:Has P w K mg base "_law_glue_due" ["_law_pieces","_law_names_here","_law_pairs"] 1 (Mc K))(Ee:Has P w K mg base "_law_cell_at" ["_law_script","_law_k"] 1 (Jn K))(Nd:Has P w K mg base "_law_shifted" ["_law_pieces"] 1 (Nv K))(Sq:Has P w K mg base "_law_built" ["_law_kind","_law_cells","_law_most"] 4 (Ui K))(W4:Has P w K mg base "_law_told" ["_law_desk","_law_row","_law_due"] 11 (Uj K Aq)):Bt P w K mg base Dw 12 f fd ["_law_script"] (V0 K):=by
 refine F.ok Em (fun vs H Q E h=>?_) (fun Da A outer s H vs Q E hr h=>?_)
 . obtain⟨_,_,rfl,_⟩:=h;rfl
 . obtain⟨a,ns,rfl,hS,hl,k⟩:=h;have p4:(0:Int)<4:=by decide
   refine⟨_,(Ad (Al (i:=1) Em.nd (Ay Cd (Ak Ee hr (Aa (pv 0) (Aa Af Ac))) Af))
    (Ad (Al (i:=2) Em.nd (Ay (Ds (K:=K)) (Cc (Aa (Bs Ac) Ac)) (Ak Nd hr (Aa (Ak Sq hr (Aa (Ay Ek (pv 1) Af) (Aa (Ct (Je (K:=K)) (pv 0) (Cw Af) (Cw Af)) (Aa (Ap (Bc (K:=K)) (Bs (Aa Af (Aa Af (Aa Af (Aa Af Ac))))) (Ay Cd (pv 1) Af) (fun _ _=>rfl)) Ac)))) Ac))))
    (Ad (Al (i:=3) Em.nd (Ak So hr (Aa (Ay Cd (Ak Ee hr (Aa (pv 0) (Aa Af Ac))) Af) (Aa (Ao (Ai (K:=K)) T.n_len qe0 (Aa (pv 2) Ac)) Ac))))
    (Ad (Al (i:=4) Em.nd (Ak W5 hr (Aa (pv 2) (Aa (pv 3) Ac))))
    (Ad (Al (i:=5) Em.nd (Ak Le hr (Aa (pv 2) (Aa (pv 0) Ac))))
    (Ad (Al (i:=6) Em.nd (B0 (K:=K) qd8 qg1 qg0 (Fk (K:=K)) Bg (Aa (Bm (N':=["_law_pair","_law_names_here"]) (cap:=[none,some 3]) (by rfl) (by kernel_rfl) (Bi (K:=K) (pv 5)) (fun _ _ _ _=>(Am (i:=0) JV)) (fun _ _ _ _=>Bk) (fun _ _ _ _=>(Ay Cs (Ay Cs (Ap (Ah (K:=K)) (pv 1) (Ap (Bc (K:=K)) (pv 0) Af (fun _ _=>rfl)) (fun _ _=>rfl)) Bg) (Ap (Ah (K:=K)) (pv 1) (Ap (Bc (K:=K)) (pv 0) Af (fun _ _=>rfl)) (fun _ _=>rfl))))) Ac)))
    (Ad (Al (i:=7) Em.nd (bB Wz hr (by rfl) T.m_Desk))
    (Ad (Al (i:=8) Em.nd (Ak Lh hr (Aa (pv 2) (Aa (pv 3) Ac))))
    (Ad (Al (i:=9) Em.nd (Ak Lg hr (Aa (pv 2) (Aa (pv 3) (Aa (pv 5) Ac)))))
    (Ad (Al (i:=10) Em.nd (Cc (Aa (Bs (Aa (Ay Cs Bg (pv 4)) (Aa (Ay Cs Bg (Cg Lx (by rfl) T.n_str F5 (Aa (Ao (Ai (K:=K)) T.n_len qe0 (Aa (pv 2) Ac)) Ac))) Ac))) (Aa (Bs (Aa Bg (Aa (Ay Cs Bg (Cg Lx (by rfl) T.n_str F5 (Aa (Ap (Bc (K:=K)) (pv 8) Af (fun _ _=>rfl)) Ac))) Ac))) Ac))))
    (Ad (Al (i:=10) Em.nd (Ay (Ds (K:=K)) (pv 10) (Cc (Aa (Bs (Aa Bg (Aa (Ap (Bc (K:=K)) (pv 8) Af (fun _ _=>rfl)) Ac))) (Aa (Bs (Aa Bg (Aa (pv 4) Ac))) Ac)))))
    (Ad (Al (i:=10) Em.nd (Ay (Ds (K:=K)) (pv 10) (Cc (Aa (Bs (Aa (Ay Cs Bg (pv 6)) (Aa (Ay Cs Bg (Cg Lx (by rfl) T.n_str F5 (Aa (Ap (Bc (K:=K)) (pv 9) Af (fun _ _=>rfl)) Ac))) Ac))) (Aa (Bs (Aa Bg (Aa (Ap (Bc (K:=K)) (pv 9) Af (fun _ _=>rfl)) Ac))) (Aa (Bs (Aa Bg (Aa (pv 4) Ac))) Ac))))))
    (Ad (Al (i:=10) Em.nd (Ay (Ds (K:=K)) (pv 10) (Cc (Aa (Bs (Aa (Ay Cs Bg (pv 6)) (Aa (Ay Cs Bg (Cg Lx (by rfl) T.n_str F5 (Aa (Ap (Bc (K:=K)) (pv 9) Af (fun _ _=>rfl)) Ac))) Ac))) (Aa (Bs (Aa Bg (Aa (Ap (Bc (K:=K)) (pv 9) Af (fun _ _=>rfl)) Ac))) Ac)))))
    (Ad (Ce qc3 rfl (Bi (K:=K) (pv 10)) (Fj (K:=K) (n:=2) (by rfl) (B4 (Am (i:=11) Em.nd) (B4 (Am (i:=12) Em.nd) Fg))) (Ag (Bj (Dx (Cq (Ak W4 hr (Aa (pv 7) (Aa (pv 11) (Aa (pv 12) Ac)))))) (Ag (Av E3)) Ax)))
    (Ag (Av E3)))))))))))))))),?_⟩
   refine qr5 (fun σ' H'=>∃kind:Int,σ'=[rS a,iS kind,none,none,none,none,none,none,none,none,none,none,none]/\H=H') (fun key=>?_) ?_
   . exact⟨_,rfl,a,ns,0,rfl,hS,by decide,hl,_,_,rfl,rfl,(by show(0:Int)<1000003;decide),key _ _ ⟨_,rfl,rfl⟩⟩
   refine iG fun kind=>?_;have k0:=qj2 kind (show(4:Int)≠0 by decide);have k1:=qg8 kind p4;refine qr5 (fun σ' H'=>∃(p:Addr) (us:List V) (xs:LLInt),σ'=[rS a,iS kind,rS p,none,none,none,none,none,none,none,none,none,none]/\Same H H'/\H' p=some (.lst us)/\Reps K H' us (xs.map tI)/\Br xs/\1<=xs.length/\xs.length<=25) (fun key=>?_) ?_
   . refine⟨qb3 _,fun T0 WW=>?_⟩;have s0:Same H (upd H T0 (.tup [])):=Same.new WW;have t0:TI K (upd H T0 (.tup [])) (.ref T0) []:=TI.mk (.of Ab);generalize upd H T0 (.tup [])=H0 at s0 t0;refine⟨Au (by simp),fun L0 sD=>?_⟩;have s1:Same H0 (upd H0 L0 (.lst [.ref T0])):=Same.new sD;have eL:upd H0 L0 (.lst [.ref T0]) L0=some (.lst [.ref T0]):=Ab;generalize upd H0 L0 (.lst [.ref T0])=H1 at s1 eL;have TM:=s0.trans s1;refine⟨_,rfl,_,_,rfl,rfl,⟨by decide,by decide⟩,_,rfl,_,rfl,_,rfl,a,_,rfl,TM.seq hS,fun C hC=>?_⟩;rw[eZ];have s2:=Same.new (o:=.lst ((Zm ns (some 8) (some 56)).map V.int)) hC;have SH:(upd H1 C (.lst ((Zm ns (some 8) (some 56)).map V.int))) C=some (.lst ((Zm ns (some 8) (some 56)).map V.int)):=Ab;have xR:=EZ ns (some 8) (some 56);generalize Zm ns (some 8) (some 56)=ms at s2 SH xR;generalize upd H1 C (.lst (ms.map V.int))=H2 at s2 SH;refine⟨Au (by simp),fun T1 hT1=>?_⟩
     obtain⟨x,hx,x0,x1⟩:∃x:Int,Io [V.int 8,V.int 12,V.int 16,V.int 24] (kind%4)=some (.int x)/\0<=x/\x<=24:=by
      rcases (show kind%4=0\/kind%4=1\/kind%4=2\/kind%4=3 by omega) with e | e | e | e<;>rw[e]<;>exact⟨_,rfl,by decide,by decide⟩
     have s3:Same H2 (upd H2 T1 (.tup [.int 8,.int 12,.int 16,.int 24])):=Same.new hT1;refine⟨_,rfl,_,_,rfl,rfl,p4,T1,_,_,_,rfl,rfl,.of Ab,hx,C,ms,_,x,rfl,.of (s3 _ _ SH),O9m,x0,O9m,fun p us xs H4 hp s4 FL r4 hsh M7=>?_⟩;have Zt:=(s2.trans s3).trans s4;refine⟨p,xs,rfl,⟨p,us,rfl,.of FL,r4⟩,O9m,(fun y hy=>?_),fun D du H5 hD s5 CI r5=>?_⟩
     . obtain⟨i,hi⟩:=qc6 hy;have:=(B9 hsh (k:=i) (qa2.mp hi).1).2
       rwa [Fo hi]at this
     have MY:=Zt.trans s5
     have LZ:du.length=xs.length:=by
      have:=r5.length;unfold Fv at this;rw[qa1,qa1]at this;exact this
     refine⟨L0,D,_,_,rfl,rfl,.of (MY _ _ eL),.of CI,Au (by simp;omega),fun P hP=>?_⟩;have s6:=Same.new (o:=.lst ([V.ref T0]++du)) hP;refine key _ _ ⟨P,.ref T0::du,[]::Fv xs,rfl,(TM.trans MY).trans s6,Ab,⟨_,_,rfl,qm4 ((s1.trans MY).trans s6) t0,Reps.same s6 r5⟩,Ya hsh,by simp,?_⟩;unfold Fv;rw[qe3,qa1];omega
   refine IE fun p us xs H1 s1 hp r1 hsh eE M7=>?_;have LP:∀G,Same H1 G->LT K G (.ref p) xs:=fun G g=>⟨p,us,rfl,.of (g _ _ hp),Reps.same g r1⟩
   have ul:us.length=xs.length:=by have:=r1.length;simpa using this
   refine qr5 (fun σ' H'=>∃(n:Addr) (names:List Str),σ'=[rS a,iS kind,rS p,rS n,none,none,none,none,none,none,none,none,none]/\Same H1 H'/\H' n=some (.lst (names.map V.str))/\Gn xs names) (fun key=>?_) ?_
   . refine⟨_,rfl,a,ns,1,rfl,s1.seq hS,by decide,hl,_,_,rfl,rfl,(by show(0:Int)<1000003;decide),_,rfl,p,us,rfl,.inl (.of hp),_,us.length,rfl,qj2 _ (by decide),qg8 _ (by decide),O9m,fun n names H' hn s' hn' nl nd VP=>?_⟩;exact key _ _ ⟨n,names,rfl,s',hn',⟨hsh,O9m,O9m,nd,VP⟩⟩
   refine Ja fun n names H2 s2 hn ok=>?_;refine qr5 (fun σ' H'=>σ'=[rS a,iS kind,rS p,rS n,some (.str (Bw xs names)),none,none,none,none,none,none,none,none]/\Same H2 H') (fun key=>?_) ?_
   . exact⟨_,rfl,_,rfl,.ref p,n,xs,names,rfl,LP _ s2,.of hn,ok.sh,ok.le,ok.len,ok.ok,fun H' s'=>key _ _ ⟨rfl,s'⟩⟩
   refine Q4 fun H3 s3=>?_;have jM:=s2.trans s3;refine qr5 (fun σ' H'=>∃(q:Addr) (qu:List V) (ps:List (Int × Int)),σ'=[rS a,iS kind,rS p,rS n,some (.str (Bw xs names)),rS q,none,none,none,none,none,none,none]/\Same H3 H'/\H' q=some (.lst qu)/\Reps K H' qu ((ps.map pr).map tI)/\1<=ps.length/\ps.length<=4/\Gu xs ps) (fun key=>?_) ?_
   . exact⟨_,rfl,_,rfl,p,a,xs,ns,rfl,LP _ jM,(s1.trans jM).seq hS,hsh,eE,O9m,hl,fun q qu ps H' s' hq hq' rq h1 h4 hps=>key _ _ ⟨q,qu,ps,rfl,s',hq',rq,h1,h4,hps⟩⟩
   refine IE fun q qu ps H4 s4 hq rq hp1 FL hps=>?_;have fJ:=s3.trans s4;have Zt:=s2.trans fJ;have xY:qu.length=ps.length:=by have:=rq.length;simpa using this
   have hW:=Px ok hps;refine qr5 (fun σ' H'=>σ'=[rS a,iS kind,rS p,rS n,some (.str (Bw xs names)),rS q,some (.str (Str.join (wT " ") (Bz names ps))),none,none,none,none,none,none]/\Same H4 H') (fun key=>?_) ?_
   . refine⟨rfl,_,rfl,q,rfl,⟨_,.of hq⟩,fun D hD=>?_⟩
     refine Bp (K:=K) (a:=q) (xs:=qu) (fun i ys τ G=>Same H4 G/\G D=some (.lst ys)/\ys=(Bz names (ps.take i)).map V.str/\∃o,τ=[o,rS n])
      ⟨Same.new hD,Ab,rfl,none,rfl⟩ (fun i ys τ G _ ⟨g,_⟩=>.of (g _ _ hq)) ?_ ?_
     . rintro i x ys τ G hx ⟨g,Bl,hys,o,rfl⟩;have hi:i<ps.length:=by have:=(qa2.mp hx).1;omega
       obtain⟨dv,Sg,rv⟩:=rq.getV hx
       have BR:dv=tI (pr ps[i]):=by
        rw[qa3,qa3,qa0 hi]at Sg;simpa using Sg.symm
       subst BR;obtain⟨⟨a0,a1⟩,⟨b0,b1⟩,_⟩:=hps _ (qc8 hi)
       have e5:Bz names (ps.take (i+1))=Bz names (ps.take i)++[Str.join (wT "=") [nmAt names ps[i].1.toNat,nmAt names ps[i].2.toNat]]:=by
        unfold Bz;rw[qd6,qa0 hi,qa6];rfl
       have hl1:=(P6 ok.ok (k:=ps[i].1.toNat) (by have:=ok.len;omega)).le;have hl2:=(P6 ok.ok (k:=ps[i].2.toNat) (by have:=ok.len;omega)).le;generalize ps[i]=z at rv a0 a1 b0 b1 e5 hl1 hl2;obtain⟨av,rfl,Qk⟩:=TI.sq (show TI K G x (pr z) from Rep.same g rv);have Ow:Dv K G av [.int z.1,.int z.2]:=Qk;have eq1:(Str.ofString "=").length=1:=by decide +kernel
       have nl:=ok.len;refine⟨_,rfl,_,rfl,av,_,_,_,rfl,rfl,Ow,rfl,n,_,_,_,rfl,rfl,.of ((fJ.trans g) _ _ hn),Kj a0 O9m,?_⟩;refine⟨_,_,rfl,rfl,Au O9m,_,rfl,_,rfl,av,_,_,_,rfl,rfl,Ow,rfl,n,_,_,_,rfl,rfl,.of ((fJ.trans g) _ _ hn),Kj b0 O9m,?_⟩;refine⟨_,_,rfl,rfl,Au (by rw[Cz];omega),Bl,Bh (by rw[hys,qa1];unfold Bz;rw[qa1,qb5];omega),g.turn hD,Ab,?_,_,rfl⟩;rw[e5,qa6,hys];rfl
     . rintro ys τ G ⟨g,Bl,hys,_⟩;rw[qf2 (by omega)]at hys;refine⟨Str.ofString " ",D,Bz names ps,rfl,rfl,.of (by rw[Bl,hys]),?_,?_⟩
       . have e:(Str.ofString " ").length=1:=by decide +kernel
         have h1:=Iq (ys:=Bz names ps) (B:=17) fun y hy=>by
          obtain⟨a',b',hw⟩:=Mp hW y hy;exact hw.len
         have wl:(Bz names ps).length=ps.length:=qa1 ..;rw[e];omega
       . rw[Nn];exact key _ _ ⟨rfl,g⟩
   refine Q4 fun H5 s5=>?_;have MY:=Zt.trans s5;refine qr5 (fun σ' H'=>∃dk d:Addr,σ'=[rS a,iS kind,rS p,rS n,some (.str (Bw xs names)),rS q,some (.str (Str.join (wT " ") (Bz names ps))),rS dk,none,none,none,none,none]/\Same H5 H'/\Cy K Aq H' dk d (fun _=>none) 0) (fun key=>?_) ?_
   . refine fun dk dx UH hdx nd=>?_;have sN:Same H5 (upd (upd H5 dx (.own dk)) dk (.ins Aq dx [])):=(Same.new hdx).turn UH;refine⟨dk,dx,rfl,Ab,fun d H' xZ kp hD=>⟨rfl,key _ _ ⟨dk,d,rfl,fun c o e=>?_,hD⟩⟩⟩;exact kp c o (Be e UH) (sN c o e)
   refine X0 fun dk d H6 s6 xC=>?_;have QG:=MY.trans s6;refine qr5 (fun σ' H'=>∃sm:Addr,σ'=[rS a,iS kind,rS p,rS n,some (.str (Bw xs names)),rS q,some (.str (Str.join (wT " ") (Bz names ps))),rS dk,rS sm,none,none,none,none]/\Same H6 H'/\H' sm=some (.tup [.str (D3 names xs (B1 xs) id),.int ((B1 xs).length:Nat)])) (fun key=>?_) ?_
   . exact⟨_,rfl,_,rfl,p,n,xs,names,rfl,LP _ QG,.of (((fJ.trans s5).trans s6) _ _ hn),ok,fun sm H' s' h'=>key _ _ ⟨sm,rfl,s',h'⟩⟩
   refine Gj fun sm xU oZ hsm=>?_;have JL:=(s5.trans s6).trans oZ;refine qr5 (fun σ' H'=>∃(lo:Addr) (fs:List Int),σ'=[rS a,iS kind,rS p,rS n,some (.str (Bw xs names)),rS q,some (.str (Str.join (wT " ") (Bz names ps))),rS dk,rS sm,rS lo,none,none,none]/\Same xU H'/\Hy xs fs/\Hw xs ps fs/\H' lo=some (.tup [.str (D3 names xs (Bo fs) (lb fs)),.int ((Bo fs).length:Nat)])) (fun key=>?_) ?_
   . exact⟨_,rfl,_,rfl,_,rfl,p,n,q,xs,names,ps,rfl,LP _ (QG.trans oZ),.of ((fJ.trans JL) _ _ hn),⟨q,qu,rfl,.of (JL _ _ hq),Reps.same JL rq⟩,ok,O9m,hps,fun lo fs H' s' lab te h'=>key _ _ ⟨lo,fs,rfl,s',lab,te,h'⟩⟩
   refine v5 fun lo fs H7 s7 lab te hlo=>?_;have xB:=xC.same (oZ.trans s7);have nX:=s7 _ _ hsm;have WJ:=((QG.trans oZ).trans s7) _ _ hp;have K9:=JM ok hps hp1 FL lab te;have tl:=(Q7 ok.sh ok.le ok.len ok.ok).1
   have wl:(Str.join (wT " ") (Bz names ps)).length<=200:=by
    have e:(wT " ").length=1:=by decide +kernel
    have h1:=Iq (ys:=Bz names ps) (B:=17) fun y hy=>by
     obtain⟨a',b',hw⟩:=Mp hW y hy;exact hw.len
    have h2:=Jg (wT " ") (Bz names ps);have wl:(Bz names ps).length=ps.length:=qa1 ..;rw[e]at h2;omega
   have ck:(B1 xs).length<=40:=qe1 (Fl _ _) O9m
   have fk:(Bo fs).length<=40:=by
    have:=Jj fs fs.length;have:=lab.len;show(Nf fs fs.length).length<=40;omega
   have kl:∀m:Nat,m<=1000->(Str.ofString (toString (m:Int))).length<=3000:=fun m hm=>by
    have:=int_text_length_le (k:=1920) (by decide) (Pe hm);rw[PySem.ofString_length];omega
   have l9:(Str.ofString "keep old ").length=9:=by decide +kernel
   have l5:(Str.ofString "kept ").length=5:=by decide +kernel
   have YC:(Str.ofString "glue new old ").length=13:=by decide +kernel
   have vX:(Str.ofString "glue old old ").length=13:=by decide +kernel
   have kx:=kl us.length O9m;have kc:=kl (B1 xs).length O9m;have kf:=kl (Bo fs).length O9m;refine qr5 (fun σ' H'=>∃(rw:Addr) (us:List V),σ'=[rS a,iS kind,rS p,rS n,some (.str (Bw xs names)),rS q,some (.str (Str.join (wT " ") (Bz names ps))),rS dk,rS sm,rS lo,rS rw,none,none]/\Same H7 H'/\H' rw=some (.lst us)/\Reps K H' us (((Ki xs names ps fs).take 2).map rD)) (fun key=>?_) ?_
   . refine⟨_,rfl,_,_,rfl,rfl,Au O9m,_,rfl,p,us,rfl,.inl (.of WJ),_,rfl,Pe O9m,_,_,rfl,rfl,Au O9m,Au (by simp),fun t1 h1=>?_⟩;have g1:=Same.new (o:=.tup [.str (wT "keep old "++Bw xs names),.str (wT "kept "++Str.ofString (toString (us.length:Int)))]) h1;have r1':=Jy (K:=K) (Ab (H:=H7) (a:=t1) (o:=.tup [.str (wT "keep old "++Bw xs names),.str (wT "kept "++Str.ofString (toString (us.length:Int)))]));generalize upd H7 t1 (.tup [.str (wT "keep old "++Bw xs names),.str (wT "kept "++Str.ofString (toString (us.length:Int)))])=G1 at g1 r1';refine⟨_,rfl,sm,_,_,_,rfl,rfl,.of (g1 _ _ nX),rfl,_,rfl,Pe O9m,_,_,rfl,rfl,Au O9m,Au (by simp),fun t2 h2=>?_⟩;have g2:=Same.new (o:=.tup [.str (wT "core new old"),.str (wT "kept "++Str.ofString (toString ((B1 xs).length:Int)))]) h2;have r2':=Jy (K:=K) (Ab (H:=G1) (a:=t2) (o:=.tup [.str (wT "core new old"),.str (wT "kept "++Str.ofString (toString ((B1 xs).length:Int)))]));generalize upd G1 t2 (.tup [.str (wT "core new old"),.str (wT "kept "++Str.ofString (toString ((B1 xs).length:Int)))])=G2 at g2 r2';refine⟨Au (by simp),fun rw hrw=>?_⟩;have g3:=Same.new (o:=.lst [.ref t1,.ref t2]) hrw;refine key _ _ ⟨rw,_,rfl,(g1.trans g2).trans g3,Ab,⟨_,_,rfl,?_,⟨_,_,rfl,Rep.same g3 r2',rfl⟩⟩⟩;rw[ul]at r1';exact Rep.same (g2.trans g3) r1'
   refine Ja fun rw ru H8 s8 hrw rr=>?_;have QH:ru.length=2:=by have:=rr.length;rw[qa1]at this;exact this
   refine qr5 (fun σ' H'=>∃(rw:Addr) (us:List V),σ'=[rS a,iS kind,rS p,rS n,some (.str (Bw xs names)),rS q,some (.str (Str.join (wT " ") (Bz names ps))),rS dk,rS sm,rS lo,rS rw,none,none]/\Same H7 H'/\H' rw=some (.lst us)/\Reps K H' us (((Ki xs names ps fs).take 4).map rD)) (fun key=>?_) ?_
   . refine⟨_,rfl,_,rfl,sm,_,_,_,rfl,rfl,.of (s8 _ _ nX),rfl,Au (by simp),fun t0 h0=>?_⟩;have g0:=Same.new (o:=.tup [.str (wT "show new"),.str (D3 names xs (B1 xs) id)]) h0;have r0:=Jy (K:=K) (Ab (H:=H8) (a:=t0) (o:=.tup [.str (wT "show new"),.str (D3 names xs (B1 xs) id)]));generalize upd H8 t0 (.tup [.str (wT "show new"),.str (D3 names xs (B1 xs) id)])=G0 at g0 r0;refine⟨_,rfl,Au (by simp),fun t1 h1=>?_⟩;have g1:=Same.new (o:=.tup [.str (wT "show old"),.str (Bw xs names)]) h1;have r1:=Jy (K:=K) (Ab (H:=G0) (a:=t1) (o:=.tup [.str (wT "show old"),.str (Bw xs names)]));generalize upd G0 t1 (.tup [.str (wT "show old"),.str (Bw xs names)])=G1 at g1 r1;refine⟨Au (by simp),fun ll AD=>?_⟩;have gl:=Same.new (o:=.lst [.ref t0,.ref t1]) AD;have el:upd G1 ll (.lst [.ref t0,.ref t1]) ll=some (.lst [.ref t0,.ref t1]):=Ab;generalize upd G1 ll (.lst [.ref t0,.ref t1])=GL at gl el;have gx:=(g0.trans g1).trans gl;refine⟨rw,ll,_,_,rfl,rfl,.of (gx _ _ hrw),.of el,Au (by simp;omega),fun MZ EF=>?_⟩;have gn:=Same.new (o:=.lst (ru++[.ref t0,.ref t1])) EF;refine key _ _ ⟨MZ,_,rfl,(s8.trans gx).trans gn,Ab,?_⟩;exact Reps.app (Reps.same (gx.trans gn) rr) (ds:=((Ki xs names ps fs).take 2).map rD) ⟨_,_,rfl,Rep.same ((g1.trans gl).trans gn) r0,⟨_,_,rfl,Rep.same (gl.trans gn) r1,rfl⟩⟩
   refine Ja fun rw rv H9 s9 RC tN=>?_;have XW:rv.length=4:=by have:=tN.length;rw[qa1]at this;exact this
   refine qr5 (fun σ' H'=>∃(rw:Addr) (us:List V),σ'=[rS a,iS kind,rS p,rS n,some (.str (Bw xs names)),rS q,some (.str (Str.join (wT " ") (Bz names ps))),rS dk,rS sm,rS lo,rS rw,none,none]/\Same H7 H'/\H' rw=some (.lst us)/\Reps K H' us (((Ki xs names ps fs).take 7).map rD)) (fun key=>?_) ?_
   . refine⟨_,rfl,_,rfl,_,_,rfl,rfl,Au O9m,_,rfl,lo,_,_,_,rfl,rfl,.of (s9 _ _ hlo),rfl,_,rfl,Pe O9m,_,_,rfl,rfl,Au O9m,Au (by simp),fun t0 h0=>?_⟩;have g0:=Same.new (o:=.tup [.str (wT "glue new old "++Str.join (wT " ") (Bz names ps)),.str (wT "kept "++Str.ofString (toString ((Bo fs).length:Int)))]) h0;have r0:=Jy (K:=K) (Ab (H:=H9) (a:=t0) (o:=.tup [.str (wT "glue new old "++Str.join (wT " ") (Bz names ps)),.str (wT "kept "++Str.ofString (toString ((Bo fs).length:Int)))]));generalize upd H9 t0 (.tup [.str (wT "glue new old "++Str.join (wT " ") (Bz names ps)),.str (wT "kept "++Str.ofString (toString ((Bo fs).length:Int)))])=G0 at g0 r0;refine⟨_,rfl,lo,_,_,_,rfl,rfl,.of ((s9.trans g0) _ _ hlo),rfl,Au (by simp),fun t1 h1=>?_⟩;have g1:=Same.new (o:=.tup [.str (wT "show new"),.str (D3 names xs (Bo fs) (lb fs))]) h1;have r1:=Jy (K:=K) (Ab (H:=G0) (a:=t1) (o:=.tup [.str (wT "show new"),.str (D3 names xs (Bo fs) (lb fs))]));generalize upd G0 t1 (.tup [.str (wT "show new"),.str (D3 names xs (Bo fs) (lb fs))])=G1 at g1 r1;refine⟨_,rfl,Au (by simp),fun t2 h2=>?_⟩;have g2:=Same.new (o:=.tup [.str (wT "show old"),.str (Bw xs names)]) h2;have r2:=Jy (K:=K) (Ab (H:=G1) (a:=t2) (o:=.tup [.str (wT "show old"),.str (Bw xs names)]));generalize upd G1 t2 (.tup [.str (wT "show old"),.str (Bw xs names)])=G2 at g2 r2;refine⟨Au (by simp),fun ll AD=>?_⟩;have gl:=Same.new (o:=.lst [.ref t0,.ref t1,.ref t2]) AD;have el:upd G2 ll (.lst [.ref t0,.ref t1,.ref t2]) ll=some (.lst [.ref t0,.ref t1,.ref t2]):=Ab;generalize upd G2 ll (.lst [.ref t0,.ref t1,.ref t2])=GL at gl el;have gx:=((g0.trans g1).trans g2).trans gl;refine⟨rw,ll,_,_,rfl,rfl,.of (gx _ _ RC),.of el,Au (by simp;omega),fun MZ EF=>?_⟩;have gn:=Same.new (o:=.lst (rv++[.ref t0,.ref t1,.ref t2])) EF;refine key _ _ ⟨MZ,_,rfl,(s9.trans gx).trans gn,Ab,?_⟩;exact Reps.app (Reps.same (gx.trans gn) tN) (ds:=((Ki xs names ps fs).take 4).map rD) ⟨_,_,rfl,Rep.same (((g1.trans g2).trans gl).trans gn) r0,⟨_,_,rfl,Rep.same ((g2.trans gl).trans gn) r1,⟨_,_,rfl,Rep.same (gl.trans gn) r2,rfl⟩⟩⟩
   refine Ja fun rw rx uV qH NX nA=>?_;have xW:rx.length=7:=by have:=nA.length;rw[qa1]at this;exact this
   refine qr5 (fun σ' H'=>∃(rw:Addr) (us:List V),σ'=[rS a,iS kind,rS p,rS n,some (.str (Bw xs names)),rS q,some (.str (Str.join (wT " ") (Bz names ps))),rS dk,rS sm,rS lo,rS rw,none,none]/\Same H7 H'/\H' rw=some (.lst us)/\Reps K H' us (((Ki xs names ps fs).take 9).map rD)) (fun key=>?_) ?_
   . refine⟨_,rfl,_,rfl,_,_,rfl,rfl,Au O9m,_,rfl,lo,_,_,_,rfl,rfl,.of (qH _ _ hlo),rfl,_,rfl,Pe O9m,_,_,rfl,rfl,Au O9m,Au (by simp),fun t0 h0=>?_⟩;have g0:=Same.new (o:=.tup [.str (wT "glue old old "++Str.join (wT " ") (Bz names ps)),.str (wT "kept "++Str.ofString (toString ((Bo fs).length:Int)))]) h0;have r0:=Jy (K:=K) (Ab (H:=uV) (a:=t0) (o:=.tup [.str (wT "glue old old "++Str.join (wT " ") (Bz names ps)),.str (wT "kept "++Str.ofString (toString ((Bo fs).length:Int)))]));generalize upd uV t0 (.tup [.str (wT "glue old old "++Str.join (wT " ") (Bz names ps)),.str (wT "kept "++Str.ofString (toString ((Bo fs).length:Int)))])=G0 at g0 r0;refine⟨_,rfl,lo,_,_,_,rfl,rfl,.of ((qH.trans g0) _ _ hlo),rfl,Au (by simp),fun t1 h1=>?_⟩;have g1:=Same.new (o:=.tup [.str (wT "show old"),.str (D3 names xs (Bo fs) (lb fs))]) h1;have r1:=Jy (K:=K) (Ab (H:=G0) (a:=t1) (o:=.tup [.str (wT "show old"),.str (D3 names xs (Bo fs) (lb fs))]));generalize upd G0 t1 (.tup [.str (wT "show old"),.str (D3 names xs (Bo fs) (lb fs))])=G1 at g1 r1;refine⟨Au (by simp),fun ll AD=>?_⟩;have gl:=Same.new (o:=.lst [.ref t0,.ref t1]) AD;have el:upd G1 ll (.lst [.ref t0,.ref t1]) ll=some (.lst [.ref t0,.ref t1]):=Ab;generalize upd G1 ll (.lst [.ref t0,.ref t1])=GL at gl el;have gx:=(g0.trans g1).trans gl;refine⟨rw,ll,_,_,rfl,rfl,.of (gx _ _ NX),.of el,Au (by simp;omega),fun MZ EF=>?_⟩;have gn:=Same.new (o:=.lst (rx++[.ref t0,.ref t1])) EF;refine key _ _ ⟨MZ,_,rfl,(qH.trans gx).trans gn,Ab,?_⟩;exact Reps.app (Reps.same (gx.trans gn) nA) (ds:=((Ki xs names ps fs).take 7).map rD) ⟨_,_,rfl,Rep.same ((g1.trans gl).trans gn) r0,⟨_,_,rfl,Rep.same (gl.trans gn) r1,rfl⟩⟩
   refine Ja fun rw rz PU VF aD QI=>?_;have OE:=xB.same VF;obtain⟨kv,RN,_⟩:=OE.dk;have rh:Reps K (hid1 PU d) rz (((Ki xs names ps fs).take 9).map rD):=reps_hid RN QI;have vP:rw≠d:=fun z=>by rw[z,RN]at aD;cases aD
   have wG:hid1 PU d rw=some (.lst rz):=(Eu vP).trans aD;change Reps K (hid1 PU d) rz ((Ki xs names ps fs).map rD) at rh;have xV:rz.length=9:=by have:=rh.length;rw[qa1]at this;exact this
   have vH:(Ki xs names ps fs).length=9:=rfl;generalize Ki xs names ps fs=rows at rh K9 vH;refine⟨_,rfl,rw,rfl,⟨_,.of aD⟩,?_⟩
   refine for_list (K:=K) (a:=rw) (xs:=rz) (fun i σ G=>∃(m:Ft) (QO qO:Option V),σ=[rS a,iS kind,rS p,rS n,some (.str (Bw xs names)),rS q,some (.str (Str.join (wT " ") (Bz names ps))),rS dk,rS sm,rS lo,rS rw,QO,qO]/\Same (hid1 PU d) (hid1 G d)/\Cy K Aq G dk d m i/\FG m (rows.drop i))
    ⟨_,none,none,rfl,Same.refl _,OE,K9⟩ (fun i σ G _ ⟨_,_,_,_,g,_⟩=>.of (Ck _ _ (g _ _ wG))) ?_ ?_
   . rintro i v σ G hv ⟨m,QO,qO,rfl,g,hD,hR⟩;have hi:i<9:=by have:=(qa2.mp hv).1;omega
     obtain⟨dv,Sg,FJ⟩:=rh.getV hv;rw[qa3]at Sg;obtain⟨z,hz,rfl⟩:=qb1.mp Sg;obtain⟨t,rfl,ht⟩:=NF FJ
     have ed:rows.drop i=z::rows.drop (i+1):=by
      have h1:=(qa2.mp hz)
      rw[←h1.2];exact List.drop_eq_getElem_cons h1.1
     rw[ed]at hR;obtain⟨ws,m',Fa,Lb,wY⟩:=hR;refine⟨t,_,rfl,Ck.seqT (g.seqT ht),rfl,_,_,rfl,_,_,rfl,rfl,?_⟩;refine⟨_,rfl,_,rfl,_,rfl,dk,d,m,m',i,z.1,ws,z.2,rfl,hD,O9m,Fa,Lb,fun G2 g2 Hq=>⟨_,rfl,?_⟩⟩;refine Dt (by simp) ?_;exact⟨m',_,_,rfl,g.trans g2,Hq,wY⟩
   . rintro σ G ⟨m,QO,qO,rfl,g,hD,hR⟩;exact k G
end
theorem Eo{α:Type}{P:List α->Prop}(h:∀a0,P [a0])(us:List α)(hl:us.length=1):P us:=by
 cases us with
 | nil=>exact nomatch hl
 | cons a0 u0 =>
   cases u0 with
   | nil=>exact h a0
   | cons _ _=>simp at hl
theorem Dn{α:Type}{P:List α->Prop}(h:∀a0 a1,P [a0,a1])(us:List α)(hl:us.length=2):P us:=by
 cases us with
 | nil=>exact nomatch hl
 | cons a0 u0 =>
   cases u0 with
   | nil=>exact nomatch hl
   | cons a1 u1 =>
     cases u1 with
     | nil=>exact h a0 a1
     | cons _ _=>simp at hl
theorem Ht{α:Type}{P:List α->Prop}(h:∀a0 a1 a2,P [a0,a1,a2])(us:List α)(hl:us.length=3):P us:=by
 cases us with
 | nil=>exact nomatch hl
 | cons a0 u0 =>
   cases u0 with
   | nil=>exact nomatch hl
   | cons a1 u1 =>
     cases u1 with
     | nil=>exact nomatch hl
     | cons a2 u2 =>
       cases u2 with
       | nil=>exact h a0 a1 a2
       | cons _ _=>simp at hl
theorem Vi{α:Type}{P:List α->Prop}(h:∀a0 a1 a2 a3,P [a0,a1,a2,a3])(us:List α)(hl:us.length=4):P us:=by
 cases us with
 | nil=>exact nomatch hl
 | cons a0 u0 =>
   cases u0 with
   | nil=>exact nomatch hl
   | cons a1 u1 =>
     cases u1 with
     | nil=>exact nomatch hl
     | cons a2 u2 =>
       cases u2 with
       | nil=>exact nomatch hl
       | cons a3 u3 =>
         cases u3 with
         | nil=>exact h a0 a1 a2 a3
         | cons _ _=>simp at hl
set_option maxHeartbeats 4000000 in
noncomputable abbrev nS(K:W.Frag)(s:Str)(a:Addr):Prop:=W.nsIn K mainGlobals s=some (some (.ref a))
noncomputable abbrev nN(K:W.Frag)(s:Str):Prop:=W.nsIn K mainGlobals s=some none
noncomputable abbrev kO(K:W.Frag)(a b:Addr)(v:Bool):Prop:=PySem.W.kitOne K (.ref a) (.ref b)=some v
theorem all_mk{l:PySem.W.OpenLaw}{w:World}{K:W.Frag}{h:Heap}{mg:Str->Option Value}{fa:Addr}{Aq:Addr}
 {Xc:Addr}{DK fG:OAddr}{cR:Vx}{DL dY eV DB Zq FA:Value}
 {lF:Addr}{nK IX:OAddr}{mX:Vx}{NK iP iW IM fF IW:Value}
 {Ip:Tok}
 {Kn:Tok}
 {Hs:Addr}{R6:Nat}{Ql:Vx}{Ou Ot Os Oq:Tok}
 (X:K.In h) (G:h.Ns mainGlobals mg) (NZ:mg "law"=some (.ref fa))
 (IC:nS K "Desk" Aq)
 (q9:Ci K "is_whole" M2)
 (o0:Ci K "level_of" M0)
 (Ty:Ci K "faces_agree" Is)
 (Ze:Ci K "called_by" Ku)
 (Pq:Ci K "is_list_of_few" Fy)
 (m9:Ci K "spots_of" Mx)
 (Xg:Ci K "holders_of" Jr)
 (n6:Ci K "row_text" Mz)
 (bW:Ci K "is_name" O6)
 (bT:Ci K "spot_of" O2)
 (T3:BH K Aq "__init__" "Desk.__init__" Iv)
 (Zl:BH K Aq "keep" "Desk.keep" K0)
 (Tz:Ci K "are_figures" Me)
 (Xf:Ci K "holes_text" N6)
 (Zf:Ci K "bars_text" P4)
 (bX:Ci K "_law_whole" O8)
 (Zi:Ci K "_law_cell_at" Kx)
 (BY:Ci K "_law_level" Pb)
 (bY:Ci K "_law_meets" Pa)
 (EX:Ci K "_law_pick" Ro)
 (Xk:Ci K "_law_faces_by" Jv)
 (Zg:Ci K "_law_word_by" Kv)
 (BX:Ci K "_law_names" O9)
 (EW:Ci K "_law_text" Rm)
 (Zj:Ci K "_law_bent_of" Ky)
 (HW:Ci K "_law_cut" Wa)
 (Xj:Ci K "_law_glue_due" Ju)
 (Zh:Ci K "_law_shifted" Kw)
 (Pp:Ci K "is_whole_below" Fx)
 (Zc:Ci K "left_with" Ks)
 (LI:Ci K "bent" d4)
 (BS:Ci K "written" O1)
 (BU:Ci K "rows_of" O3)
 (Zb:Ci K "pieces_of" Kr)
 (BV:Ci K "is_pair" O5)
 (bV:Ci K "pair_of" O4)
 (EY:Ci K "_law_fits" Rq)
 (eX:Ci K "_law_side" Rn)
 (Sy:Ci K "_law_words_with" Hk)
 (Xl:Ci K "_law_core_due" Jw)
 (Xi:Ci K "_law_pairs_by" Jt)
 (L7:Ci K "is_place_of_level" En)
 (BW:Ci K "is_bent" O7)
 (EV:Ci K "is_row" Rk)
 (eY:Ci K "_law_next" Rp)
 (Xh:Ci K "_law_shape_by" Js)
 (LH:Ci K "fits" c8)
 (lJ:Ci K "away" d5)
 (Zd:Ci K "is_gluing" Kt)
 (m8:Ci K "words_of" Mw)
 (bZ:Ci K "_law_built" Pc)
 (Sx:Ci K "first_misfit" Hj)
 (lI:Ci K "core" c9)
 (n0:Ci K "shape_of" My)
 (L4:nS K "joined" Xc)
 (gX:K.lookup Xc=some ⟨DL,DK,.func (W.fnOf "joined" "joined" (Im Hi) (Gs Hi) (As Hi) .none dY eV DB fG Zq FA),cR⟩)
 (IA:W.codeIn K Zq "joined"=true)
 (J4:W.keepIn K (.ref Xc)=true)
 (Ol:Ci K "core_with_names" Fe)
 (HV:Ci K "glued" V9)
 (lH:Ci K "read" c7)
 (Ng:Ci K "glued_with_names" Ey)
 (T2:BH K Aq "answer" "Desk.answer" Iu)
 (Zk:BH K Aq "tell" "Desk.tell" Kz)
 (eW:Ci K "_law_told" Rl)
 (SS:nS K "law" lF)
 (QT:K.lookup lF=some ⟨NK,nK,.func (W.fnOf "law" "law" (Im N5) (Gs N5) (As N5) .none iP iW IM IX fF IW),mX⟩)
 (sR:W.codeIn K fF "law"=true)
 (QU:W.keepIn K (.ref lF)=true)
 (gU:PySem.W.makesIn K Aq=true)
 (gZ:W.keepIn K (.ref Aq)=true)
 (GH:PySem.W.plainGet K Aq Str.empty=true)
 (HG:PySem.W.hasDictIn K Aq=true)
 (gF:PySem.W.plainOver K Aq=true)
 (FY:W.findIn K (.ref Aq) "__setattr__"=some (some (.builtin "object.__setattr__")))
 (qr6:W.findIn K (.ref Aq) "kept"=some none)
 (Tg:nS K "FACE_COUNTS" Hs)
 (R9:K.lookup Hs=some ⟨.type "tuple",none,.seq #[.int 0 Ou,.int 2 Ot,.int 3 Os,.int 4 Oq] R6,Ql⟩)
 (Ta:W.nsIn K mainGlobals "MOST_PIECES"=some (some (.int 40 Ip)))
 (Qt:W.nsIn K mainGlobals "LONGEST_NAME"=some (some (.int 8 Kn)))
 (Vy:nN K "isinstance")
 (mG:nN K "int")
 (jD:nN K "bool")
 (mF:nN K "max")
 (MF:nN K "len")
 (MG:nN K "all")
 (fP:nN K "tuple")
 (FP:nN K "range")
 (jC:nN K "list")
 (Xz:nN K "enumerate")
 (JC:nN K "dict")
 (ME:nN K "min")
 (MD:nN K "zip")
 (mE:nN K "str") :
 ∃fd:FuncData,(∀(s:Shared) (v:Value),BindsTo s fd ⟨[v],[]⟩ [("_law_script",v)])/\∀base:Heap,K.In base->base.Ns mainGlobals mg->Bt l.prog w K mg base Dw 12 fa fd ["_law_script"] (V0 K):=by
 have e:=NZ.symm.trans (qo3 X G SS);cases e;have T:Txt K mg Aq:=⟨qo3 X G IC,⟨GH,HG,gF,FY⟩,qr6,⟨Hs,qo3 X G Tg,fun H=>.inr ⟨_,_,_,R9,rfl,rfl,rfl,(by show(4:Nat)<=sizeLine;decide),.cons ⟨_,rfl⟩ (.cons ⟨_,rfl⟩ (.cons ⟨_,rfl⟩ (.cons ⟨_,rfl⟩ (.nil))))⟩⟩,⟨_,qo3 X G Ta⟩,⟨_,qo3 X G Qt⟩,qh0 X G Vy,qh0 X G mG,qh0 X G jD,qh0 X G mF,qh0 X G MF,qh0 X G MG,qh0 X G fP,qh0 X G FP,qh0 X G jC,qh0 X G Xz,qh0 X G JC,qh0 X G ME,qh0 X G MD,qh0 X G mE⟩
 have Ev:=EN (st:=Hi) gX IA J4;have sY:=EN (st:=N5) QT sR QU;refine⟨W.fnOf "law" "law" (Im N5) (Gs N5) (As N5) .none iP iW IM IX fF IW,fun s v=>.of_eq rfl,fun base _ _=>?_⟩;have uv:=@Bf l.prog w K mg base h X G;have uy:=@W1 l.prog w K mg base;have Gx:=uv q9 (fun F=>Yr F T) (fun _ _ _ _ _ _=>Eo (fun _=>rfl));have El:=uv o0 (fun F=>Yq F T) (fun _ _ _ _ _ _=>Eo (fun _=>rfl));have J6:=uv Ty (fun F=>Rz F T) (fun _ _ _ _ _ _=>Dn (fun _ _=>rfl));have F4:=uv Ze (fun F=>Wh F T) (fun _ _ _ _ _ _=>Dn (fun _ _=>rfl));have Gh:=uv Pq (fun F=>Ob F T) (fun _ _ _ _ _ _=>Eo (fun _=>rfl));have Gw:=uv m9 (fun F=>Yn F T) (fun _ _ _ _ _ _=>Eo (fun _=>rfl));have Il:=uv Xg (fun F=>Tq F T) (fun _ _ _ _ _ _=>Dn (fun _ _=>rfl));have Pm:=uv n6 (fun F=>Yp F T) (fun _ _ _ _ _ _=>Ht (fun _ _ _=>rfl));have Cv:=uv bW (fun F=>f9 F T) (fun _ _ _ _ _ _=>Eo (fun _=>rfl));have Jh:=uv bT (fun F=>e9 F T) (fun _ _ _ _ _ _=>Dn (fun _ _=>rfl));have Wz:=HJ gU gZ (P:=l.prog) (w:=w) (base:=base) T3 (fun F=>R5 F T) (fun _ _ _ _ _ _=>Eo (fun _=>rfl));have Eb:=uy Zl (fun F=>Wo F T) (fun _ _ _ _ _ _=>Ht (fun _ _ _=>rfl));have J7:=uv Tz (fun F=>R3 F T) (fun _ _ _ _ _ _=>Eo (fun _=>rfl));have Lc:=uv Xf (fun F=>Tp F T) (fun _ _ _ _ _ _=>Eo (fun _=>rfl));have Nb:=uv Zf (fun F=>Wi F T) (fun _ _ _ _ _ _=>Ht (fun _ _ _=>rfl));have Sn:=uv bX (fun F=>g6 F T) (fun _ _ _ _ _ _=>Eo (fun _=>rfl));have Ee:=uv Zi (fun F=>Wl F T) (fun _ _ _ _ _ _=>Dn (fun _ _=>rfl));have Ed:=uv BY (fun F=>g9 F T) (fun _ _ _ _ _ _=>Eo (fun _=>rfl));have Ji:=uv bY (fun F=>g8 F T) (fun _ _ _ _ _ _=>Ht (fun _ _ _=>rfl));have Fn:=uv EX (fun F=>BE F T) (fun _ _ _ _ _ _=>Ht (fun _ _ _=>rfl));have E6:=uv Xk (fun F=>Tu F T) (fun _ _ _ _ _ _=>Dn (fun _ _=>rfl));have Nc:=uv Zg (fun F=>Wj F T) (fun _ _ _ _ _ _=>Ht (fun _ _ _=>rfl));have So:=uv BX (fun F=>g7 F T) (fun _ _ _ _ _ _=>Dn (fun _ _=>rfl));have W5:=uv EW (fun F=>BD F T) (fun _ _ _ _ _ _=>Dn (fun _ _=>rfl));have J8:=uv Zj (fun F=>Wm F T) (fun _ _ _ _ _ _=>Dn (fun _ _=>rfl));have l7:=uv HW (fun F=>DJ F T) (fun _ _ _ _ _ _=>Ht (fun _ _ _=>rfl));have Lg:=uv Xj (fun F=>Tt F T) (fun _ _ _ _ _ _=>Ht (fun _ _ _=>rfl));have Nd:=uv Zh (fun F=>Wk F T) (fun _ _ _ _ _ _=>Eo (fun _=>rfl));have C3:=uv Pp (fun F=>Oa F T Gx) (fun _ _ _ _ _ _=>Dn (fun _ _=>rfl));have M9:=uv Zc (fun F=>Wf F T Gw F4) (fun _ _ _ _ _ _=>Dn (fun _ _=>rfl));have Sm:=uv LI (fun F=>gQ F T Il) (fun _ _ _ _ _ _=>Eo (fun _=>rfl));have Sh:=uv BS (fun F=>e8 F T Pm) (fun _ _ _ _ _ _=>Dn (fun _ _=>rfl));have Si:=uv BU (fun F=>f6 F T Cv) (fun _ _ _ _ _ _=>Eo (fun _=>rfl));have M8:=uv Zb (fun F=>We F T Jh) (fun _ _ _ _ _ _=>Eo (fun _=>rfl));have Sk:=uv BV (fun F=>f8 F T Cv) (fun _ _ _ _ _ _=>Eo (fun _=>rfl));have Sj:=uv bV (fun F=>f7 F T Jh) (fun _ _ _ _ _ _=>Dn (fun _ _=>rfl));have Q0:=uv EY (fun F=>BF F T Ed Ji Sn) (fun _ _ _ _ _ _=>Dn (fun _ _=>rfl));have W6:=uv eX (fun F=>bE F T Fn) (fun _ _ _ _ _ _=>Dn (fun _ _=>rfl));have Iz:=uv Sy (fun F=>Qn F T E6) (fun _ _ _ _ _ _=>Ht (fun _ _ _=>rfl));have Lh:=uv Xl (fun F=>Tv F T J8 l7) (fun _ _ _ _ _ _=>Dn (fun _ _=>rfl));have Le:=uv Xi (fun F=>Ts F T Fn Ee Ed) (fun _ _ _ _ _ _=>Dn (fun _ _=>rfl));have Cl:=uv L7 (fun F=>K4 F T C3 El) (fun _ _ _ _ _ _=>Ht (fun _ _ _=>rfl));have Sl:=uv BW (fun F=>g5 F T Sm Gx) (fun _ _ _ _ _ _=>Dn (fun _ _=>rfl));have W3:=uv EV (fun F=>BC F T Cv J7 Sk) (fun _ _ _ _ _ _=>Eo (fun _=>rfl));have W7:=uv eY (fun F=>bF F T W6 Ji Fn Ed) (fun _ _ _ _ _ _=>Dn (fun _ _=>rfl));have Ld:=uv Xh (fun F=>Tr F T Iz Nc E6) (fun _ _ _ _ _ _=>Ht (fun _ _ _=>rfl));have eK:=uv LH (fun F=>gP F T El J6 Cl) (fun _ _ _ _ _ _=>Dn (fun _ _=>rfl));have EL:=uv lJ (fun F=>GQ F T Sl M9) (fun _ _ _ _ _ _=>Dn (fun _ _=>rfl));have Na:=uv Zd (fun F=>Wg F T Cl El C3) (fun _ _ _ _ _ _=>Dn (fun _ _=>rfl));have Pk:=uv m8 (fun F=>Ym F T W3) (fun _ _ _ _ _ _=>Eo (fun _=>rfl));have Sq:=uv bZ (fun F=>i3 F T Ld Q0 W7) (fun _ _ _ _ _ _=>Ht (fun _ _ _=>rfl));have Iy:=uv Sx (fun F=>Qm F T eK) (fun _ _ _ _ _ _=>Eo (fun _=>rfl));have EK:=uv lI (fun F=>GP F T Sm EL) (fun _ _ _ _ _ _=>Eo (fun _=>rfl));have Pl:=uv n0 (fun F=>Yo F T Iy Gh) (fun _ _ _ _ _ _=>Eo (fun _=>rfl));have BP:Has l.prog w K mg base "joined" ["shape","firsts","one","other"] 1 (Do K 0):=⟨_,_,qo3 X G L4,J4,Ev.binds (ps:=["shape","firsts","one","other"]) (fun _ _ _ _ _ _=>Vi (fun _ _ _ _=>rfl)),i4 Ev⟩
 have bP:Has l.prog w K mg base "joined" ["shape","firsts","one","other"] 2 (Do K 1):=⟨_,_,qo3 X G L4,J4,Ev.binds (ps:=["shape","firsts","one","other"]) (fun _ _ _ _ _ _=>Vi (fun _ _ _ _=>rfl)),Jd Ev T  BP⟩
 have BO:Has l.prog w K mg base "joined" ["shape","firsts","one","other"] 3 (Do K 2):=⟨_,_,qo3 X G L4,J4,Ev.binds (ps:=["shape","firsts","one","other"]) (fun _ _ _ _ _ _=>Vi (fun _ _ _ _=>rfl)),Jd Ev T  bP⟩
 have bO:Has l.prog w K mg base "joined" ["shape","firsts","one","other"] 4 (Do K 3):=⟨_,_,qo3 X G L4,J4,Ev.binds (ps:=["shape","firsts","one","other"]) (fun _ _ _ _ _ _=>Vi (fun _ _ _ _=>rfl)),Jd Ev T  BO⟩
 have BN:Has l.prog w K mg base "joined" ["shape","firsts","one","other"] 5 (Do K 4):=⟨_,_,qo3 X G L4,J4,Ev.binds (ps:=["shape","firsts","one","other"]) (fun _ _ _ _ _ _=>Vi (fun _ _ _ _=>rfl)),Jd Ev T  bO⟩
 have Oh:Has l.prog w K mg base "joined" ["shape","firsts","one","other"] 6 (Do K 5):=⟨_,_,qo3 X G L4,J4,Ev.binds (ps:=["shape","firsts","one","other"]) (fun _ _ _ _ _ _=>Vi (fun _ _ _ _=>rfl)),Jd Ev T  BN⟩
 have F3:=uv Ol (fun F=>M4 F T EK) (fun _ _ _ _ _ _=>Dn (fun _ _=>rfl));have l6:=uv HV (fun F=>dJ F T Oh F4 Na) (fun _ _ _ _ _ _=>Dn (fun _ _=>rfl));have EJ:=uv lH (fun F=>GO F T Si M8 Pl) (fun _ _ _ _ _ _=>Eo (fun _=>rfl));have Fm:=uv Ng (fun F=>L5 F T Gw l6 Sj) (fun _ _ _ _ _ _=>Ht (fun _ _ _=>rfl));have Ix:=uy T2 (fun F=>R4 F T Sh Lc Nb Eb F3 Fm) (fun _ _ _ _ _ _=>Ht (fun _ _ _=>rfl));have La:=uy Zk (fun F=>Wn F T Pk Ix Eb EJ) (fun _ _ _ _ _ _=>Dn (fun _ _=>rfl));have W4:=uv eW (fun F=>bD F T La) (fun _ _ _ _ _ _=>Ht (fun _ _ _=>rfl));exact jU sY T So W5 Le Wz Lh Lg Ee Nd Sq W4
theorem walk{l:PySem.W.OpenLaw}{q:Program}{loose:List Str}{XP:(Str->Option Value)->Heap->Prop}{YP:World->Heap->Prop}{d:DefRec}{K:Params->PySem.W.Frag}(hn:l.most=some 63)(hdf:d.params.defaults=[])
 (hY:∀(w:World) (h:Heap),YP w h->(K w.params).In h)
 (F:∀(w:World) (mg:Str->Option Value) (fa:Addr) (h:Heap),(K w.params).In h->h.Ns mainGlobals mg->mg d.name=some (.ref fa) →
   ∃fd:FuncData,(∀(s:Shared) (u:Value),BindsTo s fd ⟨[u],[]⟩ [("_law_script",u)])/\∀base:Heap,(K w.params).In base->base.Ns mainGlobals mg->Bt l.prog w (K w.params) mg base Dw 12 fa fd ["_law_script"] (V0 (K w.params))) :
 PySem.W.WalkO q loose XP YP l.row.toRowW d [] (fun f vs=>PySem.call f vs) :=
 L2.walk_of (n:=63) (k:=12) (x:="_law_script") (CX:=fun _=>Dw) (sp:=fun w=>V0 (K w.params)) hn (by decide) hdf ⟨rfl,by decide,by decide,rfl⟩ hY F (fun _ _ a ns hl _ hS=>⟨a,ns,rfl,hS,hl,fun _=>rfl⟩) fun _ _ _ _ _ z=>z
end Hb
structure PySem.W.Fast:Prop where(tw14374297479868423760 tw13553145920499161698 tw13665779801751026246 tw17107169891193651083 tw3387266945903630662 tw17086753598297907377 tw8431238090250861183 tw3290529480076843650 tw326131966129675207 tw11838240144159151488 tw15711250335916692343 tw253543019309581589 tw17890861364966887501 tw13632826395374088690 tw10841439891984005374 tw5242829370237926271 tw11986519816715401088 tw13314047866236002582 tw15444112908268784096 tw9193310466843805916 tw5948356897204583782 tw7695697227841272292 tw17794672610529279608 tw9048572463263880327 tw4911459903117851831 tw3623629546075296344 tw16229651817047835474 tw1193335632724428939 tw5170105118380794256 tw17905996403323211472 tw13318160153971892306 tw1736830200791906603 tw738908121691067828 tw9902245769861359561 tw11028857684743055746 tw3585001091370167794 tw12324244855184196666 tw7332337089895882897 tw8499058508618726579 tw17987467505098035373 tw14698551545304292421 tw3400923656219233524 tw56729125573261848 tw16373107208929592086 tw10029379916404236288 tw11436645211674201119 tw5873696506975274064 tw11976422076558688272 tw10587948597457396546 tw12061063237657613230 tw7499060289321031778 tw8668693285980697974 tw15285274091730061478 tw12443335634880706020 tw2310695188916370428 tw18154541220855734078 tw3369227274565437287 tw6595687192115981385 tw5019122975376667135 tw5572835219474567846 tw6777385823161613971 tw493298420453245552 tw16912337313543457775 tw4406328532080221335 tw15192825352833187439 tw7640140455106701386 tw10149547462591266709 tw14271029314298743484 tw4783299848251836044 tw687314706227530950 tw5271766118031598404 tw14790441141321744359 tw3573783258714781863 tw8138366284096061069 tw4496983987402517877 tw7225174824329016093 tw16072196342945057659 tw16362896192529947762 tw18123128857497196372 tw9014610440761836268 tw6434519219027389476 tw17766209010867263094 tw3523685791779598676 tw5972407938147345049 tw7832587277397828652 tw16004856222834606802 tw2772047693707751121 tw13468133641773023230 tw11511758956440120772 tw18327811013617428098 tw1281623623420158320 tw5977629537054228755 tw2590122131623550613 tw8232876326341795718 tw11569624788967501877 tw10564301659033235451 tw7385703040951409327 tw16358255630004677337 tw10738288485954187565 tw367367327202782728 tw18312484254032185720 tw1331381502045559977 tw6101642112232412108 tw14569404690958445860 tw3039854460673481621 tw16865256341440023699 tw16129181449158336447 tw15635100236904284346 tw12027037348756156729 tw1244680440043963200 tw15330300958664566875 tw10321648691611525149 tw1889075535031170925 tw5501399681381552560 tw2118827343661471131 tw5051427058185653575 tw1548552079535892768 tw11545428956096887884 tw15224007108865221137 tw15260709096132634368 tw1243081647730388235 tw2963253744778597242 tw18425288665872350167 tw6350231204067826117 tw11229077015149618208 tw9634571168710523694 tw15401422389282227747 tw9085500146220859344 tw6894620777808788917 tw6713280037733105184 tw13658625572249950613 tw5835267148900303559 tw10512503391657981495 tw2074573807566637062 tw17732936183218896221 tw11023891049665924467 tw8832499478962260725 tw10635648621906696103 tw10378499595028178617 tw18119914265321003886 tw1831899638083594461 tw1184372598916052002 tw6131862464444130470 tw14817459601083096305 tw954084141967631775 tw17060378426672856115 tw12952628550035406412 tw14193416285990428562 tw3976179855293268950 tw3669513535125492284 tw10082134074571955881 tw16632532917511195508 tw833799171744683026 tw439653109993689521 tw2139750546454983637 tw13228720875499444532 tw11226856109593519898 tw8156171813836985903 tw9058253102452292909 tw1994432864459903129 tw13531316062700415709 tw4499092037254335593 tw2650712182732879363 tw13296167658536363916 tw388497795618581603 tw16510382308297030733 tw12238386508883811211 tw14663436646335949971 tw17716213009056343250 tw5426748188602030764 tw268704773315948487 tw5136041414004909883 tw11430683688997479729 tw5724660185388884261 tw6490259314543096642 tw2122526651327847084 tw3278310115799853691 tw7288872479793919012 tw3362823799570405670 tw9996740616568881148 tw9518942150112932122 tw9769612753654701012 tw12510043894669620261 tw13071316615249647100 tw3528260994095945015 tw528349274334264624 tw16301807512077276495 tw10123176969818613667 tw6672298008507209171 tw7316333493327563368 tw16713250450213554621 tw8733654807991592002 tw15156121240966430113 tw3034305821462550773 tw9424642375697020897 tw8495096912432085838 tw13423105463945277948 tw1564902056822924513 tw18085443560167229001 tw16271060393028343282 tw1258368616904740324 tw7639364302493188152 tw18174293622016716241 tw13836716027955191833 tw10731295130538772183 tw15776461084336028933 tw3994802705573893351 tw6526639709428671834 tw1988450204737217204 tw10747278637125075368 tw12281512193272774604 tw2931571758566607837 tw12969084645926138238 tw1154361201484171842 tw5371196691018522127 tw12651831704141461421 tw12783416271884509024 tw9705124076412484135 tw10257918567560414445 tw18044961651010925626 tw14112401914121084885 tw12036761221699368963 tw14024797660372920445 tw17819159632141851787 tw10549186557648287989 tw15140767916003676428 tw14247464923977508807 tw17242106216446167320 tw15459928878542179467 tw7212360726811592700 tw3111373040513308644 tw2927667469099452158 tw9154222259840878421 tw1692747844102522277 tw18007648723125065574 tw1977156775302127988 tw3555398758942305272 tw10304905869695394525 tw2538350711735553966 tw12211164996126512029 tw15354334021479065761 tw9690627783262663779 tw13539789344704211741 tw17355328610206117369 tw8302263093169452272 tw16598363447311110962 tw16381299336308590719 tw17683618510122755846 tw12014926016037455730 tw220756475035406353 tw1929817881363255198 tw4475583383935920905 tw3971680179721500324 tw12360578473404027483 tw5473720051091080964 tw12454968334358836560 tw16811349822007676699 tw18144642175934050049 tw2239519131932309157 tw16936061436302348738 tw9969024048020075126 tw4714618264125397899 tw11499028729546531500 tw16204323705535984934 tw16502293170208255711 tw17314304051827810138 tw4401491835541394324 tw8247311775397380618 tw2509631585372640913 tw11428714403781293262 tw11155717409838269294 tw1697583499503115186 tw6666292952575137510 tw567141706607113565 tw7094760563506973468 tw18098989159924874883 tw4964339050119753435 tw3314790621723088853 tw10500097591351064987 tw8530992293272620308 tw5764937965867232717 tw12675478215914237278 tw12102924159032409262 tw7602127511059164895 tw95958238652614692 tw7839136165216205309 tw3518045011704431362 tw11456599692102969267 tw15811841817192322054 tw15591019243930256871 tw9751568137072548730 tw7912401971473378947 tw14048277394006611466 tw8455502753781186142 tw13225274335351696785 tw15977390158443629988 tw196677173003787500 tw18442421148445016298 tw1842814193797114992 tw1974321542745535071 tw17811171175983165383 tw13348826713373711764 tw10538670581023485589 tw8629458556598330334 tw17946304310074162136 tw12168020793893313686 tw3235597140221942528 tw7329072826372289469 tw12137681648640924482 tw14055692294398709102 tw2355631834434662237 tw10411449889422618371 tw2675062272769840067 tw16505222907045655379 tw3743643449589951492 tw11046124856397598405 tw4759317031332088742 tw9213206209542224914 tw11683693482961920947 tw9562265330193612998 tw14778605863371766397 tw4818807879627203884 tw7510897426636448103 tw14233045815723093816 tw7817697838961871293 tw12836541537998419206 tw16375792223751971844 tw5369311103544814779 tw1295430336855055269 tw7557616151943306882 tw15247496889434081515 tw15830717832119162303 tw16277737024964664507 tw5773807839660192581 tw13735785561288898158 tw5806453704987020384 tw11311601028317744047 tw12509634183795336883 tw2183211236244388075 tw1854249837389665820 tw17385860989614130861 tw15061056346874554390 tw3838468008666303819 tw6449498522209200782 tw8302569072139248575 tw13098829601051969968 tw5406928568056291269 tw81990131390601604 tw5316692177941384168 tw470062428559895761 tw5168762975728991364 tw2490476265096435247 tw13078529915348444019 tw5012641871673835802 tw8021898705923625325 tw13371398639423695764 tw10106850554168422129 tw13975608480653304539 tw11355684766177184112 tw4900296160442057570 tw8370122110760499932 tw17495004770208214621 tw9405984201668114447 tw1131332051124640575 tw11616964619269885204 tw9546304968119381305 tw11940009989084638046 tw14870814898937668907 tw8698857988776033735 tw15949093123190975957 tw1047717592448426447 tw15553336598232449456 tw4966577443482593356 tw9906202410509542004 tw9475943550837252285 tw9322727623303433446 tw16237617551014567718 tw3573054976007143101 tw3459397503071675525 tw16055281916502189725 tw12773752372375806869 tw1160392323623552728 tw7812451493985822388 tw12190963600197804208 tw8591318311685622917 tw8141693437655681275 tw16246208560751170854 tw9491180505915025809 tw10461751772785206191 tw15192382754789988294 tw6495164805273860198 tw1474871459269458697 tw11527925851384061177 tw39881955751905033 tw16360996920215045234 tw5785921276093069316 tw18091185684995052806 tw5408709041725043559 tw13772556457332508680 tw12006694935824704916:True)
open PySem PySem.W PyProof.Rows
set_option maxRecDepth 100000 in
set_option maxHeartbeats 0 in
theorem PySem.Challenge.cw_holebook_k73_core_and_glue_rows_holds : PySem.Challenge.rw_holebook_k73_core_and_glue_rows.Holds := by
 w_on;o_law;k_head;(case hw=>w_witness2)
 k_fill
 refine Hb.walk (l:=PySem.Challenge.rw_holebook_k73_core_and_glue_rows) rfl rfl (fun w h Y=>PySem.W.kIn_of Y) ?F
 case F =>
  intro w mg fa h KX G hmg
  refine' Hb.all_mk KX G hmg ..
  all_goals try delta Hb.nS Hb.nN Hb.kO
  all_goals try first | exact⟨_,_,by k_is,⟨⟨_,_,_,_,_,_,_,_,_,rfl,by k_is,by k_is⟩,by k_is⟩⟩ | exact⟨_,_,by k_is,by k_is,⟨⟨_,_,_,_,_,_,_,_,_,rfl,by k_is,by k_is⟩,by k_is⟩⟩ | k_is | kit_is | kts_isx | k_exc | k_qdec | kernel_rfl | decide +kernel
